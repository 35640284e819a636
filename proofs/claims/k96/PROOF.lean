import PyProof.Rows.All
import Wide.All
import KE.KNestM
import KE.RegKIsAll
import OpenK.KOwn
import OpenK.KLine
import Wide.FinOn
import Open.Tops
import Lean
import PyProof.EqAt
import PyProof.EqKinds
import PyProof.TupleCall
import KE.KEqDict
import KE.KDictOf
import KE.KItem
import KE.IntBitsLaws
import KE.KEqSeq
import KE.KIntText
import KE.IntTextLaws
import KE.KMinKey
import PySem.Challenge.RW_feastwheel_k96_whole_put_shorter
set_option Elab.async false
set_option linter.all false
set_option compiler.extract_closed false
set_option bootstrap.genMatcherCode false
set_option genSizeOf false
open Lean in
local macro_rules | `(command| #print $s:str) => do
  let mut xs := #[]
  let l := s.getString.splitOn " "
  for i in [0:l.length / 2] do
    let mut n := 0
    for c in l[2 * i + 1]!.toList do
      n := n + c.toNat - 48
      xs := xs.push (mkIdent (.mkSimple s!"tw{hash (Name.mkStr2 "sh" s!"{l[2 * i]!}_{n}")}"))
  MonadRef.withRef .missing do return mkNullNode (<- xs.mapM fun x => `(command| theorem $x:ident : True := ⟨⟩))
open Lean in
local macro_rules | `(tactic| walk_at $s:str) => do
  let k := s.getString
  unless k == "K" || k == "A" do Macro.throwUnsupported
  let mut r := #[]
  let mut e := 0
  let mut d : Int := 0
  for x in "3.1843 11.-1851 62 0.195 0.-195 2.4 63 2.4 611215 2.4 63 2.4 611215 2.4 611215 2.4 63 2.4 63 2.4 63 2.4 63 2.4 611215 2.4 6321231213231212 7.3 1212M11213121312131212 14.3 12131213231213121312131213121312131212 0.3 1213121312131213121312131212711213121312131212 0.3 121312131213121323121323231212 7.3.2 121323121312131217 9.3 12131214 0.189 0.-189.2 <11212 0.4 621213121312131213121325 9.7 611213121312132312131215 2.3 23121323121312131212 0.4 611213121312131215 16.3 1212S11213121312141212 0.3 1213121312131213231213121322 7.3.2 121312131213121312131214 0.375 0.-375.2 2.4 611215 2.4 611215211212 0.4 6112152112131212 0.4 621215 2.4 611215 2.4 611215 2.4 611215 2.4 611215 2.4 611215 2.4 611215 2.4 611215 2.4 611215 2.4 611215 2.4 611215 2.4 611215 2.4 61121521 7.3 12131213121721121312131212 0.3 121312131213121312131213121312131213121312131212 0.3 1213121322 0.3.18 121212 0.5 12131213121312131213121312131213121312127112131212 0.3 12131213121412131212 0.5 121323121271121327211212 0.3 1213121312131213121312131212".splitOn " " do
    let z := x.toList.map fun c => (c.toNat : Int) - 48
    for y in if x.contains '.' then [(x.splitOn ".").map (·.toInt!)] else (List.range (z.length / 2)).map fun i => [z[2 * i]!, 0, z[2 * i + 1]!] do
      e := e + y[0]!.toNat
      d := d + y[1]!
      for _ in [0:(y.getD 2 1).toNat] do
        r := r.push (Syntax.mkNumLit (toString e), mkIdent (.mkSimple s!"o_{e + d}"))
        e := e + 1
  if k == "A" then `(tactic| exact [$(r.map (·.1)),*])
  else `(tactic| exact $(<- r.foldrM (fun p z => `((nat_lit $(p.1), $(p.2) $(mkIdent `P)) :: $z)) (<- `([]))))
namespace PySem.W.Fast
#print "tree 4?@G@GG@@@@GX~lc`i:hYcglGNUHGGGGGGGGGGGHkFNWid o 1211211121111111221111211111122111121121111111112211112111111221111211211111111122111121121111111112211112111111221111211111122111121111112211112111111221111211211111111122111121111111211121111121112111122211111211111211111211111211121112111211111211111211111211111211112221111121111121111121112111112111112111112111112111112111112111122211111211111211111211111211111211111211111211111211111211111211111211112221111121111121111121111121112111112111211121111221112111211111211121111121111121111111111122111211211111211111111111121112111211112211112111211111211111211111211111211111211111112221111221111211211111211111211111211121111121111111112221112111112111211111211111211112211112112111112111112111112111111111121111222111112111112111112111112111112111112111112111112111112111111211112221111121111121111121111121112111112111112112211121112111112111112111112111112111112111111111112211112112111111111221111211211111111112111122111121121111111111211111211112211112111211111111122111121121111111112211112112111111111221111211211111111122111121121111111112211112112111111111221111211211111111122111121121111111112211112112111111111221111211211111111122111121121111111112211112112111111111221111211211111111112211121121111121111121111111111112111112111112111122211111211111211111211111211111211111211111211111211111211111211111211112221111121111121122111111111111111111112111142211111211111211111211111211111211111211111211111211111211111211111211111211112221111121111121111112111112111142211111211121111111121121111121111111111211112221111121111121111121111121111121111121111 sts 4A@G@GG@@@@GX~lc`i:hYcglGNUHGGGGGGGGGGGHkFPYg env 1"
def tw14914193171436102954:PySem.Program:=PySem.Challenge.pw_feastwheel_k96_whole_put_shorter
theorem te14914193171436102954:PySem.Challenge.pw_feastwheel_k96_whole_put_shorter=tw14914193171436102954:=rfl
end PySem.W.Fast
open PySem PySem.W PyProof.Rows in
set_option maxRecDepth 100000 in
set_option maxHeartbeats 0 in
open_shared sh for PySem.Challenge.pw_feastwheel_k96_whole_put_shorter leaving 0
namespace Hd
open PySem PySem.W PySem.Calls PyProof.Rows sh
set_option maxRecDepth 100000
set_option maxHeartbeats 0
theorem ws(h:PySem.Challenge.rw_feastwheel_k96_whole_put_shorter.row.wellSaid=true->PySem.Challenge.rw_feastwheel_k96_whole_put_shorter.row.Holds):PySem.Challenge.rw_feastwheel_k96_whole_put_shorter.Holds:=by
  w_on; o_law; exact h (by assumption)
noncomputable abbrev pw:Program:=PySem.Challenge.pw_feastwheel_k96_whole_put_shorter
noncomputable def vw:Program:={pw with main:={pw.main with body:=pw.main.body.drop 201}}
noncomputable def lo:List Str:=(["FeastError","NoNumber","TooLong","NoMeasure","NoDate","InGap","NoChange","NoCycle","NoText","NoRule","NoName","NoRow","FIGURES","MOST_FIGURES","LETTERS","MOST_LETTERS","MOST_SIGNS","is_name","is_readable","is_number","read_number","read_place","read_date","place_text","date_text","MOST_ROWS","widest","names_on","almanac","refuse_below_one","divisor","equation","common","met","ahead","LONGEST","PIECE","refuse_too_long","round_by","days_in","on","on_rounds","full_bits","bits_by","stretched","primes_of","comes_again","least","common_size","both","either","unlike","without","other_days","later","folded","next_day","last_day","ones_in","days_ahead","how_many","place_of_one","nth_day","GREATEST_BASE","MOST_TERMS","GREATEST_N","term_on","signs_upto","is_term","least_length","refuse_measure","period_of","Measure","MOST_MONTHS","LONGEST_MONTH","Calendar","term_text","term_words","refuse_months","Sun","refuse_part","Moon","read_numbers","read_term","read_terms","read_sun","read_moon","read_calendar","Change","moved","MOST_PAIRS","first_parted","same","first_of_pairs","first_met","paper_of","meeting","within","refuse_wanted","days_of_month","days_of_year","dated","gathered","upon","until","till","nearer_ahead","near","kth","every","Rule","All","No","each_text","Each","wanted_text","dated_text","Dated","Not","Both","Either","But","Unlike","Later","Upon","Until","Near","Till","Kth","Every","MOST_BRACKETS","PAIR_WORDS","Reader","words_of","take_word","take_number","take_wanted","take_each","take_date","take_numbered","take_every","take_pair","take_within","take_plan","made_date","made_pair","made","read_rule","told_by_one","parts_in","shorter","FORMS","tell_date","tell_day","tell_move","tell_on","day_or_never","tell_next","tell_last","tell_nth","tell_count","tell_size","tell_same","paper_text","tell_meet","tell_within","tell_shorter","tell_show","tell_almanac","ANSWERS","words_of_row","kept_by","looked_up","named_rules","keep","Desk","_law_cell_at","_law_divisor","_law_leaf","_law_grown","_law_text","_law_many","_law_alike"]:List String).map Str.ofString
noncomputable def bd:List Stmt:=behindTheImports pw
noncomputable def cd:Code:=.body bd sh.env_1
noncomputable def S0(w:World)(os:OsState):Shared:=⟨boot_heap w.params,Array.mk [],boot_drawn,boot_toks,os⟩
noncomputable def tB(w:World)(os:OsState):SharedT:=⟨sh.tree_4 w.params,15,{},Array.mk [],{},187,os⟩
noncomputable def tK(w:World)(os:OsState):SharedT:=⟨sh.tree_1896 w.params,1724,{},Array.mk [],{},2626,os⟩
noncomputable abbrev hK(w:World)(os:OsState):Shared:=(tK w os).abs
noncomputable def xt(s:Shared):Bool:=xlAt vw [] s&&recOk (RowW.records PySem.Challenge.rw_feastwheel_k96_whole_put_shorter.row.toRowW) s
section
variable(w:World)(os:OsState)
theorem pre:topGo treeTable pw w 11 (some (.ref 6)) 12 (S0 w os) (topStub pw)=some ((tB w os).abs,⟨denote treeTable cd,cd,⟨0,0,0,0⟩,[topFrame ⟨0,0,0,0⟩]⟩):=by kernel_rfl
theorem block:segRun treeTable pw w 11 (some (.ref 6)) 1 1 (tB w os).abs (blockOf bd sh.env_1 cd ⟨0,0,0,0⟩ [topFrame ⟨0,0,0,0⟩])=some (.next,(tB w os).abs,cd,⟨0,0,0,0⟩):=by kernel_rfl
theorem fin:topRun treeTable pw w 11 (some (.ref 6)) 2 (tK w os).abs (restOf [] sh.env_1 cd ⟨1101,0,1123,81⟩ [topFrame ⟨0,0,0,0⟩])=some (tK w os).abs:=by kernel_rfl
theorem run:topRun treeTable pw w 11 (some (.ref 6)) 14243 (S0 w os) (topStub pw)=some (tK w os).abs:=go_top (n:=12) (N:=14231) (pre w os) (piece_block (n:=1) (N:=14230) (block w os) (sh.chain pw bd w os [] 2 _ (fin w os)))
theorem siz:((boot_heap w.params).isNs mainGlobals&&(Array.mk []:Array GenState).size==0,(boot_heap w.params).objs.size,(boot_heap w.params).nsMap mainGlobals "__annotations__")=(true,11,some (.ref 6)):=by kernel_rfl
theorem l1:namesBound pw (hK w os).heap=true:=by kernel_rfl
theorem l2:gensDone (hK w os)=true:=by kernel_rfl
theorem l3:laidKept (boot_heap w.params) (hK w os).heap=true:=by kernel_rfl
theorem l0:staticsOk (importedModules pw.main.body) (boot_heap w.params) (hK w os).heap=true:=by kernel_rfl
theorem s1:seen ((recsOf vw).map (·.name)) (ownsOf vw) [] {hK w os with gens:=#[]}=expectedOf vw:=by kernel_rfl
theorem s2:(hK w os).heap.bltView=bltViewBooted:=by kernel_rfl
theorem s3:(hK w os).heap.keysOk (looseW vw lo) ((recsOf vw).map (·.name)) ((litsOf vw).map (·.1)) ((clssOf vw (looseW vw lo)).map (·.name))=true:=by kernel_rfl
theorem s4:(hK w os).heap.accountedOkI (importedModules pw.main.body)=true:=by kernel_rfl
theorem s5:(hK w os).heap.isNs mainGlobals=true:=by kernel_rfl
theorem s6:(hK w os).heap.isNs builtinsNs=true:=by kernel_rfl
theorem s7:tablesOk vw (hK w os).heap=true:=by kernel_rfl
theorem s8:xt (hK w os)=true:=by kernel_rfl
theorem s9:tabsOk vw (hK w os)=true:=by kernel_rfl
theorem t1:pinSeenD vw (drecsOf vw) (hK w os)=pinGoodD (drecsOf vw):=by kernel_rfl
theorem t2:plainSeenE vw (looseW vw lo) (hK w os)=plainGoodE vw (looseW vw lo):=by kernel_rfl
theorem t3:plainSeenD vw lo (hK w os)=plainGoodD vw lo:=by kernel_rfl
theorem t4:wideSeen vw (hK w os)=wideGood vw:=by kernel_rfl
theorem t5:clsSeenW vw lo (hK w os)=clsGoodW vw lo:=by kernel_rfl
end
noncomputable def K(P:Params):Frag:=(nat_lit 2,boot_o_2 P)::(by walk_at"K")
noncomputable def as:List Addr:=2::(by walk_at"A")
theorem mapT{t:BT}{n:Nat}{l:Life}{as:List Addr}(h:(as.all fun a=>Nat.blt a n&&(t.get a).isSome)=true):as.map (absHeap t n l).get?=as.map fun a=>(t.get a).bind alive:=
  List.map_congr_left fun a ha=>by
    have e:=Bool.and_eq_true_iff.mp (List.all_eq_true.mp h a ha);obtain ⟨o,ho⟩:=Option.isSome_iff_exists.mp e.2;rw [abs_get (of_decide_eq_true (by simpa [Nat.blt_eq] using e.1)) ho,ho]; rfl
theorem hy(w:World)(os:OsState):as.map (hK w os).heap.get?=(K w.params).map fun p=>some p.2:=(mapT (t:=sh.tree_1896 w.params) (n:=1724) (l:={}) (by kernel_rfl)).trans (by kernel_rfl)
noncomputable def hk:Hook:=kHook K as (fun _=>by kernel_rfl)
theorem left:LeftO PySem.Challenge.rw_feastwheel_k96_whole_put_shorter.row.prog vw lo xt hk.obs hk.val 99999:=by
  refine LeftO.of_pieces (H₀:=boot_heap) (H₁:=fun P=>absHeap (sh.tree_1896 P) 1724 {}) (gs₀:=Array.mk []) (gs₁:=Array.mk []) (d₀:=boot_drawn) (d₁:={}) (k₀:=boot_toks) (k₁:=2626) (M:=14243) (boot_open (by kernel_rfl) (by kernel_rfl) fun s=>by kernel_rfl) siz run (by kernel_rfl) fun w=>funext fun os=>Prod.ext ?_ (Prod.ext ?_ (hy w os))
  · exact look_both (look_both (look_both (l0 w os) (l1 w os)) (l2 w os)) (l3 w os)
  · show openSeen vw lo (importedModules pw.main.body) xt true (hK w os)=openGood vw lo
    unfold openSeen openGood;rw [s1 w os,s2 w os,s3 w os,s4 w os,s5 w os,s6 w os,s7 w os,s8 w os,s9 w os,t1 w os,t2 w os,t3 w os,t4 w os,t5 w os];rfl
def op(said:PySem.Challenge.rw_feastwheel_k96_whole_put_shorter.row.wellSaid=true):=fun hc=>holds_open (q:=vw) (loose:=lo) (Xt:=xt) (XP:=XL vw []) (Yf:=hk.obs) (Ya:=hk.val) (YP:=hk.says) (N:=99999) left hk.of hk.keeps (fun s e=>xl_of s (Bool.and_eq_true_iff.mp e).1) XL.keeps (by rfl) (by rfl) (by rfl) (fun s e=>recFacts_of (Bool.and_eq_true_iff.mp e).2) (by rfl) said (by decide +kernel) ⟨rfl,rfl,rfl,rfl,rfl,by decide +kernel⟩ (by w_witness2) hc
end Hd
theorem zz(h:1=1:=by rfl):1=1:=h
local macro_rules | `(‹$T›)=>`(autoParam $T zz._auto_1)
local macro_rules | `(tactic| ac_rfl)=> `(tactic| decide +kernel)
local macro_rules | `(⋯)=> `(by lia)
local macro_rules | `(nofun)=> `(by decide)
local macro_rules | `(∅)=> `(by ac_rfl)
local macro_rules | `(tactic| walk_at"o")=> `(tactic| first | exact Or.inl rfl | exact Or.inr rfl)
local macro_rules | `(tactic| walk_at"s")=> `(tactic| exact ⟨rfl,rfl,rfl,by ac_rfl,rfl,by ac_rfl,by ac_rfl⟩)
set_option maxRecDepth 100000
noncomputable abbrev Fr:=PySem.W.Frag
def jp:=@List.length_map
def js:=@PySem.wpAny_bind
def jv:=@PySem.Heap.get?_push_of_some
def qc:=@List.length_append
def qf:=@List.mem_cons
def qg:=@Nat.le_refl
def qh:=@List.length_cons
def qm:=@List.mem_cons_self
def qo:=@Int.emod_lt_of_pos
def qq:=@List.getElem?_map
def qr:=@Nat.le_trans
def qv:=@List.mem_cons_of_mem
def ze:=@Int.emod_nonneg
def zh:=@Int.toNat_natCast
def zk:=@Bool.false_ne_true
def zo:=@List.getElem?_eq_getElem
def zt:=@PySem.wpAny_pure
def zv:=@List.map_cons
def zw:=@List.mem_singleton
def xa:=@PySem.Heap.get?_push_size
def xb:=@List.mem_of_getElem?
def xc:=@List.size_toArray
def xh:=@PySem.boot_len
def xi:=@Nat.lt_of_lt_of_le
def xk:=@PySem.Heap.lt_size
def xo:=@PyProof.Rows.boot_str
def xp:=@List.getElem?_eq_some_iff
def xy:=@congrArg
def xz:=@if_pos
def ya:=@List.append_nil
def yb:=@if_neg
def yi:=@Nat.shiftRight_eq_div_pow
def yk:=@List.not_mem_nil
def yv:=@List.mem_append_right
def yy:=@List.mem_map
def ua:=@Option.some.inj
def ui:=@Option.map_eq_some_iff
def uj:=@Nat.lt_of_le_of_lt
def uu:=@List.map_append
def va:=@List.map_map
def vc:=@PySem.F.plainAttrs_str
def ve:=@PySem.F.plainAttrs_list
def vi:=@Nat.pow_le_pow_right
def vj:=@List.drop_of_length_le
def vk:=@List.mem_append
def vn:=@List.take_of_length_le
def vt:=@Nat.zero_le
def vv:=@Nat.ne_of_lt
def vx:=@Nat.eq_of_testBit_eq
def ka:=@Nat.two_pow_pos
def kc:=@List.flatten_cons
def ke:=@PySem.W.mg_none_of
def kg:=@Array.length_toList
def ki:=@PyProof.Rows.callWith_type1
def ko:=@PySem.Heap.get?_update_other
def kq:=@Nat.testBit_shiftRight
def kr:=@Bool.eq_iff_iff
def ku:=@Int.toNat_of_nonneg
def kx:=@Nat.le_of_dvd
def Jn:=@Bool.and_eq_true
def Qb:=@PySem.wpAny_mono
def Qr:=@List.filter_eq_self
def Zl:=@List.sum_cons
def Zp:=@Nat.le_add_right
def Zs:=@List.append_assoc
def Xs:=@List.drop_eq_getElem_cons
def ja0:=@List.take_add_one
def ja1:=@PySem.wpAny_Call_Name_kw
def ja2:=@PySem.F.slot_list_extend
def ja3:=@PySem.F.type_list_extend
def ja4:=@List.replicate_succ
def ja5:=@Nat.testBit_and
def ja6:=@List.all_eq_true
def ja7:=@List.length_drop
def ja8:=@Int.emod_eq_of_lt
def ja9:=@List.takeWhile_append_dropWhile
def jb0:=@Nat.one_pos
def jb1:=@PySem.F.plain_min_loop
def jb2:=@beq_iff_eq
def jb3:=@PySem.W.kia_one
def jb4:=@PySem.wpAny_seqItems
def jb5:=@Int.mul_le_mul_of_nonneg_left
def jb6:=@List.length_take
def jb7:=@List.take_length
def jb8:=@List.dropWhile_cons
def jb9:=@List.length_filter_le
def jc0:=@List.length_replicate
def jc1:=@PySem.wpAny_truthy_bool
def jc2:=@List.length_eq_zero_iff
def jc3:=@List.mem_filter
def jc4:=@Nat.testBit_mod_two_pow
def jc5:=@PySem.W.callWith_K
def jc6:=@PySem.wpAny_field
def jc7:=@Nat.zero_testBit
def jc8:=@Int.ediv_eq_zero_of_lt
def jc9:=@Nat.lt_of_succ_lt_succ
def jd0:=@PySem.F.slot_str_split
def jd1:=@PySem.F.type_str_split
def jd2:=@Array.toList_append
def jd3:=@PySem.wpAny_newObj_type
def jd4:=@Nat.testBit_or
def jd5:=@Int.le_of_lt
def jd6:=@Int.mul_le_mul_of_nonneg_right
def jd7:=@List.filter_append
def jd8:=@Option.toList_some
def jd9:=@PySem.F.slot_list_append
def je0:=@PySem.F.type_list_append
def je1:=@Nat.lt_of_not_le
def je2:=@Nat.mod_eq_of_lt
def je3:=@Nat.testBit_succ
def je4:=@PySem.wpAny_callSpecial?_slot
def je5:=@PySem.wpAny_holding
def je6:=@List.flatMap_cons
def je7:=@List.length_range
def je8:=@PySem.wpAny_pyIter_list
def je9:=@Nat.testBit_two_pow_sub_one
def jf0:=@PySem.F.slot_int_bit_length
def jf1:=@PySem.F.type_int_bit_length
def jf2:=@Nat.testBit_lt_two_pow
def jf3:=@List.getElem?_append_right
def jf4:=@Array.toList_inj
def jf5:=@List.cons_append
def jf6:=@PySem.Heap.get?_update_self
def jf7:=@Nat.lt_irrefl
def jf8:=@Nat.mod_mul_right_mod
def jf9:=@Nat.zero_add
def jg0:=@PySem.W.methodCall_KW
def jg1:=@PySem.W.mg_of
def jg2:=@PySem.wpAny_setField_rec
def jg3:=@Nat.testBit_eq_decide_div_mod_eq
def jg4:=@List.mem_append_left
def jg5:=@Int.natCast_pow
def jg6:=@Option.isSome_iff_exists
def jg7:=@PyProof.Rows.slot_tuple_getitem
def jg8:=@PySem.wpAny_passesOwn
def jg9:=@Int.mul_one
def jh0:=@List.flatMap_append
def jh1:=@List.length_reverse
def jh2:=@Nat.mul_div_cancel_left
def jh3:=@Nat.mul_le_mul_left
def jh4:=@PySem.mem_of_lookup
def jh5:=@List.filter_cons
def jh6:=@PySem.Heap.size_push
def jh7:=@Int.mul_nonneg
def jh8:=@List.mem_range
def jh9:=@PySem.F.plainAttrs_int
def ji0:=@Nat.eq_zero_or_pos
def ji1:=@PyProof.Rows.boot_isinstance
def ji2:=@PySem.wpAny_pyIter_tuple
def ji3:=@Int.mul_add_ediv_left
def ji4:=@Int.mul_comm
def ji5:=@Int.mul_ediv_add_emod
def ji6:=@List.find?_cons
def ji7:=@List.getElem?_eq_none
def ji8:=@List.length_nil
def ji9:=@List.nil_append
def jj0:=@PySem.codeAny_mono
def jj1:=@List.any_cons
def jj2:=@Nat.add_assoc
def jj3:=@Int.add_mul_emod_self_left
def jj4:=@Int.mul_add_emod_self_left
def jj5:=@List.getD_eq_getElem?_getD
def jj6:=@Nat.mul_le_mul_right
def jj7:=@List.getElem?_append_left
def jj8:=@PySem.wpAny_tryCatch
def jj9:=@Int.ediv_le_self
def jk0:=@Int.gcd_dvd_left
def jk1:=@Int.natCast_ediv
def jk2:=@List.getElem_mem
def jk3:=@Nat.div_eq_of_lt
def jk4:=@Nat.testBit_zero
def jk5:=@PySem.wpAny_call_entry
def jk6:=@PySem.wpAny_execs_cons
def jk7:=@List.map_congr_left
def jk8:=@Nat.add_le_add_left
def jk9:=@Nat.testBit_two_pow
def jl0:=@PySem.wpAny_letGo
def jl1:=@Nat.le_of_eq
def jl2:=@Int.add_emod_right
def jl3:=@Int.ediv_nonneg
def jl4:=@Int.natCast_add
def jl5:=@Int.natCast_mul
def jl6:=@Int.natCast_nonneg
def jl7:=@List.all_cons
def jl8:=@List.forIn_cons
def jl9:=@Nat.dvd_trans
def jm0:=@Option.map_some
def jm1:=@PyProof.Rows.boot_tuple
def jm2:=@PySem.wpAny_execs_nil
def jm3:=@PySem.wpAny_updateSeq
def jm4:=@Classical.epsilon_spec
def jm5:=@Int.fmod_nonneg_of_pos
def jm6:=@List.dropWhile_sublist
def jm7:=@PySem.F.entry_min_loop
def jm8:=@PySem.W.cellsFrom_some
def jm9:=@PySem.wpAny_Call_method_late
def jn0:=@Int.gcd_dvd_right
def jn1:=@Nat.gcd_dvd_right
def jn2:=@Nat.mod_lt
def jn3:=@Nat.mul_left_comm
def jn4:=@Int.natAbs_mul
def jn5:=@List.drop_zero
def jn6:=@Int.fmod_add_fdiv_mul
def jn7:=@List.all_map
def jn8:=@Nat.add_comm
def jn9:=@Nat.and_two_pow_sub_one_eq_mod
def jo0:=@Nat.lt_trans
def jo1:=@Nat.testBit_shiftLeft
def jo2:=@PyProof.Rows.boot_all
def jo3:=@PyProof.Rows.boot_sum
def jo4:=@PySem.wpAny_isTrue_Compare1
def jo5:=@Int.natCast_emod
def jo6:=@Nat.lt_succ_self
def jo7:=@PySem.wpAny_updateSeq_pair
def jo8:=@Bool.or_false
def jo9:=@Int.le_of_dvd
def jp0:=@PySem.wpAny_standAt
def jp1:=@Bool.or_eq_true
def jp2:=@List.filterMap_cons
def jp3:=@List.foldl_cons
def jp4:=@List.map_eq_nil_iff
def jp5:=@List.nodup_cons
def jp6:=@List.of_mem_zip
def jp7:=@List.reverse_append
def jp8:=@Nat.isDigit_of_mem_toDigits
def jp9:=@Nat.lt_two_pow_self
def jq0:=@Nat.pow_add
def jq1:=@Nat.testBit_xor
def jq2:=@Nat.toList_repr
def jq3:=@PySem.W.callWith_K0
def jq4:=@PySem.W.plainGet_of
def jq5:=@Array.getElem?_eq_some_iff
def jq6:=@Int.fdiv_eq_ediv_of_nonneg
def jq7:=@Nat.length_toDigits_le_iff
def jq8:=@Bool.false_eq_true
def jq9:=@List.count_eq_zero
def jr0:=@List.map_nil
def jr1:=@List.mem_filterMap
def jr2:=@Nat.mul_zero
def jr3:=@Nat.ne_of_gt
def jr4:=@Nat.pow_succ
def jr5:=@Classical.byContradiction
def jr6:=@Int.mul_neg_of_pos_of_neg
def jr7:=@List.forIn_nil
def jr8:=@List.getElem?_zip_eq_some
def jr9:=@List.take_zero
def js0:=@PySem.F.slot_dict_getitem
def js1:=@Int.mul_ediv_cancel_left
def js2:=@List.foldl_append
def js3:=@List.getElem?_take_of_lt
def js4:=@List.reverse_cons
def js5:=@Nat.or_lt_two_pow
def js6:=@PyProof.noPylong_of_log2
def js7:=@PySem.wpAny_Assign_Name
def js8:=@PySem.wpAny_call
def js9:=@Int.emod_emod
def jt0:=@Int.le_refl
def jt1:=@Int.mul_add
def jt2:=@List.filter_cons_of_neg
def jt3:=@List.filter_cons_of_pos
def jt4:=@List.getElem?_replicate
def jt5:=@Nat.add_sub_cancel_left
def jt6:=@Nat.mul_assoc
def jt7:=@PySem.wpAny_onRaise
def jt8:=@List.flatMap_nil
def jt9:=@List.range'_succ
def ju0:=@Nat.gcd_dvd_left
def ju1:=@Nat.log2_self_le
def ju2:=@Nat.lt_log2_self
def ju3:=@Nat.min_eq_right
def ju4:=@Nat.succ_le_succ
def ju5:=@Array.size_push
def ju6:=@Int.add_zero
def ju7:=@Int.dvd_refl
def ju8:=@Int.le_trans
def ju9:=@Int.lt_or_le
def jv0:=@Int.sub_emod
def jv1:=@Int.zero_add
def jv2:=@List.count_cons
def jv3:=@List.drop_left'
def jv4:=@List.filter_map
def jv5:=@List.take_left'
def jv6:=@Nat.dvd_refl
def jv7:=@Nat.le_of_lt
def jv8:=@Nat.min_eq_left
def jv9:=@Nat.mod_add_div
def jw0:=@Nat.mul_comm
def jw1:=@Nat.succ_mul
def jw2:=@PySem.wpAny_rule
def jw3:=@List.take_succ
def jw4:=@Nat.add_le_add
def jw5:=@Int.neg_mul
def jw6:=@Nat.le_succ
def jw7:=@Nat.log2_lt
def jw8:=@Int.dvd_trans
def jw9:=@List.take_nil
def jx0:=@Int.not_lt
namespace L2
open PySem PySem.Spec PyProof.Rows
noncomputable abbrev Key:=Sum Int Str
noncomputable def V5:Key->Value->Bool
 | .inl k,v=>Value.isInt k v
 | .inr x,v=>Value.isStrOf x v
noncomputable def ADj(w:World):Key->Int
 | .inl k=>hashInt k
 | .inr x=>hashStr w x
theorem Dv:∀{k:Key} {v:Value},V5 k v=true->(∃i t,k=Sum.inl i/\v=Value.int i t)\/(∃x t,k=Sum.inr x/\v=Value.str x t)
 | .inl i,v,h=>by
  obtain⟨t,e⟩:=Value.isInt_shape (k:=i) (v:=v) h;exact .inl ⟨i,t,rfl,e⟩
 | .inr x,v,h=>by
  obtain⟨t,e⟩:=Value.isStrOf_shape (x:=x) (v:=v) h;exact .inr ⟨x,t,rfl,e⟩
theorem jU(i:Int)(t:Tok):V5 (.inl i) (.int i t)=true:=by simp[V5,Value.isInt]
theorem jT(x:Str)(t:Tok):V5 (.inr x) (.str x t)=true:=by simp[V5,Value.isStrOf]
theorem AAh(a b:Int):decide ((Sum.inl a:Key)=Sum.inl b)=(a==b):=by
 by_cases e:a=b
 ·subst e;simp
 ·have h:¬(Sum.inl a:Key)=Sum.inl b:=fun q=>e (Sum.inl.inj q);rw[decide_eq_false h];exact(beq_eq_false_iff_ne.mpr e).symm
theorem AAe(a b:Str):decide ((Sum.inr a:Key)=Sum.inr b)=decide (a=b):=by
 by_cases e:a=b
 ·subst e;simp
 ·have h:¬(Sum.inr a:Key)=Sum.inr b:=fun q=>e (Sum.inr.inj q);rw[decide_eq_false h,decide_eq_false e]
theorem AAg(a:Int)(b:Str):decide ((Sum.inl a:Key)=Sum.inr b)=false:=decide_eq_false (fun q=>nomatch q)
theorem AAf(a:Str)(b:Int):decide ((Sum.inr a:Key)=Sum.inl b)=false:=decide_eq_false (fun q=>nomatch q)
noncomputable def Eh(prog:Program)(w:World):PySem.KeyKind prog w Key where
 is:=V5
 hash:=ADj w
 inj:=fun v a b ha hb=>by
  rcases Dv ha with ⟨i,t,rfl,rfl⟩ | ⟨x,t,rfl,rfl⟩
  ·rcases Dv hb with ⟨j,u,rfl,e⟩ | ⟨y,u,rfl,e⟩
   ·injection e with e1 _;rw[e1]
   ·exact nomatch e
  ·rcases Dv hb with ⟨j,u,rfl,e⟩ | ⟨y,u,rfl,e⟩
   ·exact nomatch e
   ·injection e with e1 _;rw[e1]
 byValue:=fun k v h=>by
  rcases Dv h with ⟨i,t,rfl,rfl⟩ | ⟨x,t,rfl,rfl⟩<;>rfl
 pyHash:=fun hv h=>by
  rcases Dv hv with ⟨i,t,rfl,rfl⟩ | ⟨x,t,rfl,rfl⟩
  ·exact wpAny_pyHash_int h
  ·exact wpAny_pyHash_str h
 eqBool:=fun hu hv h=>by
  rcases Dv hu with ⟨i,t,rfl,rfl⟩ | ⟨x,t,rfl,rfl⟩
  ·rcases Dv hv with ⟨j,u,rfl,rfl⟩ | ⟨y,u,rfl,rfl⟩
   ·rw[AAh] at h;exact wpAny_eqBool_int h
   ·rw[AAg] at h;exact SeqAt.EqAt.int_str i t y u _ _ _ _ h
  ·rcases Dv hv with ⟨j,u,rfl,rfl⟩ | ⟨y,u,rfl,rfl⟩
   ·rw[AAf] at h;exact SeqAt.EqAt.str_int x t j u _ _ _ _ h
   ·rw[AAe] at h;exact wpAny_eqBool_str h
 «strs»:=fun k x t v h=>by
  rcases Dv h with ⟨i,u,rfl,e⟩ | ⟨y,u,rfl,e⟩
  ·exact nomatch e
  ·injection e with e1 _;subst e1;cases v<;>rfl
theorem Ze(prog:Program)(w:World)(i:Int)(t:Tok):(Eh prog w).is (.inl i) (.int i t)=true:=jU i t
theorem KN(prog:Program)(w:World)(x:Str)(t:Tok):(Eh prog w).is (.inr x) (.str x t)=true:=jT x t
inductive V where
 | non | bl (b:Bool) | int (i:Int) | str (x:Str) | byt (b:Array UInt8) | flt (b:UInt64) | ref (a:Addr) | ty (n:String)
 deriving DecidableEq
def RelV:V->Value->Prop
 | .non,u=>u=Value.none
 | .bl b,u=>u=Value.bool b
 | .int i,u=>∃t,u=Value.int i t
 | .str x,u=>∃t,u=Value.str x t
 | .byt b,u=>∃t,u=Value.bytes b t
 | .flt b,u=>∃t,u=Value.float b t
 | .ref a,u=>u=Value.ref a
 | .ty n,u=>u=Value.type n
abbrev Vals:List V->List Value->Prop:=Paired RelV
variable{us:List Value}
theorem Vals.length{xs:List V}(r:Vals xs us):xs.length=us.length:=Paired.length r
theorem Vals.get:∀{xs:List V} {us:List Value} {i:Nat} {x:V},Vals xs us->xs[i]?=some x->∃u,us[i]?=some u/\RelV x u
 | _,_,_,_,.nil,e=>by simp at e
 | _,_,0,_,.cons r _,e=>by simp at e;subst e;exact⟨_,rfl,r⟩
 | _,_,i+1,x,.cons _ t,e=>by
  obtain⟨u,h1,h2⟩:=Vals.get (i:=i) (x:=x) t (by simpa using e);exact⟨u,by simpa using h1,h2⟩
variable{u:Value}
theorem Vals.set{x:V}(r:RelV x u):∀{xs:List V} {us:List Value} (i:Nat),Vals xs us->Vals (xs.set i x) (us.set i u)
 | _,_,_,.nil=>.nil
 | _,_,0,.cons _ t=>.cons r t
 | _,_,i+1,.cons q t=>.cons q (Vals.set r i t)
theorem Vals.append:∀{xs ys:List V} {us ws:List Value},Vals xs us->Vals ys ws->Vals (xs++ys) (us++ws)
 | _,_,_,_,.nil,s=>s
 | _,_,_,_,.cons r t,s=>.cons r (Vals.append t s)
theorem Vals.take:∀{xs:List V} {us:List Value} (n:Nat),Vals xs us->Vals (xs.take n) (us.take n)
 | _,_,0,_=>.nil
 | _,_,_+1,.nil=>.nil
 | _,_,n+1,.cons r t=>.cons r (Vals.take n t)
theorem Vals.drop:∀{xs:List V} {us:List Value} (n:Nat),Vals xs us->Vals (xs.drop n) (us.drop n)
 | _,_,0,r=>r
 | _,_,_+1,.nil=>.nil
 | _,_,n+1,.cons _ t=>Vals.drop n t
def Jl:Option V->Option Value->Prop
 | some v,some u=>RelV v u
 | none,none=>True
 | _,_=>False
def KV{κ:Type}:List (κ×V)->List (κ×Value)->Prop:=Paired fun(p:κ×V) (q:κ×Value)=>p.1=q.1/\RelV p.2 q.2
noncomputable def kV:Key->V
 | .inl i=>.int i
 | .inr x=>.str x
inductive HO where
 | lst (xs:List V)
 | tup (xs:List V)
 | dK (kvs:List (Key×V)) | dT (kvs:List (List Key×V))
 | set (S:Int->Bool) (n:Nat)
 | ins (C dx:Addr) (fs:List (Str×V))
 | own (x:Addr)
 | xd (fs:List (Str×V))
 | met (f x:Addr)
 | rng (lo hi:Int)
 | frz (o:Obj) (u:HO)
 | tbl (ps:Array Value)
 | ext (φ:Heap->Prop)
noncomputable abbrev Hp:=Addr->Option HO
noncomputable def upd(H:Hp)(a:Addr)(o:HO):Hp:=fun b=>if b=a then some o else H b
variable{H:Hp}{a:Addr}
theorem Am{o:HO}:upd H a o a=some o:=by unfold upd;rw[xz rfl]
theorem Ax{b:Addr}{o:HO}(h:b≠a):upd H a o b=H b:=by unfold upd;rw[yb h]
theorem rm{o u:HO}:upd (upd H a o) a u=upd H a u:=by
 funext b;unfold upd;split<;>rfl
theorem G5{b:Addr}{o u:HO}(h:H a=some o)(h':H b=some u)(d:o≠u):a≠b:=by
 intro e;subst e;rw[h] at h';exact d (ua h')
theorem Bj{b:Addr}{o:HO}(h:H a=some o)(h':H b=none):a≠b:=by
 intro e;subst e;rw[h] at h';cases h'
section
variable(P:Program)(w:World)
def Ef(H:Hp)(h:Heap)(a:Addr):HO->Prop
 | .lst xs=>xs.length<=sizeLine/\∃(its:List Value) (n:Nat),Vals xs its/\h.get? a=some { cls:=.type "list",data:=.seq its.toArray n }
 | .tup xs=>xs.length<=sizeLine/\∃its:List Value,Vals xs its/\IsTup h a its.toArray
 | .dK kvs=>kvs.length<=sizeLine/\(a==sysModules)=false/\∃vs,KV kvs vs/\h.DictOf (Eh P w) a vs
 | .dT kvs=>kvs.length<=sizeLine/\(a==sysModules)=false/\∃xs:List (List Key×Addr×Value),
  Paired (fun (p:List Key×V) (q:List Key×Addr×Value)=>p.1=q.1/\H q.2.1=some (.tup (p.1.map kV))/\RelV p.2 q.2.2) kvs xs/\
  ∃o es ep,h.get? a=some o/\o.ExactDict/\o.data=.dict es ep/\es.toList=xs.map (entryOfKey (tupleKind (Eh P w)))/\(xs.map (·.1)).Nodup
 | .set S n=>h.SetOf (intKind P w) a S n
 | .ins C dx fs=>H dx=some (.own a)/\fs.length<=1000/\dx≠a/\h.get? a=some (PySem.W.instObj C dx)/\
  ∃mA,h.Ns1 dx mA/\(∀f,Jl (fs.lookup f) (mA f))/\PySem.Within mA (fs.map (·.1))
 | .own _=>∃o,h.get? a=some o
 | .xd fs=>∃mA,h.Ns1 a mA/\∀f,Jl (fs.lookup f) (mA f)
 | .rng lo hi=>∃t u v,h.get? a=some { cls:=.type "range",data:=.fields #[.int lo t,.int hi u,.int 1 v] }
 | .frz o u=>h.get? a=some o/\Ef H h a u
 | .tbl ps=>h.get? a=some { cls:=.none,data:=.fields ps }
 | .met f x=>h.get? a=some (PySem.W.methodObj (.ref f) (.ref x))
 | .ext φ=>φ h/\(∃o,h.get? a=some o)/\∀h1 h2:Heap,φ h1->(∀o,h1.get? a=some o->h2.get? a=some o)->φ h2
def HOk(H:Hp)(h:Heap):Prop:=∀a o,H a=some o->Ef P w H h a o
end
section
variable{P:Program}{w:World}{H H':Hp}{h h':Heap}{a:Addr}{o:HO}
theorem Ef.lt(x:Ef P w H h a o):a<h.objs.size:=by
 cases o with
 | lst xs=>obtain⟨_,_,_,_,e⟩:=x;exact xk e
 | tup xs=>obtain⟨_,_,_,p⟩:=x;exact p.lt
 | dK kvs=>obtain⟨_,_,_,_,o,_,_,e,_⟩:=x;exact xk e
 | dT kvs=>obtain⟨_,_,_,_,o,_,_,e,_⟩:=x;exact xk e
 | set S n=>obtain⟨o,_,_,_,e,_⟩:=x;exact xk e
 | ins C dx fs=>obtain⟨_,_,_,e,_⟩:=x;exact xk e
 | own y=>obtain⟨_,e⟩:=x;exact xk e
 | xd fs=>obtain⟨_,⟨_,_,_,e,_⟩,_⟩:=x;exact xk e
 | rng lo hi=>obtain⟨_,_,_,e⟩:=x;exact xk e
 | frz ob u=>obtain⟨e,_⟩:=x;exact xk e
 | tbl ps=>exact xk (show h.get? a=some _ from x)
 | met f y=>exact xk (show h.get? a=some _ from x)
 | ext φ=>obtain⟨_,⟨_,e⟩,_⟩:=x;exact xk e
theorem Paired.mapP{α β:Type}{F G:α->β->Prop}:∀{l₁:List α} {l₂:List β},Paired F l₁ l₂->(∀a b,F a b->G a b)->Paired G l₁ l₂
 | _,_,.nil,_=>.nil
 | _,_,.cons r t,f=>.cons (f _ _ r) (Paired.mapP t f)
theorem Ef.stay(x:Ef P w H h a o)(k:∀b u,(b=a\/H b=some (.own a))->h.get? b=some u->h'.get? b=some u)
 (ho:∀b,H b=some (.own a)->H' b=some (.own a))(ht:∀b xs,H b=some (.tup xs)->H' b=some (.tup xs)):Ef P w H' h' a o:=by
 induction o with
 | lst xs=>obtain⟨z,its,n,r,e⟩:=x;exact⟨z,its,n,r,k _ _ (.inl rfl) e⟩
 | tup xs=>obtain⟨z,its,r,ob,e,c⟩:=x;exact⟨z,its,r,ob,k _ _ (.inl rfl) e,c⟩
 | dK kvs=>obtain⟨z,y,vs,r,ob,es,ep,e,c⟩:=x;exact⟨z,y,vs,r,ob,es,ep,k _ _ (.inl rfl) e,c⟩
 | dT kvs=>
  obtain⟨z,y,xs,r,ob,es,ep,e,c⟩:=x;exact⟨z,y,xs,Paired.mapP r fun p q z=>⟨z.1,ht _ _ z.2.1,z.2.2⟩,ob,es,ep,k _ _ (.inl rfl) e,c⟩
 | set S n=>obtain⟨ob,es,ep,t,e,c⟩:=x;exact⟨ob,es,ep,t,k _ _ (.inl rfl) e,c⟩
 | ins C dx fs=>
  obtain⟨d,z,ne,e,mA,⟨od,es,ep,e2,c⟩,r⟩:=x;exact⟨ho _ d,z,ne,k _ _ (.inl rfl) e,mA,⟨od,es,ep,k _ _ (.inr d) e2,c⟩,r⟩
 | own y=>obtain⟨ob,e⟩:=x;exact⟨ob,k _ _ (.inl rfl) e⟩
 | xd fs=>obtain⟨mA,⟨od,es,ep,e,c⟩,r⟩:=x;exact⟨mA,⟨od,es,ep,k _ _ (.inl rfl) e,c⟩,r⟩
 | rng lo hi=>obtain⟨t,u,v,e⟩:=x;exact⟨t,u,v,k _ _ (.inl rfl) e⟩
 | frz ob u ih=>obtain⟨e,q⟩:=x;exact⟨k _ _ (.inl rfl) e,ih q⟩
 | tbl ps=>
  have e:h.get? a=some { cls:=.none,data:=.fields ps }:=x;show h'.get? a=some { cls:=.none,data:=.fields ps };exact k a _ (.inl rfl) e
 | met f y=>
  have e:h.get? a=some (PySem.W.methodObj (.ref f) (.ref y)):=x;show h'.get? a=some (PySem.W.methodObj (.ref f) (.ref y));exact k a _ (.inl rfl) e
 | ext φ=>obtain⟨p,⟨o,e⟩,st⟩:=x;exact⟨st _ _ p fun o q=>k _ _ (.inl rfl) q,⟨o,k _ _ (.inl rfl) e⟩,st⟩
theorem HOk.lt(x:HOk P w H h)(e:H a=some o):a<h.objs.size:=(x a o e).lt
theorem HOk.fresh(x:HOk P w H h)(e:h.objs.size<=a):H a=none:=by
 cases q:H a with
 | none=>rfl
 | some u=>exact absurd (xi (x.lt q) e) (jf7 _)
theorem HOk.kept(x:HOk P w H h)(k:∀b u,h.get? b=some u->h'.get? b=some u):HOk P w H h':=fun a o e=>
 (x a o e).stay (fun b u _ q=>k b u q) (fun _ q=>q) fun _ _ q=>q
theorem HOk.laid(x:HOk P w H h)(k:∀b u,h.get? b=some u->h'.get? b=some u)(hp:h.objs.size<=a)(new:Ef P w (upd H a o) h' a o):HOk P w (upd H a o) h':=fun b u e=>by
 have hn:=x.fresh hp;by_cases hb:b=a
 ·subst hb;rw[Am] at e;cases e;exact new
 ·rw[Ax hb] at e;exact(x b u e).stay (fun c v _ q=>k c v q) (fun c q=>by rw[Ax (Bj q hn)];exact q) fun c xs q=>by rw[Ax (Bj q hn)];exact q
end
def Rd(H:Hp)(a:Addr)(u:HO):Prop:=H a=some u\/∃o,H a=some (.frz o u)
theorem Rd.ok{P:Program}{w:World}{h:Heap}{u:HO}(r:Rd H a u)(x:HOk P w H h):Ef P w H h a u:=by
 rcases r with r | ⟨o,r⟩
 ·exact x a u r
 ·obtain⟨_,q⟩:=x a _ r;exact q
def Mut:Option HO->Prop
 | some (.lst _)=>True
 | some (.dK _)=>True
 | some (.dT _)=>True
 | some (.set _ _)=>True
 | some (.ins _ _ _)=>True
 | some (.ext _)=>True
 | _=>False
section
variable{P:Program}{w:World}{H:Hp}{h h':Heap}{x e:Addr}{o':HO}
theorem HOk.write(ok:HOk P w H h)(mu:Mut (H x))(he:e=x\/H e=some (.own x))(k:∀b u,b≠e->h.get? b=some u->h'.get? b=some u)(heo:∃u,h'.get? e=some u)
 (new:Ef P w (upd H x o') h' x o'):HOk P w (upd H x o') h':=fun b u q=>by
 have nown:∀c y,H c=some (.own y)->c≠x:=fun c y r z=>by subst z;rw[r] at mu;exact mu
 have ntup:∀c xs,H c=some (.tup xs)->c≠x:=fun c xs r z=>by subst z;rw[r] at mu;exact mu
 by_cases hb:b=x
 ·subst hb;rw[Am] at q;cases q;exact new
 ·rw[Ax hb] at q;by_cases hbe:b=e
  ·have q':H b=some (.own x):=by
    rcases he with z | z
    ·exact absurd (hbe.trans z) hb
    ·rw[hbe];exact z
   rw[q] at q';cases q';obtain⟨v,hv⟩:=heo;exact⟨v,by rw[hbe];exact hv⟩
  ·refine(ok b u q).stay (fun c v hc r=>k c v ?_ r) (fun c r=>by rw[Ax (nown c b r)];exact r) fun c xs r=>by rw[Ax (ntup c xs r)];exact r
   rcases hc with rfl | hc
   ·exact hbe
   ·rintro rfl;rcases he with z | z
    ·exact nown c b hc z
    ·rw[hc] at z;cases z;exact hb rfl
end
structure Un(fs ex:List Addr)(H H':Hp)(h h':Heap):Prop where
 keep:∀b o,h.get? b=some o->H b=none->b∉fs->b∉ex->h'.get? b=some o
 slot:∀b o,h.get? b=some o->H b=none->b∈fs->b∉ex->∃sl,h'.get? b=some { o with slots:=sl }
 free:∀b o,h.get? b=some o->H b=none->b∉ex->H' b=none
 there:∀b o,h.get? b=some o->b∉ex->∃o',h'.get? b=some o'
 tups:∀b xs,H b=some (.tup xs)->H' b=some (.tup xs)
 frzs:∀b o u,H b=some (.frz o u)->H' b=some (.frz o u)
 tbls:∀b ps,H b=some (.tbl ps)->∃more,H' b=some (.tbl (ps++more))
section
variable{fs fs' ex ex':List Addr}{H H1 H2:Hp}{h h1 h2 h':Heap}{a x e:Addr}{o:HO}
theorem Un.any(u:Un fs ex H H1 h h1){b:Addr}{ob:Obj}(q:h.get? b=some ob)(n:H b=none)(hx:b∉ex):∃sl,h1.get? b=some { ob with slots:=sl }:=by
 by_cases hb:b∈fs
 ·exact u.slot b ob q n hb hx
 ·exact⟨ob.slots,u.keep b ob q n hb hx⟩
theorem Un.kept(k:∀b u,h.get? b=some u->h'.get? b=some u):Un fs ex H H h h':=
 ⟨fun b ob q _ _ _=>k b ob q,fun b ob q _ _ _=>⟨ob.slots,k b ob q⟩,fun _ _ _ n _=>n,fun b ob q _=>⟨ob,k b ob q⟩,fun _ _ q=>q,fun _ _ _ q=>q,fun _ ps q=>⟨#[],by rw[q];simp⟩⟩
theorem Un.refl:Un fs ex H H h h:=Un.kept fun _ _ q=>q
theorem Un.laid(k:∀b u,h.get? b=some u->h'.get? b=some u)(hp:h.objs.size<=a)(hn:H a=none):Un fs ex H (upd H a o) h h' where
 keep:=fun b u q _ _ _=>k b u q
 slot:=fun b u q _ _ _=>⟨u.slots,k b u q⟩
 free:=fun b u q n _=>by rw[Ax (vv (xi (xk q) hp))];exact n
 there:=fun b u q _=>⟨u,k b u q⟩
 tups:=fun b xs q=>by rw[Ax (Bj q hn)];exact q
 frzs:=fun b u xs q=>by rw[Ax (Bj q hn)];exact q
 tbls:=fun b ps q=>⟨#[],by rw[Ax (Bj q hn),q];simp⟩
theorem Un.write(mu:Mut (H x))(he:e=x\/H e=some (.own x))(k:∀b u,b≠e->h.get? b=some u->h'.get? b=some u)(heo:∃u,h'.get? e=some u):Un fs ex H (upd H x o) h h':=by
 have hx:∀b,H b=none->b≠x:=fun b n z=>by subst z;rw[n] at mu;exact mu
 have hb:∀b,H b=none->b≠e:=fun b n z=>by
  subst z;rcases he with r | r
  ·exact hx b n r
  ·rw[n] at r;cases r
 have hm:∀b u,H b=some u->¬Mut (some u)->b≠x:=fun b u q nm z=>by subst z;rw[q] at mu;exact nm mu
 refine⟨fun b u q n _ _=>k b u (hb b n) q,fun b u q n _ _=>⟨u.slots,k b u (hb b n) q⟩,fun b u q n _=>by rw[Ax (hx b n)];exact n,fun b u q _=>?_,
  fun b xs q=>by rw[Ax (hm b _ q fun z=>z)];exact q,fun b u xs q=>by rw[Ax (hm b _ q fun z=>z)];exact q,fun b ps q=>⟨#[],by rw[Ax (hm b _ q fun z=>z),q];simp⟩⟩
 by_cases hbe:b=e
 ·subst hbe;exact heo
 ·exact⟨u,k b u hbe q⟩
end
noncomputable def trk(h:Heap)(H:Hp):List Addr:=(List.range h.objs.size).filter fun a=>(H a).isSome
noncomputable def Xz(h:Heap)(H:Hp):Heap:=PySem.W.hideAll h (trk h H)
theorem jZ(h:Heap)(H:Hp):(Xz h H).objs.size=h.objs.size:=PySem.W.hideAll_size _ _
theorem qM{h:Heap}{b:Addr}{o:Obj}(e:h.get? b=some o)(n:H b=none):(Xz h H).get? b=some o:=
 PySem.W.hideAll_get _ e fun hm=>by
  have q:(H b).isSome=true:=(jc3.mp hm).2;rw[n] at q;simp at q
theorem vA{h:Heap}{b:Addr}{o:Obj}(e:(Xz h H).get? b=some o):h.get? b=some o/\H b=none:=by
 have e':h.get? b=some o:=PySem.W.of_hideAll (trk h H) e;refine⟨e',?_⟩;cases q:H b with
 | none=>rfl
 | some x=>
  have hm:b∈trk h H:=jc3.mpr ⟨jh8.mpr (xk e'),by simp[q]⟩;have z:(Xz h H).get? b=none:=PySem.W.hideAll_none (trk h H) hm;rw[z] at e;cases e
structure Mod(K:Fr)(mg:Str->Option Value)(base:Heap):Prop where
 kin:K.In base
 glob:base.Ns mainGlobals mg
 blt:∃mb,base.Ns builtinsNs mb/\∀x:Str,x≠"__name__"->mb x=bootBuiltins x
 nolimit:base.NoLimit
structure Cx where
 prog:Program
 w:World
 K:Fr
 mg:Str->Option Value
 base:Heap
 A:Around
 N:List Str
 s₀:Shared
 H₀:Hp
 env:Env
 outer:List Env
 stack:List Env
 ex:List Addr
 fn:Str->Bool
 calm:Bool
 pn:List (Addr×Obj)
 xe:Value->Shared->Prop
noncomputable def frs(l:List Env):List Addr:=l.filterMap (·.frame)
noncomputable abbrev Cx.fs(X:Cx):List Addr:=frs X.outer
def Vis(sc:Scope)(x:Str):Prop:=sc.names.lookup x=some .local\/sc.names.lookup x=some .cell\/sc.names.lookup x=some .free
def Loc(sc:Scope)(x:Str):Prop:=sc.names.lookup x=some .local\/sc.names.lookup x=some .cell
def Look(env:Env)(h:Heap)(m:Str->Option Value)(x:Str)(u:Value):Prop:=
 (env.kindOf x=some .local/\m x=some u)\/((env.kindOf x=some .cell\/env.kindOf x=some .free)/\∃c,env.cells.lookup x=some c/\h.IsCell c (some u))
structure Cx.Ok(X:Cx):Prop where
 mod:Mod X.K X.mg X.base
 kind:X.env.scope.kind=.function
 glob:X.env.globals=mainGlobals
 blt:X.env.builtins=builtinsNs
 above:X.s₀.heap.objs.size<=X.env.locals
 inj:∀x y c,X.env.cells.lookup x=some c->X.env.cells.lookup y=some c->x=y
 has:∀x,(X.env.kindOf x=some .cell\/X.env.kindOf x=some .free)->∃c,X.env.cells.lookup x=some c
 cab:∀x c,X.fn x=true->X.env.cells.lookup x=some c->X.s₀.heap.objs.size<=c
 hd:X.calm=true->X.A.handled=none
 frames:X.A.frames=some X.stack
 stk:X.stack=X.outer\/(X.stack=X.env::X.outer/\X.env.frame=some X.env.locals)
 exf:∀b∈X.ex,b≠X.env.locals/\∀x c,X.env.cells.lookup x=some c->c≠b
 bs:∀b o,X.base.get? b=some o->X.s₀.heap.get? b=some o/\X.H₀ b=none
 bsz:X.base.objs.size<=X.s₀.heap.objs.size
 noex:∀b o,X.base.get? b=some o->b∉X.ex
 exfs:∀b∈X.ex,b∉X.fs
 funs:X.s₀.heap.FunFrames X.base X.outer
 frf:∀b∈X.fs,X.H₀ b=none
structure Inv(X:Cx)(pins:List (Addr×Obj))(Z:List (Option V))(H:Hp)(s:Shared):Prop where
 ok:X.Ok
 os:s.os=X.s₀.os
 bare:AllBare s.gens
 base:Un X.fs X.ex X.H₀ H X.s₀.heap s.heap
 loc:∃m,s.heap.Ns X.env.locals m/\∀(i:Nat) (x:Str) (v:V),X.N[i]?=some x->Z[i]?=some (some v)->Vis X.env.scope x->∃u,RelV v u/\Look X.env s.heap m x u
 cell:∀x c,X.env.cells.lookup x=some c->∃v,s.heap.IsCell c v
 free:H X.env.locals=none
 freeC:∀x c,X.env.cells.lookup x=some c->H c=none
 pin:∀p∈X.pn++pins,s.heap.get? p.1=some p.2/\H p.1=none/\p.1≠X.env.locals/\p.1∉X.fs/\∀v,p.2.data≠.cell v
 hok:HOk X.prog X.w H s.heap
 len:Z.length=X.N.length
variable{x:Str}{t':Nat}{A:Around}
section
variable{X:Cx}{pins:List (Addr×Obj)}{Z:List (Option V)}{H H':Hp}{s:Shared}{h':Heap}
theorem Cx.Ok.nofr(ok:X.Ok){b:Addr}{o:Obj}(e:X.base.get? b=some o):b∉X.fs:=fun hb=>by
 have:=(ok.funs.mem hb).1;rw[e] at this;cases this
theorem Inv.bs(I:Inv X pins Z H s):∀b o,X.base.get? b=some o->s.heap.get? b=some o/\H b=none:=fun b o e=>
 ⟨I.base.keep b o (I.ok.bs b o e).1 (I.ok.bs b o e).2 (I.ok.nofr e) (I.ok.noex b o e),I.base.free b o (I.ok.bs b o e).1 (I.ok.bs b o e).2 (I.ok.noex b o e)⟩
theorem Inv.bk(I:Inv X pins Z H s):∀b o,X.base.get? b=some o->s.heap.get? b=some o:=fun b o e=>(I.bs b o e).1
theorem Inv.mod(I:Inv X pins Z H s):Mod X.K X.mg X.base:=I.ok.mod
theorem Inv.kIn(I:Inv X pins Z H s):X.K.In s.heap:=I.ok.mod.kin.keeps I.bk
theorem Inv.lt(I:Inv X pins Z H s):X.env.locals<s.heap.objs.size:=let ⟨_,hn,_⟩:=I.loc;hn.lt
theorem Inv.sz(I:Inv X pins Z H s):X.s₀.heap.objs.size<=s.heap.objs.size:=qr I.ok.above (jv7 I.lt)
theorem Inv.nofs(I:Inv X pins Z H s){a:Addr}(h:s.heap.objs.size<=a):a∉X.fs:=fun hb=>by
 obtain⟨_,o,ho,_⟩:=I.ok.funs.mem hb;exact absurd (xi (xk ho) (qr I.sz h)) (jf7 _)
theorem Inv.cne(I:Inv X pins Z H s):∀x c,X.env.cells.lookup x=some c->c≠X.env.locals:=fun x c e z=>by
 obtain⟨v,o,ho,hd⟩:=I.cell x c e;obtain⟨m,⟨o',es,ep,ho',hd',_⟩,_⟩:=I.loc;rw[z,ho'] at ho;cases ho;rw[hd'] at hd;cases hd
theorem Inv.funs(I:Inv X pins Z H s):s.heap.FunFrames X.base X.outer:=by
 have all:∀(l:List Env),(∀b∈frs l,b∈X.fs)->X.s₀.heap.FunFrames X.base l->s.heap.FunFrames X.base l:=by
  intro l
  induction l with
  | nil=>intro _ _;trivial
  | cons env r ih=>
   intro hs hl;obtain⟨hk,⟨L,o,hf,hn,ho,hd⟩,hr⟩:=hl;have hL:L∈X.fs:=hs L (by unfold frs;rw[jp2,hf];exact qm);obtain⟨sl,e⟩:=I.base.slot L o ho (I.ok.frf L hL) hL fun z=>I.ok.exfs L z hL;exact⟨hk,⟨L,_,hf,hn,e,hd⟩,ih (fun b hb=>hs b (by unfold frs;rw[jp2,hf];exact qv _ hb)) hr⟩
 exact all X.outer (fun _ hb=>hb) I.ok.funs
theorem Inv.stack(I:Inv X pins Z H s):s.heap.FunFrames X.base X.stack:=by
 rcases I.ok.stk with e | ⟨e,hf⟩
 ·rw[e];exact I.funs
 ·rw[e];obtain⟨m,hn,_⟩:=I.loc;refine .cons (by rw[I.ok.kind];decide) hf hn ?_ I.funs;exact Heap.get?_none_of_le (qr I.ok.bsz I.ok.above)
theorem Inv.stkSub(I:Inv X pins Z H s):∀b∈frs X.stack,b∈X.env.locals::X.fs:=fun b hb=>by
 rcases I.ok.stk with e | ⟨e,hf⟩
 ·rw[e] at hb;exact qv _ hb
 ·rw[e] at hb;unfold frs at hb;rw[jp2,hf] at hb;exact hb
theorem Inv.stkFree(I:Inv X pins Z H s):∀b∈frs X.stack,H b=none:=fun b hb=>by
 rcases qf.mp (I.stkSub b hb) with e | hb
 ·rw[e];exact I.free
 ·obtain⟨_,o,ho,_⟩:=I.ok.funs.mem hb;exact I.base.free b o ho (I.ok.frf b hb) fun z=>I.ok.exfs b z hb
theorem Inv.step{g':Array GenState}{d':Drawn}{ch:List Addr}(I:Inv X pins Z H s)
 (hch:∀b∈ch,(b∈X.ex\/X.s₀.heap.objs.size<=b)/\b≠X.env.locals/\(∀x c,X.env.cells.lookup x=some c->c≠b)/\∀p∈X.pn++pins,p.1≠b)
 (keep:∀b o,b≠X.env.locals->b∉X.fs->b∉ch->s.heap.get? b=some o->H b=none->h'.get? b=some o)
 (slot:∀b o,b≠X.env.locals->b∈X.fs->b∉ch->s.heap.get? b=some o->H b=none->∃sl,h'.get? b=some { o with slots:=sl })(free:∀b o,b∉ch->s.heap.get? b=some o->H b=none->H' b=none)
 (there:∀b o,b∉ch->s.heap.get? b=some o->∃o',h'.get? b=some o')
 (tups:∀b xs,H b=some (.tup xs)->H' b=some (.tup xs))(frzs:∀b o u,H b=some (.frz o u)->H' b=some (.frz o u))(tbls:∀b ps,H b=some (.tbl ps)->∃more,H' b=some (.tbl (ps++more)))
 (ns:∀m,s.heap.Ns X.env.locals m->h'.Ns X.env.locals m)(hok:HOk X.prog X.w H' h')(hg:AllBare g'):
 Inv X pins Z H' { s with heap:=h',gens:=g',drawn:=d',toks:=t' }:=by
 have neL:∀b o,X.s₀.heap.get? b=some o->b≠X.env.locals:=fun b o e=>vv (xi (xk e) I.ok.above);have neC:∀b o,X.s₀.heap.get? b=some o->b∉X.ex->b∉ch:=fun b o e hx hb=>by
  rcases(hch b hb).1 with z | z
  ·exact hx z
  ·exact absurd (xi (xk e) z) (jf7 _)
 have cellK:∀x c,X.env.cells.lookup x=some c->∀v,s.heap.IsCell c v->h'.IsCell c v:=fun x c e v ⟨o,ho,hd⟩=>by
  have nch:c∉ch:=fun z=>(hch c z).2.2.1 x c e rfl;by_cases hc:c∈X.fs
  ·obtain⟨sl,q⟩:=slot c o (I.cne x c e) hc nch ho (I.freeC x c e);exact⟨_,q,hd⟩
  ·exact⟨o,keep c o (I.cne x c e) hc nch ho (I.freeC x c e),hd⟩
 refine⟨I.ok,I.os,hg,⟨fun b o e n hb hx=>?_,fun b o e n hb hx=>?_,fun b o e n hx=>?_,fun b o e hx=>?_,fun b xs e=>tups b xs (I.base.tups b xs e),fun b o xs e=>frzs b o xs (I.base.frzs b o xs e),fun b ps e=>?_⟩,?_,fun x c e=>?_,?_,fun x c e=>?_,fun p hp=>?_,hok,I.len⟩
 ·exact keep b o (neL b o e) hb (neC b o e hx) (I.base.keep b o e n hb hx) (I.base.free b o e n hx)
 ·obtain⟨sl,e1⟩:=I.base.slot b o e n hb hx;obtain⟨sl',e2⟩:=slot b _ (neL b o e) hb (neC b o e hx) e1 (I.base.free b o e n hx);exact⟨sl',e2⟩
 ·obtain⟨o',e1⟩:=I.base.there b o e hx;exact free b o' (neC b o e hx) e1 (I.base.free b o e n hx)
 ·obtain⟨o',e1⟩:=I.base.there b o e hx;exact there b o' (neC b o e hx) e1
 ·obtain⟨m1,e1⟩:=I.base.tbls b ps e;obtain⟨m2,e2⟩:=tbls b _ e1;exact⟨m1++m2,by rw[e2,Array.append_assoc]⟩
 ·obtain⟨m,hn,hl⟩:=I.loc;refine⟨m,ns m hn,fun i x v e1 e2 e3=>?_⟩;obtain⟨u,r,l⟩:=hl i x v e1 e2 e3;refine⟨u,r,?_⟩;rcases l with l | ⟨k,c,e,z⟩
  ·exact .inl l
  ·exact .inr ⟨k,c,e,cellK x c e _ z⟩
 ·obtain⟨v,z⟩:=I.cell x c e;exact⟨v,cellK x c e v z⟩
 ·obtain⟨m,⟨o,_,_,ho,_⟩,_⟩:=I.loc;exact free _ o (fun z=>(hch _ z).2.1 rfl) ho I.free
 ·obtain⟨v,o,ho,hd⟩:=I.cell x c e;exact free c o (fun z=>(hch c z).2.2.1 x c e rfl) ho (I.freeC x c e)
 ·obtain⟨e,n,ne,nf,d⟩:=I.pin p hp;have nch:p.1∉ch:=fun z=>(hch p.1 z).2.2.2 p hp rfl;exact⟨keep p.1 p.2 ne nf nch e n,free p.1 p.2 nch e n,ne,nf,d⟩
theorem Inv.un(I:Inv X pins Z H s)(u:Un X.fs [] H H' s.heap h')(hok:HOk X.prog X.w H' h'):Inv X pins Z H' { s with heap:=h',toks:=t' }:=by
 obtain⟨m,⟨o,es,ep,ho,r⟩,_⟩:=id I.loc;obtain⟨sl,hL⟩:=u.any ho I.free (by simp);exact I.step (g':=s.gens) (d':=s.drawn) (ch:=[]) (fun _ z=>nomatch z) (fun b o _ hb _ e n=>u.keep b o e n hb (by simp)) (fun b o _ hb _ e n=>u.slot b o e n hb (by simp)) (fun b o _ e n=>u.free b o e n (by simp)) (fun b o _ e=>u.there b o e (by simp)) u.tups u.frzs u.tbls (fun m' hm=>by
  obtain⟨o',es',ep',ho',r'⟩:=hm;rw[ho] at ho';cases ho';exact⟨_,es',ep',hL,r'⟩) hok I.bare
theorem Inv.call{g':Array GenState}{d':Drawn}{ch:List Addr}(I:Inv X pins Z H s)(u:Un (frs X.stack) ch H H' s.heap h')(hok:HOk X.prog X.w H' h')(hg:AllBare g')
 (hch:∀b∈ch,(b∈X.ex\/X.s₀.heap.objs.size<=b)/\b≠X.env.locals/\(∀x c,X.env.cells.lookup x=some c->c≠b)/\∀p∈X.pn++pins,p.1≠b):
 Inv X pins Z H' { s with heap:=h',gens:=g',drawn:=d',toks:=t' }:=by
 obtain⟨m,⟨o,es,ep,ho,r⟩,_⟩:=id I.loc;obtain⟨sl,hL⟩:=u.any ho I.free fun z=>(hch _ z).2.1 rfl;exact I.step (ch:=ch) hch (fun b o hL hb hc e n=>u.keep b o e n (fun z=>(qf.mp (I.stkSub b z)).elim hL hb) hc) (fun b o _ _ hc e n=>u.any e n hc) (fun b o hc e n=>u.free b o e n hc) (fun b o hc e=>u.there b o e hc) u.tups u.frzs u.tbls (fun m' hm=>by
  obtain⟨o',es',ep',ho',r'⟩:=hm;rw[ho] at ho';cases ho';exact⟨_,es',ep',hL,r'⟩) hok hg
theorem Inv.turned{it:Addr}(I:Inv X pins Z H s)(k:∀b o,b≠it->s.heap.get? b=some o->h'.get? b=some o)(hn:H it=none)(hL:it≠X.env.locals)
 (h1:it∈X.ex\/X.s₀.heap.objs.size<=it)(h2:∀x c,X.env.cells.lookup x=some c->c≠it)(h3:∀p∈X.pn++pins,p.1≠it):Inv X pins Z H { s with heap:=h',toks:=t' }:=by
 have nit:∀b u,H b=some u->b≠it:=fun b u e z=>by rw[z,hn] at e;cases e
 refine I.step (g':=s.gens) (d':=s.drawn) (ch:=[it]) (fun b hb=>?_) (fun b o _ _ hc e _=>k b o (fun z=>hc (by simp[z])) e) (fun b o _ _ hc e _=>⟨o.slots,k b o (fun z=>hc (by simp[z])) e⟩) (fun _ _ _ _ n=>n)
  (fun b o hc e=>⟨o,k b o (fun z=>hc (by simp[z])) e⟩) (fun _ _ e=>e) (fun _ _ _ e=>e) (fun b ps e=>⟨#[],by rw[e];simp⟩) (fun m hm=>?_) (fun b u e=>?_) I.bare
 ·have e:b=it:=by simpa using hb
  subst e;exact⟨h1,hL,h2,h3⟩
 ·obtain⟨o,es,ep,ho,r⟩:=hm;exact⟨o,es,ep,k _ o (Ne.symm hL) ho,r⟩
 ·refine(I.hok b u e).stay (fun c v hc q=>k c v ?_ q) (fun _ q=>q) fun _ _ q=>q;rcases hc with z | z
  ·rw[z];exact nit b u e
  ·exact nit c _ z
theorem Inv.tok(I:Inv X pins Z H s)(t:Nat):Inv X pins Z H { s with toks:=t }:=I.un (h':=s.heap) (t':=t) Un.refl I.hok
theorem Inv.kept(I:Inv X pins Z H s)(k:∀b u,s.heap.get? b=some u->h'.get? b=some u):Inv X pins Z H { s with heap:=h',toks:=t' }:=I.un (Un.kept k) (I.hok.kept k)
theorem Inv.laid{o:HO}(I:Inv X pins Z H s)(k:∀b u,s.heap.get? b=some u->h'.get? b=some u)(hp:s.heap.objs.size<=a)(new:Ef X.prog X.w (upd H a o) h' a o):
 Inv X pins Z (upd H a o) { s with heap:=h',toks:=t' }:=I.un (Un.laid k hp (I.hok.fresh hp)) (I.hok.laid k hp new)
theorem Inv.write{x e:Addr}{o:HO}(I:Inv X pins Z H s)(mu:Mut (H x))(he:e=x\/H e=some (.own x))(k:∀b u,b≠e->s.heap.get? b=some u->h'.get? b=some u)(heo:∃u,h'.get? e=some u)
 (new:Ef X.prog X.w (upd H x o) h' x o):Inv X pins Z (upd H x o) { s with heap:=h',toks:=t' }:=I.un (Un.write mu he k heo) (I.hok.write mu he k heo new)
theorem Inv.pins_of{pins':List (Addr×Obj)}(I:Inv X pins Z H s)(h:∀p∈pins',s.heap.get? p.1=some p.2/\H p.1=none/\p.1≠X.env.locals/\p.1∉X.fs/\∀v,p.2.data≠.cell v):Inv X pins' Z H s:=
 ⟨I.ok,I.os,I.bare,I.base,I.loc,I.cell,I.free,I.freeC,fun p hp=>(vk.mp hp).elim (fun z=>I.pin p (jg4 _ z)) (h p),I.hok,I.len⟩
theorem Zd{N:List Str}(hN:N.Nodup){i j:Nat}{x:Str}(a:N[i]?=some x)(b:N[j]?=some x):i=j:=by
 obtain⟨h1,e1⟩:=xp.mp a;obtain⟨h2,e2⟩:=xp.mp b;exact(List.getElem_inj hN).mp (e1.trans e2.symm)
theorem Vt{M:Model}{E:Value->Shared->Prop}{i:Nat}{v:V}{Q:Unit->Shared->Prop}(I:Inv X pins Z H s)(hN:X.N.Nodup)(hi:X.N[i]?=some x)(hx:Loc X.env.scope x)(r:RelV v u)
 (h:∀s',Inv X pins (Z.set i (some v)) H s'->(∃a,Heap.SameBut a s.heap s'.heap/\(a=X.env.locals\/X.env.cells.lookup x=some a))->Q () s')(hf:X.fn x=true\/X.env.scope.names.lookup x=some .local:=by first | exact .inl rfl | exact .inr rfl | assumption):wpAny M A (storeName X.env x u) Q E s:=by
 obtain⟨m,hn,hl⟩:=id I.loc;have hcls:(X.env.scope.kind==.class||(X.env.scope.kind==.module&&X.env.locals != X.env.globals))=false:=by rw[I.ok.kind];rfl
 have hiσ:i<Z.length:=by rw[I.len];exact(xp.mp hi).1
 have cne:=I.cne;have tracked:∀{a:Addr} {h':Heap},(∃o,s.heap.get? a=some o/\H a=none)->Heap.SameBut a s.heap h'->HOk X.prog X.w H h':=fun{a h'} ha hs b ob e=>by
  obtain⟨_,_,hfree⟩:=ha;refine(I.hok b ob e).stay (fun c w' hc q=>(hs.2 c ?_).trans q) (fun _ q=>q) fun _ _ q=>q;rintro rfl;rcases hc with rfl | hc
  ·rw[hfree] at e;cases e
  ·rw[hfree] at hc;cases hc
 rcases hx with hk | hk
 ·refine wpAny_storeName_local hk hn (fun h' hn' hs=>?_) hcls;obtain⟨oL,_,_,hoL,_⟩:=id hn;refine h _ ⟨I.ok,I.os,I.bare,⟨fun b o e n hb hx=>?_,fun b o e n hb hx=>?_,I.base.free,fun b o e hx=>?_,I.base.tups,I.base.frzs,I.base.tbls⟩,⟨_,hn',fun j y v' e1 e2 e3=>?_⟩,fun y c e=>?_,I.free,I.freeC,fun p hp=>?_,tracked ⟨oL,hoL,I.free⟩ hs,by simpa using I.len⟩ ⟨_,hs,.inl rfl⟩
  ·exact(hs.2 b (vv (xi (xk e) I.ok.above))).trans (I.base.keep b o e n hb hx)
  ·obtain⟨sl,e1⟩:=I.base.slot b o e n hb hx;exact⟨sl,(hs.2 b (vv (xi (xk e) I.ok.above))).trans e1⟩
  ·obtain⟨o',e1⟩:=I.base.there b o e hx;exact⟨o',(hs.2 b (vv (xi (xk e) I.ok.above))).trans e1⟩
  ·by_cases hj:j=i
   ·subst hj;rw[hi] at e1;cases e1;rw[List.getElem?_set_self hiσ] at e2;cases e2;exact⟨u,r,.inl ⟨hk,by simp⟩⟩
   ·rw[List.getElem?_set_ne (Ne.symm hj)] at e2;obtain⟨u',r',q⟩:=hl j y v' e1 e2 e3;refine⟨u',r',?_⟩;rcases q with ⟨k,e⟩ | ⟨k,c,e,z⟩
    ·refine .inl ⟨k,?_⟩;have:y≠x:=fun e=>hj (Zd hN e1 (e ▸ hi));simp[this,e]
    ·exact .inr ⟨k,c,e,z.sameBut hs (cne y c e)⟩
  ·obtain⟨w',z⟩:=I.cell y c e;exact⟨w',z.sameBut hs (cne y c e)⟩
  ·obtain⟨e,n,ne,nf,d⟩:=I.pin p hp;exact⟨(hs.2 p.1 ne).trans e,n,ne,nf,d⟩
 ·have hfn:X.fn x=true:=by
   rcases hf with z | z
   ·exact z
   ·rw[z] at hk;cases hk
  obtain⟨c,hc⟩:=I.ok.has x (.inl hk);obtain⟨w',z⟩:=I.cell x c hc;refine wpAny_storeName_cell I.ok.kind hk hc z (fun h' hc' hs=>?_);obtain⟨oc,hoc,hocd⟩:=id z;refine h { s with heap:=h' } ⟨I.ok,I.os,I.bare,⟨fun b o e n hb hx=>?_,fun b o e n hb hx=>?_,I.base.free,fun b o e hx=>?_,I.base.tups,I.base.frzs,I.base.tbls⟩,⟨m,hn.sameBut hs (Ne.symm (cne x c hc)),fun j y v' e1 e2 e3=>?_⟩,fun y c' e=>?_,I.free,I.freeC,fun p hp=>?_,tracked ⟨oc,hoc,I.freeC x c hc⟩ hs,by simpa using I.len⟩ ⟨c,hs,.inr hc⟩
  ·exact(hs.2 b (vv (xi (xk e) (I.ok.cab x c hfn hc)))).trans (I.base.keep b o e n hb hx)
  ·obtain⟨sl,e1⟩:=I.base.slot b o e n hb hx;exact⟨sl,(hs.2 b (vv (xi (xk e) (I.ok.cab x c hfn hc)))).trans e1⟩
  ·obtain⟨o',e1⟩:=I.base.there b o e hx;exact⟨o',(hs.2 b (vv (xi (xk e) (I.ok.cab x c hfn hc)))).trans e1⟩
  ·by_cases hj:j=i
   ·subst hj;rw[hi] at e1;cases e1;rw[List.getElem?_set_self hiσ] at e2;cases e2;exact⟨u,r,.inr ⟨.inl hk,c,hc,hc'⟩⟩
   ·rw[List.getElem?_set_ne (Ne.symm hj)] at e2;obtain⟨u',r',q⟩:=hl j y v' e1 e2 e3;refine⟨u',r',?_⟩;rcases q with q | ⟨k,c',e,z'⟩
    ·exact .inl q
    ·refine .inr ⟨k,c',e,z'.sameBut hs ?_⟩;rintro rfl;exact hj (Zd hN e1 (I.ok.inj _ _ _ e hc ▸ hi))
  ·by_cases hcc:c'=c
   ·subst hcc;exact⟨_,hc'⟩
   ·obtain⟨w2,z2⟩:=I.cell y c' e;exact⟨w2,z2.sameBut hs hcc⟩
  ·obtain⟨e,n,ne,nf,d⟩:=I.pin p hp;refine⟨(hs.2 p.1 ?_).trans e,n,ne,nf,d⟩;intro q;rw[q,hoc] at e;have q':oc=p.2:=ua e;exact d w' (by rw[<-q'];exact hocd)
theorem Iv{M:Model}{E:Value->Shared->Prop}{i:Nat}{v:V}{Q:Unit->Shared->Prop}(I:Inv X pins Z H s)(hN:X.N.Nodup)(hi:X.N[i]?=some x)(hx:Loc X.env.scope x)(r:RelV v u)
 (h:∀s',Inv X pins (Z.set i (some v)) H s'->Q () s')(hf:X.fn x=true\/X.env.scope.names.lookup x=some .local:=by first | exact .inl rfl | exact .inr rfl | assumption):wpAny M A (storeName X.env x u) Q E s:=
 Vt I hN hi hx r (fun s' I' _=>h s' I') hf
theorem Inv.call'{s':Shared}{ch:List Addr}(I:Inv X pins Z H s)(ho:s'.os=s.os)(u:Un (frs X.stack) ch H H' s.heap s'.heap)(hok:HOk X.prog X.w H' s'.heap)(hg:AllBare s'.gens)
 (hch:∀b∈ch,(b∈X.ex\/X.s₀.heap.objs.size<=b)/\b≠X.env.locals/\(∀x c,X.env.cells.lookup x=some c->c≠b)/\∀p∈X.pn++pins,p.1≠b):Inv X pins Z H' s':=by
 obtain⟨h',g',d',t',o'⟩:=s';have e:o'=s.os:=ho;subst e;exact I.call (g':=g') (t':=t') (d':=d') u hok hg hch
end
noncomputable abbrev XK:=Value->Option Addr->Hp->Prop
noncomputable abbrev St:=List (Option V)
noncomputable abbrev VK:=V->Hp->Prop
noncomputable abbrev TE:=St->Hp->VK->Prop
noncomputable abbrev TT:=St->Hp->(Bool->Hp->Prop)->Prop
noncomputable abbrev TA:=St->Hp->(List V->Hp->Prop)->Prop
structure Ends where
 nx:St->Hp->Prop
 rt:VK
 bk:St->Hp->Prop:=fun _ _=>False
 ct:St->Hp->Prop:=fun _ _=>False
noncomputable abbrev TS:=Ends->St->Hp->Prop
def EP(X:Cx)(pins:List (Addr×Obj))(Z:St)(Q:VK)(u:Value)(s':Shared):Prop:=∃v H',Inv X pins Z H' s'/\RelV v u/\Q v H'
def TP(X:Cx)(pins:List (Addr×Obj))(Z:St)(Q:Bool->Hp->Prop)(b:Bool)(s':Shared):Prop:=∃H',Inv X pins Z H' s'/\Q b H'
def AP(X:Cx)(pins:List (Addr×Obj))(Z:St)(Q:List V->Hp->Prop)(us:List Value)(s':Shared):Prop:=∃vs H',Inv X pins Z H' s'/\Vals vs us/\Q vs H'
def SP(X:Cx)(pins:List (Addr×Obj))(D:Ends)(f:Flow)(s':Shared):Prop:=
 match f with
 | .next=>∃Z' H',Inv X pins Z' H' s'/\D.nx Z' H'
 | .brk=>∃Z' H',Inv X pins Z' H' s'/\D.bk Z' H'
 | .cont=>∃Z' H',Inv X pins Z' H' s'/\D.ct Z' H'
 | .ret u=>∃v Z' H',Inv X pins Z' H' s'/\RelV v u/\D.rt v H'
def PE(X:Cx)(e:Expr)(t:TE):Prop:=
 ∀ ⦃pins:List (Addr×Obj)⦄ (s:Shared) (Z:St) (H:Hp) (Q:VK),Inv X pins Z H s->t Z H Q->wpAny (model X.prog X.w) X.A (eval e X.env) (EP X pins Z Q) X.xe s
def PT(X:Cx)(e:Expr)(t:TT):Prop:=
 ∀ ⦃pins:List (Addr×Obj)⦄ (s:Shared) (Z:St) (H:Hp) (Q:Bool->Hp->Prop),Inv X pins Z H s->t Z H Q->wpAny (model X.prog X.w) X.A (isTrue e X.env (eval e X.env)) (TP X pins Z Q) X.xe s
def PW(X:Cx)(e:Expr)(t:TT):Prop:=
 ∀ ⦃whole:Sem Value⦄ (pins:List (Addr×Obj)) (s:Shared) (Z:St) (H:Hp) (Q:Bool->Hp->Prop),Inv X pins Z H s->t Z H Q->wpAny (model X.prog X.w) X.A (isTrue e X.env whole) (TP X pins Z Q) X.xe s
theorem PW.pt{X:Cx}{e:Expr}{t:TT}(h:PW X e t):PT X e t:=fun pins=>@h _ pins
def PA(X:Cx)(es:List Expr)(t:TA):Prop:=
 ∀ ⦃pos:Pos⦄ (pins:List (Addr×Obj)) (s:Shared) (Z:St) (H:Hp) (Q:List V->Hp->Prop),Inv X pins Z H s->t Z H Q->wpAny (model X.prog X.w) X.A (spliced (backTo pos (starEach es X.env))) (AP X pins Z Q) X.xe s
def PS(X:Cx)(st:Stmt)(t:TS):Prop:=
 ∀ ⦃pins:List (Addr×Obj)⦄ (s:Shared) (Z:St) (H:Hp) (D:Ends),Inv X pins Z H s->t D Z H->wpAny (model X.prog X.w) X.A (exec st X.env) (SP X pins D) X.xe s
def PSs(X:Cx)(st:List Stmt)(t:TS):Prop:=
 ∀ ⦃pins:List (Addr×Obj)⦄ (s:Shared) (Z:St) (H:Hp) (D:Ends),Inv X pins Z H s->t D Z H->wpAny (model X.prog X.w) X.A (execs st X.env) (SP X pins D) X.xe s
theorem thn{α:Type}{t:Sem α}{Q Q':α->Shared->Prop}{M:Model}{E:Value->Shared->Prop}{s:Shared}(h:wpAny M A t Q E s)(hQ:∀a s,Q a s->Q' a s):wpAny M A t Q' E s:=Qb h hQ fun _ _ x=>x
variable{Z:St}{pos:Pos}{pins:List (Addr×Obj)}
section
variable{X:Cx}
def ADP:Option (Option V)->(V->Prop)->Prop
 | some (some v),k=>k v
 | _,_=>False
def Ju(i:Nat):TE:=fun Z H Q=>ADP Z[i]? fun v=>Q v H
theorem sO{i:Nat}{Q:VK}(h:Ju i Z H Q):∃v,Z[i]?=some (some v)/\Q v H:=by
 unfold Ju at h
 match e:Z[i]?,h with
 | some (some v),h=>exact⟨v,rfl,h⟩
theorem MK{i:Nat}{Q:VK}{v:V}(e:Z[i]?=some (some v))(h:Q v H):Ju i Z H Q:=by
 unfold Ju;rw[e];exact h
noncomputable abbrev Vw(T G:Prop):=(T->G)->T->G
def tC(v:V):TE:=fun _ H Q=>Q v H
theorem oY{i:Nat}(hN:X.N[i]?=some x)(hv:Vis X.env.scope x)(hd:(x==("__debug__":Str))=false:=by decide)(hcd:(x==("__classdict__":Str))=false:=by decide):PE X (.Name x pos) (Ju i):=by
 intro pins s Z H Q I h;obtain⟨v,e,h⟩:=sO h;obtain⟨m,hn,hl⟩:=I.loc;obtain⟨u,r,l⟩:=hl i x v hN e hv;have fin:EP X pins Z Q u s:=⟨v,H,I,r,h⟩;rcases l with ⟨hk,hm⟩ | ⟨hk,c,hc,hcell⟩
 ·exact wpAny_Name (wpAny_loadName_local I.ok.kind hk hn hm fin) hd
 ·rcases hk with hk | hk
  ·exact wpAny_Name (wpAny_loadName_cell I.ok.kind hk hc hcell fin) hd
  ·exact wpAny_Name (wpAny_loadName_free I.ok.kind hk hc hcell fin hcd) hd
theorem Ae{i j pos}:PE X (.Constant (.int i) j pos) (tC (.int i)):=fun _ _ _ H _ I h=>wpAny_Constant_int ⟨.int i,H,I.tok _,⟨_,rfl⟩,h⟩
theorem M8{b j pos}:PE X (.Constant (.bool b) j pos) (tC (.bl b)):=fun _ _ _ H _ I h=>Constant_bool ⟨.bl b,H,I,rfl,h⟩
theorem Fj{j pos}:PE X (.Constant .none j pos) (tC .non):=fun _ _ _ H _ I h=>Constant_none ⟨.non,H,I,rfl,h⟩
theorem Ah{x j pos}:PE X (.Constant (.str x) j pos) (tC (.str x)):=fun _ _ _ H _ I h=>Calls.Constant_str ⟨.str x,H,I.tok _,⟨_,rfl⟩,h⟩
def Gl(X:Cx)(x:Str):Prop:=X.env.kindOf x=some .globalImplicit
theorem JX{E:Value->Shared->Prop}{s:Shared}{Q:Value->Shared->Prop}(I:Inv X pins Z H s)(hg:Gl X x)(hm:X.mg x=some u)(h:Q u s)
 (hd:(x==("__debug__":Str))=false:=by decide):wpAny (model X.prog X.w) X.A (eval (.Name x pos) X.env) Q E s:=
 Calls.Name_function_global I.ok.kind hg (Calls.loadGlobal_global (by rw[I.ok.glob];exact I.mod.glob.keeps I.bk) hm h) hd
theorem Hm{E:Value->Shared->Prop}{s:Shared}{Q:Value->Shared->Prop}(I:Inv X pins Z H s)(hg:Gl X x)(hm:X.mg x=none)(hv:bootBuiltins x=some u)(h:Q u s)
 (hn:x≠"__name__":=by decide)(hd:(x==("__debug__":Str))=false:=by decide):wpAny (model X.prog X.w) X.A (eval (.Name x pos) X.env) Q E s:=by
 obtain⟨mb,h1,h2⟩:=I.mod.blt;exact Calls.Name_function_global I.ok.kind hg (Calls.loadGlobal_builtin (by rw[I.ok.glob];exact I.mod.glob.keeps I.bk) hm (by rw[I.ok.blt];exact h1.keeps I.bk) ((h2 x hn).trans hv) h) hd
theorem By{v:V}(hg:Gl X x)(hm:X.mg x=some u)(r:RelV v u)(hd:(x==("__debug__":Str))=false:=by decide):PE X (.Name x pos) (tC v):=
 fun _ _ _ H _ I h=>JX I hg hm ⟨v,H,I,r,h⟩ hd
theorem Xh{v:V}(hg:Gl X x)(hm:X.mg x=none)(hv:bootBuiltins x=some u)(r:RelV v u)(hn:x≠"__name__":=by decide)(hd:(x==("__debug__":Str))=false:=by decide):PE X (.Name x pos) (tC v):=
 fun _ _ _ H _ I h=>Hm I hg hm hv ⟨v,H,I,r,h⟩ hn hd
variable{a b:Expr}{ta tb:TE}{pos:Pos}
def PC(X:Cx)(op:CmpOp)(a b:Expr)(t:TE):Prop:=
 ∀(pins:List (Addr×Obj)) (s:Shared) (Z:St) (H:Hp) (Q:VK),Inv X pins Z H s->t Z H Q->
  wpAny (model X.prog X.w) X.A (eval a X.env) (fun v s₁=>wpAny (model X.prog X.w) X.A (eval b X.env) (fun u s₂=>wpAny (model X.prog X.w) X.A (compareOp op v u) (EP X pins Z Q) X.xe s₂) X.xe s₁) X.xe s
def tB(t:TE):TT:=fun Z H Q=>t Z H fun x H1=>∃c,x=.bl c/\Q c H1
theorem Xa{op:CmpOp}{t:TE}(h:PC X op a b t)(h1:behindInMarks op b=false:=by first | exact nobehind _ nofun nofun | rfl):PT X (.Compare a [op] [b] pos) (tB t):=by
 intro pins s Z H Q I hw;refine jo4 (thn (h pins s Z H _ I hw) fun v s1 h1=>thn h1 fun u s2 h2=>thn h2 fun c s3 hZ=>?_) h1;obtain⟨x,H1,I1,r1,q1⟩:=hZ;obtain⟨d,rfl,q⟩:=q1;cases r1;exact jc1 ⟨H1,I1,q⟩
theorem Fg{e:Expr}{t:TE}(h:PE X e t)(he:∀whole,isTrue e X.env whole=(do let v <-whole;standAt e.pos;holding [v] (truthy v)):=by intro _;rfl):PT X e (tB t):=by
 intro pins s Z H Q I hw;refine isTrue_plain (thn (h s Z H _ I hw) fun v s1 hZ=>?_) (he _);obtain⟨x,H1,I1,r1,q1⟩:=hZ;obtain⟨d,rfl,q⟩:=q1;cases r1;exact jc1 ⟨H1,I1,q⟩
variable{tA tB':TT}{rest:List Expr}
def yU(t u:TT):TT:=fun Z H Q=>t Z H fun c H1=>if c=true then u Z H1 Q else Q false H1
def tOr(t u:TT):TT:=fun Z H Q=>t Z H fun c H1=>if c=true then Q true H1 else u Z H1 Q
def ABh(t:TT):TT:=fun Z H Q=>t Z H fun c H1=>Q (!c) H1
theorem Hz(ha:PT X a tA):PW X (.BoolOp .And [a] pos) tA:=by
 intro wh pins s Z H Q I h;refine isTrue_and (thn (ha s Z H Q I h) fun c s1 e=>?_);cases c with
 | true=>exact isTrue_and_nil e
 | false=>exact e
theorem FJ(ha:PT X a tA):PW X (.BoolOp .Or [a] pos) tA:=by
 intro wh pins s Z H Q I h;refine isTrue_or (thn (ha s Z H Q I h) fun c s1 e=>?_);cases c with
 | false=>exact isTrue_or_nil e
 | true=>exact e
theorem J7(ha:PT X a tA)(hb:PW X (.BoolOp .And (b::rest) pos) tB'):PW X (.BoolOp .And (a::b::rest) pos) (yU tA tB'):=by
 intro wh pins s Z H Q I h;refine isTrue_and (thn (ha s Z H _ I h) fun c s1 hZ=>?_);obtain⟨H1,I1,q1⟩:=hZ;cases c with
 | true=>exact hb (whole:=wh) pins s1 Z H1 Q I1 q1
 | false=>exact⟨H1,I1,q1⟩
theorem Gk(ha:PT X a tA)(hb:PW X (.BoolOp .Or (b::rest) pos) tB'):PW X (.BoolOp .Or (a::b::rest) pos) (tOr tA tB'):=by
 intro wh pins s Z H Q I h;refine isTrue_or (thn (ha s Z H _ I h) fun c s1 hZ=>?_);obtain⟨H1,I1,q1⟩:=hZ;cases c with
 | true=>exact⟨H1,I1,q1⟩
 | false=>exact hb (whole:=wh) pins s1 Z H1 Q I1 q1
theorem Hl(ha:PT X a tA):PT X (.UnaryOp .Not a pos) (ABh tA):=by
 intro pins s Z H Q I h;exact isTrue_not (ha s Z H (fun c H1=>Q (!c) H1) I h)
def xJ(ta tb:TE):TE:=fun Z H Q=>ta Z H fun x H1=>∃c,x=.bl c/\if c=true then tb Z H1 Q else Q (.bl false) H1
theorem Xf{op}{t:TE}(h:PE X a t):PE X (.BoolOp op [a] pos) t:=fun pins s Z H Q I hw=>BoolOp_one (h s Z H Q I hw)
theorem Sy(ha:PE X a ta)(hb:PE X (.BoolOp .And (b::rest) pos) tb):PE X (.BoolOp .And (a::b::rest) pos) (xJ ta tb):=by
 intro pins s Z H Q I h;refine BoolOp_and (thn (ha s Z H _ I h) fun v s1 hZ=>?_);obtain⟨x,H1,I1,r1,q1⟩:=hZ;obtain⟨c,rfl,q1⟩:=q1;cases r1;refine jc1 ?_;cases c with
 | true=>exact hb s1 Z H1 Q I1 q1
 | false=>exact⟨.bl false,H1,I1,rfl,q1⟩
def tIf(t:TT)(ta tb:TE):TE:=fun Z H Q=>t Z H fun c H1=>if c=true then ta Z H1 Q else tb Z H1 Q
theorem Do{c:Expr}(hc:PT X c tA)(ha:PE X a ta)(hb:PE X b tb):PE X (.IfExp c a b pos) (tIf tA ta tb):=by
 intro pins s Z H Q I h;refine wpAny_IfExp (thn (hc s Z H _ I h) fun d s1 hZ=>?_);obtain⟨H1,I1,q1⟩:=hZ;cases d with
 | true=>exact ha s1 Z H1 Q I1 q1
 | false=>exact hb s1 Z H1 Q I1 q1
end
def SqL(K:Fr)(H:Hp)(a:Addr)(xs:List V):Prop:=
 Rd H a (.lst xs)\/
  ∃(o:Obj) (its:Array Value) (n:Nat),K.lookup a=some o/\o.cls=.type "list"/\o.dict=none/\o.data=.seq its n/\its.size<=sizeLine/\Vals xs its.toList
def SqT(K:Fr)(H:Hp)(a:Addr)(xs:List V):Prop:=
 Rd H a (.tup xs)\/
  ∃(o:Obj) (its:Array Value) (n:Nat),K.lookup a=some o/\o.cls=.type "tuple"/\o.data=.seq its n/\its.size<=sizeLine/\Vals xs its.toList
noncomputable def ADr:Value->Option V
 | .none=>some .non
 | .bool b=>some (.bl b)
 | .int i _=>some (.int i)
 | .str x _=>some (.str x)
 | .bytes b _=>some (.byt b)
 | .float b _=>some (.flt b)
 | .ref a=>some (.ref a)
 | .type n=>some (.ty n)
 | _=>none
theorem RelV.abs{x:V}(r:RelV x u):ADr u=some x:=by
 cases x with
 | non=>cases r;rfl
 | bl _=>cases r;rfl
 | int _=>obtain⟨t,rfl⟩:=r;rfl
 | str _=>obtain⟨t,rfl⟩:=r;rfl
 | byt _=>obtain⟨t,rfl⟩:=r;rfl
 | flt _=>obtain⟨t,rfl⟩:=r;rfl
 | ref _=>cases r;rfl
 | ty _=>cases r;rfl
theorem RelV.inj{x y:V}(r:RelV x u)(q:RelV y u):x=y:=ua (r.abs.symm.trans q.abs)
theorem Vals.inj:∀{xs ys:List V} {us:List Value},Vals xs us->Vals ys us->xs=ys
 | _,_,_,.nil,.nil=>rfl
 | _,_,_,.cons r t,.cons r' t'=>by rw[r.inj r',Vals.inj t t']
variable{K:Fr}
section
variable{X:Cx}{pins:List (Addr×Obj)}{Z:St}{H:Hp}{s:Shared}{a:Addr}{xs ys:List V}
theorem SqL.of(h:H a=some (.lst xs)):SqL K H a xs:=.inl (.inl h)
theorem SqT.of(h:H a=some (.tup xs)):SqT K H a xs:=.inl (.inl h)
theorem Inv.list(I:Inv X pins Z H s)(h:SqL X.K H a xs):∃its:List Value,Vals xs its/\PlainL s.heap a its.toArray/\xs.length<=sizeLine:=by
 rcases h with h | ⟨o,its,n,hk,hc,hd,hs,hz,r⟩
 ·obtain⟨z,its,n,r,e⟩:=h.ok I.hok;exact⟨its,r,⟨_,n,e,rfl,rfl,rfl⟩,z⟩
 ·refine⟨its.toList,r,⟨o,n,I.kIn a o hk,hc,hd,by simpa using hs⟩,?_⟩;have e:=r.length;simp only[kg] at e;lia
theorem Inv.tuple(I:Inv X pins Z H s)(h:SqT X.K H a xs):∃its:List Value,Vals xs its/\IsTup s.heap a its.toArray/\xs.length<=sizeLine:=by
 rcases h with h | ⟨o,its,n,hk,hc,hs,hz,r⟩
 ·obtain⟨z,its,r,p⟩:=h.ok I.hok;exact⟨its,r,p,z⟩
 ·refine⟨its.toList,r,⟨o,I.kIn a o hk,hc,n,by simpa using hs⟩,?_⟩;have e:=r.length;simp only[kg] at e;lia
theorem Inv.list_inj(I:Inv X pins Z H s)(h:SqL X.K H a xs)(h':SqL X.K H a ys):xs=ys:=by
 obtain⟨its,r,⟨o,n,e,_,_,d⟩,_⟩:=I.list h;obtain⟨its',r',⟨o',n',e',_,_,d'⟩,_⟩:=I.list h';rw[e] at e';cases e';rw[d] at d';injection d' with d1 _;have:its=its':=by simpa using xy Array.toList d1
 subst this;exact r.inj r'
theorem Inv.tuple_inj(I:Inv X pins Z H s)(h:SqT X.K H a xs)(h':SqT X.K H a ys):xs=ys:=by
 obtain⟨its,r,⟨o,e,_,n,d⟩,_⟩:=I.tuple h;obtain⟨its',r',⟨o',e',_,n',d'⟩,_⟩:=I.tuple h';rw[e] at e';cases e';rw[d] at d';injection d' with d1 _;have:its=its':=by simpa using xy Array.toList d1
 subst this;exact r.inj r'
end
noncomputable abbrev Cx.wish(X:Cx)(E:Value->Shared->Prop):Cx:={ X with xe:=E }
noncomputable abbrev Cx.nox(X:Cx):Cx:=X.wish fun _ _=>False
theorem Cx.Ok.wish{X:Cx}(ok:X.Ok)(E:Value->Shared->Prop):(X.wish E).Ok:=
 ⟨ok.mod,ok.kind,ok.glob,ok.blt,ok.above,ok.inj,ok.has,ok.cab,ok.hd,ok.frames,ok.stk,ok.exf,ok.bs,ok.bsz,ok.noex,ok.exfs,ok.funs,ok.frf⟩
theorem Cx.Ok.unwish{X:Cx}{E:Value->Shared->Prop}(ok:(X.wish E).Ok):X.Ok:=
 ⟨ok.mod,ok.kind,ok.glob,ok.blt,ok.above,ok.inj,ok.has,ok.cab,ok.hd,ok.frames,ok.stk,ok.exf,ok.bs,ok.bsz,ok.noex,ok.exfs,ok.funs,ok.frf⟩
section
variable{X:Cx}{pins:List (Addr×Obj)}{Z:St}{H:Hp}{s:Shared}{E:Value->Shared->Prop}
theorem Inv.wish(I:Inv X pins Z H s)(E:Value->Shared->Prop):Inv (X.wish E) pins Z H s:=⟨I.ok.wish E,I.os,I.bare,I.base,I.loc,I.cell,I.free,I.freeC,I.pin,I.hok,I.len⟩
theorem Inv.unwish(I:Inv (X.wish E) pins Z H s):Inv X pins Z H s:=⟨I.ok.unwish,I.os,I.bare,I.base,I.loc,I.cell,I.free,I.freeC,I.pin,I.hok,I.len⟩
theorem SP.unwish{D:Ends}{f:Flow}{s':Shared}(h:SP (X.wish E) pins D f s'):SP X pins D f s':=by
 cases f with
 | next=>obtain⟨Z',H',I,q⟩:=h;exact⟨Z',H',I.unwish,q⟩
 | brk=>obtain⟨Z',H',I,q⟩:=h;exact⟨Z',H',I.unwish,q⟩
 | cont=>obtain⟨Z',H',I,q⟩:=h;exact⟨Z',H',I.unwish,q⟩
 | ret u=>obtain⟨v,Z',H',I,r,q⟩:=h;exact⟨v,Z',H',I.unwish,r,q⟩
theorem PSs.nox{st:List Stmt}{t:TS}(h:PSs X.nox st t):PSs X st t:=fun pins s Z H D I hw=>
 Qb (h s Z H D (I.wish _) hw) (fun _ _ q=>q.unwish) fun _ _ z=>False.elim z
end
section
variable{X:Cx}{st:Stmt}{rest:List Stmt}{t u:TS}{e:Expr}{te:TE}{pos:Pos}
def xF:TS:=fun D Z H=>D.nx Z H
def lV(t u:TS):TS:=fun D Z H=>t { D with nx:=u D } Z H
theorem Ao:PSs X [] xF:=fun _ _ Z H _ I h=>jm2 ⟨Z,H,I,h⟩
theorem Ac(h1:PS X st t)(h2:PSs X rest u):PSs X (st::rest) (lV t u):=by
 intro pins s Z H D I h;refine jk6 (thn (h1 s Z H { D with nx:=u D } I h) fun f s1 q=>?_);cases f with
 | next=>
  obtain⟨Z',H',I',q⟩:=q;exact h2 s1 Z' H' D I' q
 | ret v=>exact q
 | brk=>exact q
 | cont=>exact q
theorem Ad(h1:PS X st t):PSs X [st] t:=by
 intro pins s Z H D I h;refine jk6 (thn (h1 s Z H D I h) fun f s1 q=>?_);cases f with
 | next=>exact jm2 q
 | ret v=>exact q
 | brk=>exact q
 | cont=>exact q
theorem Inv.quiet{s:Shared}(I:Inv X pins Z H s):interactive X.env=false:=by simp[interactive,I.ok.kind]
def lX(te:TE):TS:=fun D Z H=>te Z H fun _ H1=>D.nx Z H1
theorem BV(he:PE X e te)(hs:‹swapsWith e none pos.line X.env=pure false›):PS X (.Expr e pos) (lX te):=by
 intro pins s Z H D I h;exact wpAny_Expr_any (thn (he s Z H _ I h) fun v s1 ⟨x,H1,I1,r1,q1⟩=>⟨Z,H1,I1,q1⟩) I.quiet hs
def yN(te:TE):TS:=fun D Z H=>te Z H D.rt
theorem Ak(he:PE X e te):PS X (.Return (some e) pos) (yN te):=by
 intro pins s Z H D I h;exact wpAny_Return_some (thn (he s Z H _ I h) fun v s1 ⟨x,H1,I1,r1,q1⟩=>⟨x,Z,H1,I1,r1,q1⟩)
def yP(c:TT)(t u:TS):TS:=fun D Z H=>c Z H fun b H1=>if b=true then t D Z H1 else u D Z H1
theorem Ay{c:Expr}{a b:List Stmt}{tc:TT}(hc:PT X c tc)(ha:PSs X a t)(hb:PSs X b u):PS X (.If c a b pos) (yP tc t u):=by
 intro pins s Z H D I h;refine wpAny_If (thn (hc s Z H _ I h) fun d s1 hZ=>?_);obtain⟨H1,I1,q1⟩:=hZ;cases d with
 | true=>exact ha s1 Z H1 D I1 q1
 | false=>exact hb s1 Z H1 D I1 q1
def yO:TS:=fun _ _ _=>False
theorem Bd:PS X st yO:=fun _ _ _ _ _ _ h=>h.elim
end
noncomputable abbrev TG:=V->St->Hp->(St->Hp->Prop)->Prop
noncomputable abbrev TGs:=List V->St->Hp->(St->Hp->Prop)->Prop
def PG(X:Cx)(target:Expr)(t:TG):Prop:=
 ∀ ⦃pins:List (Addr×Obj)⦄ (s:Shared) (Z:St) (H:Hp) (v:V) (u:Value) (Q:St->Hp->Prop),Inv X pins Z H s->RelV v u->t v Z H Q->
  wpAny (model X.prog X.w) X.A (assign target X.env u) (fun _ s'=>∃Z' H',Inv X pins Z' H' s'/\Q Z' H') X.xe s
def PGs(X:Cx)(ts:List Expr)(t:TGs):Prop:=
 ∀ ⦃pins:List (Addr×Obj)⦄ (s:Shared) (Z:St) (H:Hp) (vs:List V) (us:List Value) (Q:St->Hp->Prop),Inv X pins Z H s->Vals vs us->t vs Z H Q->
  wpAny (model X.prog X.w) X.A (assignInOrder ((assignEach ts X.env).map (·.2)) us) (fun _ s'=>∃Z' H',Inv X pins Z' H' s'/\Q Z' H') X.xe s
noncomputable abbrev ABR:=V->V->V->Hp->(Hp->Prop)->Prop
def ACx(X:Cx)(t:ABR):Prop:=
 ∀(pins:List (Addr×Obj)) (s:Shared) (Z:St) (H:Hp) (o i v:V) (ov iv u:Value) (Q:Hp->Prop),Inv X pins Z H s->RelV o ov->RelV i iv->RelV v u->t o i v H Q->
  wpAny (model X.prog X.w) X.A (setItem ov iv u) (fun _ s'=>∃H',Inv X pins Z H' s'/\Q H') X.xe s
section
variable{X:Cx}{pos:Pos}
def HR(i:Nat):TG:=fun v Z H Q=>Q (Z.set i (some v)) H
theorem DX{i:Nat}(hN:X.N.Nodup)(hi:X.N[i]?=some x)(hx:Loc X.env.scope x)(hf:X.fn x=true\/X.env.scope.names.lookup x=some .local:=by first | exact .inl rfl | exact .inr rfl | assumption):PG X (.Name x pos) (HR i):=by
 intro pins s Z H v u Q I r h;exact wpAny_assign_Name (Iv I hN hi hx r (fun s' I'=>⟨_,H,I',h⟩) hf)
def vX:TGs:=fun vs Z H Q=>vs=[]/\Q Z H
def WF(t:TG)(u:TGs):TGs:=fun vs Z H Q=>∃v r,vs=v::r/\t v Z H fun Z' H'=>u r Z' H' Q
theorem Xe:PGs X [] vX:=by
 intro pins s Z H vs us Q I r h;obtain⟨e,h⟩:=h;subst e;cases r;exact assignInOrder_nil ⟨Z,H,I,h⟩
theorem Iz{e:Expr}{es:List Expr}{t:TG}{u:TGs}(h1:PG X e t)(h2:PGs X es u)
 (hs:‹(assignEach (e::es) X.env).map (·.2)=assign e X.env::(assignEach es X.env).map (·.2)›):PGs X (e::es) (WF t u):=by
 intro pins s Z H vs us Q I r h;obtain⟨v,vr,e1,h⟩:=h;subst e1;cases r with
 | cons r rr=>
  rw[hs];refine assignInOrder_cons (thn (h1 s Z H _ _ _ I r h) fun _ s1 hZ=>?_);obtain⟨σ1,H1,I1,q1⟩:=hZ;exact h2 s1 σ1 H1 _ _ Q I1 rr q1
def qQ(K:Fr)(n:Nat)(t:TGs):TG:=fun v Z H Q=>∃a xs,v=.ref a/\SqT K H a xs/\xs.length=n/\t xs Z H Q
theorem oV{es:List Expr}{k:Nat}{t:TGs}{n:Nat}(hc:X.calm=true)(h:PGs X es t)
 (hn:‹(assignEach es X.env).length=n›)(hst:‹(assignEach es X.env).findIdx? (·.1)=none›):PG X (.Tuple es k pos) (qQ X.K n t):=by
 intro pins s Z H v u Q I r hw;obtain⟨a,xs,e1,hq,hl,hw⟩:=hw;subst e1;cases r;obtain⟨its,rv,ht,hz⟩:=I.tuple hq;refine assign_Tuple_tuple (I.ok.hd hc) ht (by simp[hn,<-hl,rv.length]) hst fun h' hx=>?_;have I1:Inv X pins Z H { s with heap:=h' }:=I.kept (t':=s.toks) fun b o e=>hx b o (vv (xk e)) e;exact h _ Z H xs _ Q I1 (by simpa using rv) hw
def ACh(to ti:TE)(t:ABR):TG:=fun v Z H Q=>to Z H fun o H1=>ti Z H1 fun i H2=>t o i v H2 fun H3=>Q Z H3
theorem oW{o i:Expr}{to ti:TE}{t:ABR}(ho:PE X o to)(hi:PE X i ti)(hs:ACx X t)
 (ha:∀v,assign (.Subscript o i pos) X.env v=(do
  let ov <-holding [v] (eval o X.env)
  let iv <-holding [v,ov] (eval i X.env)
  standAt pos
  holding [v,ov,iv] (setItem ov iv v)
  release [v,ov,iv] []):=by intro _;rfl):PG X (.Subscript o i pos) (ACh to ti t):=by
 intro pins s Z H v u Q I r h;rw[ha];refine js (je5 (thn (ho s Z H _ I h) fun ov s1 hZ=>?_));obtain⟨x,H1,I1,r1,q1⟩:=hZ;refine js (je5 (thn (hi s1 Z H1 _ I1 q1) fun iv s2 hZ=>?_));obtain⟨y,H2,I2,r2,q2⟩:=hZ;refine js (jp0 (js (je5 (thn (hs pins s2 Z H2 x y v ov iv u _ I2 r1 r2 r q2) fun _ s3 hZ=>?_))));obtain⟨H3,I3,q3⟩:=hZ;exact wpAny_release ⟨Z,H3,I3,q3⟩
def aZ(te:TE)(g:TG):TS:=fun D Z H=>te Z H fun x H1=>g x Z H1 D.nx
theorem oM{tg e:Expr}{te:TE}{g:TG}(he:PE X e te)(hg:PG X tg g)(hs:‹swapsWithSole [tg] e pos.line X.env=pure false›)(hw:‹swappedStores [tg] e X.env=pure none›)
 (h1:‹(assignEach [tg] X.env).map (·.2)=[assign tg X.env]›):PS X (.Assign [tg] e pos) (aZ te g):=by
 intro pins s Z H D I h;refine wpAny_Assign_stores (thn (he s Z H _ I h) fun v s1 hZ=>?_) hs hw;obtain⟨x,H1,I1,r1,q1⟩:=hZ;rw[h1];exact thn (hg s1 Z H1 x v _ I1 r1 q1) fun _ s2 q=>q
theorem Ai(i:Nat){x:Str}{e:Expr}{te:TE}{pos':Pos}(he:PE X e te)(hN:X.N.Nodup:=by assumption)(hi:X.N[i]?=some x:=by exact rfl)(hx:Loc X.env.scope x:=by walk_at"o")(hs:‹swapsWith e (some (.Name x pos')) pos.line X.env=pure false›)(hf:X.fn x=true\/X.env.scope.names.lookup x=some .local:=by first | exact .inl rfl | exact .inr rfl | assumption):
 PS X (.Assign [.Name x pos'] e pos) (aZ te (HR i)):=by
 intro pins s Z H D I h;refine js7 (thn (he s Z H _ I h) fun v s1 hZ=>?_) hs;obtain⟨y,H1,I1,r1,q1⟩:=hZ;exact Iv I1 hN hi hx r1 (fun s2 I2=>⟨_,H1,I2,q1⟩) hf
def ABg(i j:Nat)(ta:TA):TS:=fun D Z H=>ta Z H fun vs H1=>∃v w,vs=[v,w]/\D.nx ((Z.set i (some v)).set j (some w)) H1
theorem zq{i j:Nat}{y:Str}{a b:Expr}{ta:TA}{px py pt:Pos}{kt k2 pt2}(hc:X.calm=true)(hN:X.N.Nodup)(hi:X.N[i]?=some x)(hj:X.N[j]?=some y)(hij:i≠j)
 (hx:X.env.scope.names.lookup x=some .local)(hy:X.env.scope.names.lookup y=some .local)(ha:PA X [a,b] ta)
 (hw:swappedStores [.Tuple [.Name x px,.Name y py] kt pt] (.Tuple [a,b] k2 pt2) X.env=pure (some [x,y]))
 (hs:‹swapsWithSole [.Tuple [.Name x px,.Name y py] kt pt] (.Tuple [a,b] k2 pt2) pos.line X.env=pure false›):
 PS X (.Assign [.Tuple [.Name x px,.Name y py] kt pt] (.Tuple [a,b] k2 pt2) pos) (ABg i j ta):=by
 intro pins s Z H D I h;rw[exec_Assign_arm];refine js (jp0 ?_);rw[hs];refine js (zt ?_);rw[yb nofun];refine js (Tuple_ (thn (ha pins s Z H _ I h) fun us s1 hZ=>?_));obtain⟨vs,H1,I1,r1,q1⟩:=hZ;obtain⟨v,w,e1,q1⟩:=q1;subst e1;obtain⟨u1,u2,rfl,rv,rw'⟩:∃u1 u2,us=[u1,u2]/\RelV v u1/\RelV w u2:=by
  cases r1 with
  | cons p q=>
   cases q with
   | cons p' q'=>
    cases q';exact⟨_,_,rfl,p,p'⟩
 refine jd3 ?_ (by show 2<=sizeLine;decide);have I2:Inv X pins Z H1 { s1 with heap:=s1.heap.push { cls:=.type "tuple",data:=.seq [u1,u2].toArray } }:=I1.kept (t':=s1.toks) fun b o e=>jv _ e;rw[hw];refine js (zt ?_);show wpAny (model X.prog X.w) X.A (do rule "assign.swapped-stores";let items <-unpackItems (.ref s1.heap.objs.size) 2 none;assignInOrder [fun v=>bindName X.env y v,fun v=>bindName X.env x v] items.reverse;pure Flow.next) _ _ _
 refine js (jw2 (js (unpackItems_tuple (items:= #[u1,u2]) (I.ok.hd hc) (IsTup.new s1.heap _) fun h' hx'=>?_)));have I3:=I2.kept (h':=h') (t':=s1.toks) fun b o e=>hx' b o (vv (xk e)) e;show wpAny _ _ (assignInOrder [fun v=>bindName X.env y v,fun v=>bindName X.env x v] [u2,u1] >>= fun _=>pure Flow.next) _ _ _
 refine js (assignInOrder_cons (wpAny_bindName (Iv I3 hN hj (.inl hy) rw' (fun s2 I4=>?_) (.inr hy))));refine assignInOrder_cons (wpAny_bindName (Iv I4 hN hi (.inl hx) rv (fun s3 I5=>assignInOrder_nil (zt ?_)) (.inr hx)));rw[List.set_comm _ _ (Ne.symm hij)] at I5;exact⟨_,H1,I5,q1⟩
end
section
variable{X:Cx}{pos:Pos}
def yM(c:TT)(tb:TS):TS:=fun D Z H=>∃W:Nat->St->Hp->Prop,(∃m,W m Z H)/\∀m Z H,W m Z H->
 c Z H fun b H1=>if b=true then ∃N:St->Hp->Prop,(∀Z' H',N Z' H'->∃m',m'<m/\W m' Z' H')/\tb { D with nx:=N,ct:=N,bk:=D.nx } Z H1 else D.nx Z H1
theorem Fo{c:Expr}{body:List Stmt}{tc:TT}{tb:TS}(hp:PassesOwn (model X.prog X.w) X.A X.env X.xe)(hc:PT X c tc)(hb:PSs X body tb):PS X (.While c body [] pos) (yM tc tb):=by
 intro pins s Z H D I h;obtain⟨W,⟨m0,w0⟩,turn⟩:=h;refine wpAny_While (codeAny_whileLoop (fun n s'=>∃Z' H',Inv X pins Z' H' s'/\W n Z' H') ?_ m0 ⟨Z,H,I,w0⟩);rintro n s1 ⟨σ1,H1,I1,w1⟩;refine jg8 hp (thn (hc s1 σ1 H1 _ I1 (turn n σ1 H1 w1)) fun b s2 hZ=>?_);obtain⟨H2,I2,q2⟩:=hZ;cases b with
 | true=>
  obtain⟨N,hN,q2⟩:=q2;rw[xz rfl];refine jg8 hp (thn (hb s2 σ1 H2 _ I2 q2) fun f s3 q3=>?_);cases f with
  | next=>
   obtain⟨σ3,H3,I3,n3⟩:=q3;obtain⟨m',hm,w3⟩:=hN σ3 H3 n3;exact⟨m',hm,σ3,H3,I3,w3⟩
  | cont=>
   obtain⟨σ3,H3,I3,n3⟩:=q3;obtain⟨m',hm,w3⟩:=hN σ3 H3 n3;exact⟨m',hm,σ3,H3,I3,w3⟩
  | brk=>exact q3
  | ret v=>exact q3
 | false=>
  rw[yb zk];exact jm2 ⟨σ1,H2,I2,q2⟩
end
structure It where
 go:Nat->Hp->Prop
 yld:Nat->Hp->V->Hp->Prop
 stop:Nat->Hp->Prop
def Jm(X:Cx)(pins:List (Addr×Obj))(H:Hp)(b:Addr):Prop:=
 H b=none/\b≠X.env.locals/\b∉X.fs/\(b∈X.ex\/X.s₀.heap.objs.size<=b)/\(∀x c,X.env.cells.lookup x=some c->c≠b)/\∀p∈X.pn++pins,p.1≠b
theorem Inv.fpOk{X:Cx}{H':Hp}{s:Shared}{b:Addr}(I:Inv X pins Z H s)(hb:s.heap.objs.size<=b)(hn:H' b=none):Jm X pins H' b:=by
 refine⟨hn,jr3 (xi I.lt hb),I.nofs hb,.inr (qr I.sz hb),fun x c e z=>?_,fun p hp z=>?_⟩
 ·obtain⟨v,q⟩:=I.cell x c e;exact absurd (xi q.lt (by rw[z];exact hb)) (jf7 _)
 ·exact absurd (xi (xk (I.pin p hp).1) (by rw[z];exact hb)) (jf7 _)
structure Turn(P:Program)(w:World)(K:Fr)(tg:Expr)(J:It)(fp:List Addr)(it:Addr)(tn:Nat->Heap->Prop):Prop where
 mem:it∈fp
 obj:∀i h,tn i h->∀b∈fp,∃o,h.get? b=some o/\∀v,o.data≠.cell v
 keep:∀i h h',tn i h->(∀b∈fp,∀o,h.get? b=some o->h'.get? b=some o)->tn i h'
 item:∀(X:Cx),X.prog=P->X.w=w->X.K=K->X.calm=true->∀(i:Nat) (pins:List (Addr×Obj)) (s:Shared) (Z:St) (H:Hp) (E:Value->Shared->Prop),Inv X pins Z H s->(∀b∈fp,Jm X pins H b)->tn i s.heap->J.go i H->
  wpAny (model P w) X.A (pyNext (.ref it)) (fun r s1=>∃u,r=some u/\
   wpAny (model P w) X.A (letOwnedTupleGo tg (.ref it) u) (fun _ s2=>∃x H',Inv X pins Z H' s2/\RelV x u/\J.yld i H x H'/\tn (i+1) s2.heap/\∀b∈fp,H' b=none) E s1) E s
 done:∀(X:Cx),X.prog=P->X.w=w->X.K=K->X.calm=true->∀(i:Nat) (pins:List (Addr×Obj)) (s:Shared) (Z:St) (H:Hp) (E:Value->Shared->Prop),Inv X pins Z H s->(∀b∈fp,Jm X pins H b)->tn i s.heap->J.stop i H->
  wpAny (model P w) X.A (pyNext (.ref it)) (fun r s1=>r=none/\Inv X pins Z H s1) E s
 self:∀(A:Around) (i:Nat) (s:Shared) (Q:Value->Shared->Prop) (E:Value->Shared->Prop),tn i s.heap->Q (.ref it) s->wpAny (model P w) A (pyIter (.ref it)) Q E s
noncomputable abbrev TI:=St->Hp->(It->Hp->Prop)->Prop
def PIE(X:Cx)(pins:List (Addr×Obj))(Z:St)(tg:Expr)(R:It->Hp->Prop)(itv:Value)(s2:Shared):Prop:=
 ∃(it:Addr) (fp:List Addr) (tn:Nat->Heap->Prop) (J:It) (H':Hp),itv=.ref it/\Inv X pins Z H' s2/\Turn X.prog X.w X.K tg J fp it tn/\tn 0 s2.heap/\(∀b∈fp,Jm X pins H' b)/\R J H'
def PI(X:Cx)(tg iter:Expr)(wi:TI):Prop:=
 ∀ ⦃pins:List (Addr×Obj)⦄ (s:Shared) (Z:St) (H:Hp) (R:It->Hp->Prop),Inv X pins Z H s->wi Z H R->
  wpAny (model X.prog X.w) X.A (eval iter X.env) (fun v s1=>wpAny (model X.prog X.w) X.A (pyIter v) (PIE X pins Z tg R) X.xe s1) X.xe s
theorem Zh{M:Model}{E:Value->Shared->Prop}{s:Shared}{tg:Expr}{it:Addr}{o:Obj}{n:String}{vs:Array Value}{Q:Unit->Shared->Prop}(ho:s.heap.get? it=some o)(hc:o.cls=.type n)(hd:o.data=.fields vs)
 (hn:["enumerate","zip","dict_itemiterator","dict_reverseitemiterator","odict_iterator","itertools.zip_longest","itertools.pairwise"].contains n=false)(hQ:Q () s):wpAny M A (letOwnedTupleGo tg (.ref it) u) Q E s:=by
 unfold letOwnedTupleGo;cases tg<;>first
  | exact zt hQ
  | (cases u<;>first
   | exact zt hQ
   | (refine js (wpAny_load ho ?_)
      rw[hc,hd];show wpAny M A (if (["enumerate","zip","dict_itemiterator","dict_reverseitemiterator","odict_iterator","itertools.zip_longest","itertools.pairwise"].contains n&&vs[0]?==some (rawInt _))=true then _ else _) Q E s;rw[yb (by intro h;rw[hn,Bool.false_and] at h;cases h)];exact zt hQ))
noncomputable def Itl(K:Fr)(a:Addr):It:=
 ⟨fun i H=>∃xs x,SqL K H a xs/\xs[i]?=some x,fun i H x H'=>H'=H/\∀xs,SqL K H a xs->xs[i]?=some x,fun i H=>∃xs,SqL K H a xs/\xs.length<=i⟩
noncomputable def Itt(K:Fr)(a:Addr):It:=
 ⟨fun i H=>∃xs x,SqT K H a xs/\xs[i]?=some x,fun i H x H'=>H'=H/\∀xs,SqT K H a xs->xs[i]?=some x,fun i H=>∃xs,SqT K H a xs/\xs.length<=i⟩
noncomputable def Itr(lo:Int)(n:Nat):It:=⟨fun i _=>i<n,fun i H x H'=>H'=H/\x=.int (lo+i),fun i _=>n<=i⟩
theorem gf{P:Program}{w:World}{tg:Expr}(a it:Addr):Turn P w K tg (Itl K a) [it] it (fun i h=>h.IsListIter it a i) where
 mem:=by simp
 obj:=fun i h st b hb=>by
  have e:b=it:=by simpa using hb
  subst e;obtain⟨o,e,c,d⟩:=st;exact⟨o,e,fun v z=>by rw[d] at z;cases z⟩
 keep:=fun i h h' st k=>st.at fun o e=>k it (by simp) o e
 item:=by
  intro X hP hw hK hc i pins s Z H E I hf st hg;subst hP hw hK;obtain⟨xs,x,hq,hx⟩:=hg;obtain⟨its,rv,p,hz⟩:=I.list hq;obtain⟨u,hu,ru⟩:=rv.get hx;obtain⟨f0,f1,f2,f3,f4,f5⟩:=hf it (by simp);refine wpAny_pyNext_list_item st p.isList (x:=u) (by simpa using hu) fun h' st' sb=>?_;have I1:Inv X pins Z H { s with heap:=h' }:=I.turned (t':=s.toks) (fun b o hb e=>(sb.2 b hb).trans e) f0 f1 f3 f4 f5;obtain⟨o,e,c,d⟩:=id st';exact⟨u,rfl,Zh (s:={ s with heap:=h' }) e c d nofun ⟨x,H,I1,ru,⟨rfl,fun ys hy=>by rw[I.list_inj hy hq];exact hx⟩,st',fun b hb=>(hf b hb).1⟩⟩
 done:=by
  intro X hP hw hK hc i pins s Z H E I hf st hg;subst hP hw hK;obtain⟨xs,hq,hx⟩:=hg;obtain⟨its,rv,p,hz⟩:=I.list hq;obtain⟨f0,f1,f2,f3,f4,f5⟩:=hf it (by simp);have hl:=rv.length;exact wpAny_pyNext_list_end (I.ok.hd hc) st p.isList (by simp;lia) fun h' eb=>⟨rfl,I.turned (t':=s.toks) (fun b o hb e=>eb b o hb e) f0 f1 f3 f4 f5⟩
 self:=fun _ _ _ _ _ st h=>wpAny_pyIter_listiter st h
theorem aR{P:Program}{w:World}{tg:Expr}(a it:Addr):Turn P w K tg (Itt K a) [it] it (fun i h=>h.IsTupleIter it a i) where
 mem:=by simp
 obj:=fun i h st b hb=>by
  have e:b=it:=by simpa using hb
  subst e;obtain⟨o,e,c,d⟩:=st;exact⟨o,e,fun v z=>by rw[d] at z;cases z⟩
 keep:=fun i h h' st k=>st.at fun o e=>k it (by simp) o e
 item:=by
  intro X hP hw hK hc i pins s Z H E I hf st hg;subst hP hw hK;obtain⟨xs,x,hq,hx⟩:=hg;obtain⟨its,rv,p,hz⟩:=I.tuple hq;obtain⟨u,hu,ru⟩:=rv.get hx;obtain⟨f0,f1,f2,f3,f4,f5⟩:=hf it (by simp);refine wpAny_pyNext_tuple_item st (show s.heap.IsTuple a its.toArray from p) (x:=u) (by simpa using hu) fun h' st' sb=>?_;have I1:Inv X pins Z H { s with heap:=h' }:=I.turned (t':=s.toks) (fun b o hb e=>(sb.2 b hb).trans e) f0 f1 f3 f4 f5;obtain⟨o,e,c,d⟩:=id st';exact⟨u,rfl,Zh (s:={ s with heap:=h' }) e c d nofun ⟨x,H,I1,ru,⟨rfl,fun ys hy=>by rw[I.tuple_inj hy hq];exact hx⟩,st',fun b hb=>(hf b hb).1⟩⟩
 done:=by
  intro X hP hw hK hc i pins s Z H E I hf st hg;subst hP hw hK;obtain⟨xs,hq,hx⟩:=hg;obtain⟨its,rv,p,hz⟩:=I.tuple hq;obtain⟨f0,f1,f2,f3,f4,f5⟩:=hf it (by simp);have hl:=rv.length;exact wpAny_pyNext_tuple_end (I.ok.hd hc) st (show s.heap.IsTuple a its.toArray from p) (by simp;lia) fun h' eb=>⟨rfl,I.turned (t':=s.toks) (fun b o hb e=>eb b o hb e) f0 f1 f3 f4 f5⟩
 self:=fun _ _ _ _ _ st h=>wpAny_pyIter_tupleiter st h
theorem aU{P:Program}{w:World}{tg:Expr}(it:Addr)(lo:Int)(n:Nat):Turn P w K tg (Itr lo n) [it] it (fun i h=>IsRangeIter h it (lo+(i:Nat)*1) ((n:Int)-(i:Nat)) 1) where
 mem:=by simp
 obj:=fun i h st b hb=>by
  have e:b=it:=by simpa using hb
  subst e;exact⟨_,st,fun v z=>by
   have z':Data.fields _=Data.cell v:=z;cases z'⟩
 keep:=fun i h h' st k=>k it (by simp) _ st
 item:=by
  intro X hP hw hK hc i pins s Z H E I hf st hg;subst hP hw hK;obtain⟨f0,f1,f2,f3,f4,f5⟩:=hf it (by simp);have W:=Walks.range (prog:=X.prog) (w:=X.w) (I.ok.hd hc) it lo 1 n;refine W.item i s _ _ hg st fun v h' tk hv st' kk=>?_;obtain⟨t,rfl⟩:=hv;have I1:Inv X pins Z H { s with heap:=h',toks:=tk }:=I.turned (fun b o hb e=>kk b o (by simpa using hb) e) f0 f1 f3 f4 f5;refine⟨_,rfl,Zh (s:={ s with heap:=h',toks:=tk }) (n:="range_iterator") st' rfl rfl nofun ⟨.int (lo+i),H,I1,⟨t,?_⟩,⟨rfl,rfl⟩,st',fun b hb=>(hf b hb).1⟩⟩;rw[jg9]
 done:=by
  intro X hP hw hK hc i pins s Z H E I hf st hg;subst hP hw hK;obtain⟨f0,f1,f2,f3,f4,f5⟩:=hf it (by simp);exact wpAny_pyNext_range_end (I.ok.hd hc) st (by have:n<=i:=hg;lia) fun h' eb=>⟨rfl,I.turned (t':=s.toks) (fun b o hb e=>eb b o hb e) f0 f1 f3 f4 f5⟩
 self:=fun _ _ _ _ _ st h=>wpAny_pyIter_rangeiter st h
section
variable{X:Cx}{tg:Expr}
def xj(K:Fr)(tl:TE):TI:=fun Z H R=>tl Z H fun x H1=>∃a,x=.ref a/\(∃xs,SqL K H1 a xs)/\R (Itl K a) H1
def vV(K:Fr)(tl:TE):TI:=fun Z H R=>tl Z H fun x H1=>∃a,x=.ref a/\(∃xs,SqT K H1 a xs)/\R (Itt K a) H1
theorem Fx{l:Expr}{tl:TE}(hl:PE X l tl):PI X tg l (xj X.K tl):=by
 intro pins s Z H R I h;refine thn (hl s Z H _ I h) fun v s1 hZ=>?_;obtain⟨x,H1,I1,r1,q1⟩:=hZ;obtain⟨a,e,⟨xs,hq⟩,q⟩:=q1;subst e;cases r1;obtain⟨its,rv,p,hz⟩:=I1.list hq;refine je8 p.isList ?_;refine⟨s1.heap.objs.size,[s1.heap.objs.size],_,_,H1,rfl,I1.kept (t':=s1.toks) fun b o e=>jv _ e,gf a _,⟨_,xa _ rfl,rfl,rfl⟩,fun b hb=>?_,q⟩;have e:b=s1.heap.objs.size:=by simpa using hb
 subst e;exact I1.fpOk (qg _) (I1.hok.fresh (qg _))
theorem Oz{l:Expr}{tl:TE}(hl:PE X l tl):PI X tg l (vV X.K tl):=by
 intro pins s Z H R I h;refine thn (hl s Z H _ I h) fun v s1 hZ=>?_;obtain⟨x,H1,I1,r1,q1⟩:=hZ;obtain⟨a,e,⟨xs,hq⟩,q⟩:=q1;subst e;cases r1;obtain⟨its,rv,p,hz⟩:=I1.tuple hq;refine ji2 (show s1.heap.IsTuple a its.toArray from p) ?_;refine⟨s1.heap.objs.size,[s1.heap.objs.size],_,_,H1,rfl,I1.kept (t':=s1.toks) fun b o e=>jv _ e,aR a _,⟨_,xa _ rfl,rfl,rfl⟩,fun b hb=>?_,q⟩;have e:b=s1.heap.objs.size:=by simpa using hb
 subst e;exact I1.fpOk (qg _) (I1.hok.fresh (qg _))
theorem oH{s:Shared}{R:It->Hp->Prop}{E:Value->Shared->Prop}{lo hi:Int}{t u v:Tok}{tk:Nat}(I:Inv X pins Z H s)(h1: -(2^62)<=lo)(h2:lo<2^62)(h3: -(2^62)<=hi)(h4:hi<2^62)
 (q:R (Itr lo (hi-lo).toNat) H):wpAny (model X.prog X.w) X.A (pyIter (.ref s.heap.objs.size)) (PIE X pins Z tg R) E { s with heap:=s.heap.push { cls:=.type "range",data:=.fields #[.int lo t,.int hi u,.int 1 v] },toks:=tk }:=by
 refine wpAny_pyIter_range (IsRange.new ..) (small_one h1 h2 h3 h4) ?_;have I1:Inv X pins Z H { s with heap:=s.heap.push { cls:=.type "range",data:=.fields #[.int lo t,.int hi u,.int 1 v] },toks:=tk }:=I.kept fun b o e=>jv _ e;refine⟨(s.heap.push { cls:=.type "range",data:=.fields #[.int lo t,.int hi u,.int 1 v] }).objs.size,[(s.heap.push { cls:=.type "range",data:=.fields #[.int lo t,.int hi u,.int 1 v] }).objs.size],_,_,H,rfl,
  I1.kept (t':=tk) fun b o e=>jv _ e,aU _ lo (hi-lo).toNat,?_,fun b hb=>?_,q⟩
 ·have e1:lo+((0:Nat):Int)*1=lo:=by simp
  have e2:(((hi-lo).toNat:Nat):Int)-((0:Nat):Int)=Builtin.Range.rangeSize lo hi 1:=by rw[rangeSize_one];split<;>lia
  show IsRangeIter _ _ (lo+((0:Nat):Int)*1) ((((hi-lo).toNat:Nat):Int)-((0:Nat):Int)) 1;rw[e1,e2];exact xa _ rfl
 ·have e:b=(s.heap.push { cls:=.type "range",data:=.fields #[.int lo t,.int hi u,.int 1 v] }).objs.size:=by simpa using hb
  subst e;exact I1.fpOk (qg _) (I1.hok.fresh (qg _))
def xg(ta:TA):TI:=fun Z H R=>ta Z H fun vs H1=>∃j:Int,vs=[.int j]/\ -(2^62)<=j/\j<2^62/\R (Itr 0 j.toNat) H1
theorem O2{a:Expr}{ta:TA}{p:Pos}(hg:Gl X "range")(hm:X.mg "range"=none)(ha:PA X [a] ta)(hs:‹starEach [a] X.env=[(false,eval a X.env)]›):PI X tg (.Call (.Name "range" p) [a] [] pos) (xg ta):=by
 intro pins s Z H R I h;refine Call_ (Hm I hg hm boot_range (ki (thn (ha (pos:=pos) pins s Z H _ I h) fun us s1 hZ=>?_) hs rfl));obtain⟨vs,H1,I1,r1,q1⟩:=hZ;obtain⟨j,e,q1,q2,q⟩:=q1;subst e;cases r1 with
 | cons r rr=>
  cases rr;obtain⟨t,rfl⟩:=r;exact call_range_1 (oH I1 ⋯ ⋯ q1 q2 (by simpa using q))
def ABj(wi:TI)(g:TG)(tb:TS):TS:=fun D Z H=>wi Z H fun J H1=>∃W:Nat->Nat->St->Hp->Prop,(∃m,W 0 m Z H1)/\∀i m Z H,W i m Z H->
 (J.stop i H/\D.nx Z H)\/(J.go i H/\∃N:St->Hp->Prop,(∀Z' H',N Z' H'->∃m',m'<m/\W (i+1) m' Z' H')/\∀x H',J.yld i H x H'->g x Z H' fun σ2 H2=>tb { D with nx:=N,ct:=N,bk:=D.nx } σ2 H2)
noncomputable def Su(fp:List Addr)(h:Heap):List (Addr×Obj):=fp.filterMap fun b=>(h.get? b).map fun o=>(b,o)
theorem Gq{fp:List Addr}{h:Heap}{b:Addr}{o:Obj}(hb:b∈fp)(e:h.get? b=some o):(b,o)∈Su fp h:=jr1.mpr ⟨b,hb,by rw[e];rfl⟩
theorem jC{fp:List Addr}{h:Heap}{p:Addr×Obj}(hp:p∈Su fp h):p.1∈fp/\h.get? p.1=some p.2:=by
 obtain⟨b,hb,e⟩:=jr1.mp hp;cases q:h.get? b with
 | none=>rw[q] at e;cases e
 | some o=>
  rw[q] at e;have e':(b,o)=p:=ua e;subst e';exact⟨hb,q⟩
theorem Inv.pinned{s:Shared}{fp:List Addr}(I:Inv X pins Z H s)(hf:∀b∈fp,Jm X pins H b)(ho:∀b∈fp,∃o,s.heap.get? b=some o/\∀v,o.data≠.cell v):Inv X (pins++Su fp s.heap) Z H s:=
 I.pins_of fun p hp=>(vk.mp hp).elim (fun z=>I.pin p (yv _ z)) fun z=>by
  obtain⟨hb,e⟩:=jC z;obtain⟨f0,f1,f2,_⟩:=hf p.1 hb;obtain⟨o,e',d⟩:=ho p.1 hb;rw[e] at e';cases e';exact⟨e,f0,f1,f2,d⟩
theorem Inv.unpinned{pl:List (Addr×Obj)}{s:Shared}(I:Inv X (pins++pl) Z H s):Inv X pins Z H s:=I.pins_of fun p hp=>I.pin p (yv _ (jg4 _ hp))
theorem Ge{iter:Expr}{body:List Stmt}{wi:TI}{g:TG}{tb:TS}(hp:PassesOwn (model X.prog X.w) X.A X.env X.xe)(hc:X.calm=true)(hi:PI X tg iter wi)(hg:PG X tg g)(hb:PSs X body tb)
 (hs:∀x,foldedSetIterable iter X.env x=pure x:=by intro _;rfl):PS X (.For tg iter body [] pos) (ABj wi g tb):=by
 intro pins s Z H D I h;refine wpAny_For (thn (hi s Z H _ I h) fun v s1 h1=>thn h1 fun itv s2 h2=>?_) hs;obtain⟨it,fp,tn,J,H2,e,I2,T,st2,f2,W,⟨m0,w0⟩,turn⟩:=h2;subst e;have stat:∀{H':Hp},(∀b∈fp,H' b=none)->∀b∈fp,Jm X pins H' b:=fun hn b hb=>⟨hn b hb,(f2 b hb).2⟩;refine codeAny_forLoop_any (fun n s'=>∃i Z' H',Inv X pins Z' H' s'/\tn i s'.heap/\(∀b∈fp,H' b=none)/\W i n Z' H') ?_ m0 ⟨0,Z,H2,I2,st2,fun b hb=>(f2 b hb).1,w0⟩;rintro n s3 ⟨i,σ3,H3,I3,st3,fr3,w3⟩;rcases turn i n σ3 H3 w3 with ⟨stop,qn⟩ | ⟨go,N,hN,step⟩
 ·refine jg8 hp (thn (T.done X rfl rfl rfl hc i pins s3 σ3 H3 X.xe I3 (stat fr3) st3 stop) fun r s4 ⟨hr,I4⟩=>?_);subst hr;exact jm2 ⟨σ3,H3,I4,qn⟩
 ·refine jg8 hp (thn (T.item X rfl rfl rfl hc i pins s3 σ3 H3 X.xe I3 (stat fr3) st3 go) fun r s4 ⟨u,hr,h4⟩=>?_);subst hr;refine jg8 hp (thn h4 fun _ s5 hZ=>?_);obtain⟨x,H5,I5,r5,y5,st5,fr5⟩:=hZ;have I5':=I5.pinned (stat fr5) (T.obj _ _ st5);refine jg8 hp (thn (hg s5 σ3 H5 x u _ I5' r5 (step x H5 y5)) fun _ s6 hZ=>?_);obtain⟨σ6,H6,I6,q6⟩:=hZ;refine jg8 hp (thn (hb s6 σ6 H6 _ I6 q6) fun f s7 q7=>?_);have again:∀{σ7:St} {H7:Hp},Inv X (pins++Su fp s5.heap) σ7 H7 s7->N σ7 H7->∃m,m<n/\∃i Z' H',Inv X pins Z' H' s7/\tn i s7.heap/\(∀b∈fp,H' b=none)/\W i m Z' H':=fun{σ7 H7} I7 n7=>by
   obtain⟨m',hm,w7⟩:=hN σ7 H7 n7;refine⟨m',hm,i+1,σ7,H7,I7.unpinned,T.keep _ _ _ st5 fun b hb o e=>(I7.pin (b,o) (yv _ (yv _ (Gq hb e)))).1,fun b hb=>?_,w7⟩;obtain⟨o,e,d⟩:=T.obj _ _ st5 b hb;exact(I7.pin (b,o) (yv _ (yv _ (Gq hb e)))).2.1
  cases f with
  | next=>obtain⟨σ7,H7,I7,n7⟩:=q7;exact again I7 n7
  | cont=>obtain⟨σ7,H7,I7,n7⟩:=q7;exact again I7 n7
  | brk=>obtain⟨σ7,H7,I7,q7⟩:=q7;exact⟨σ7,H7,I7.unpinned,q7⟩
  | ret v=>obtain⟨x7,σ7,H7,I7,r7,q7⟩:=q7;exact⟨x7,σ7,H7,I7.unpinned,r7,q7⟩
end
theorem JC{xs:List V}{g:TG}{tb:TS}{D:Ends}(Pv:Nat->St->Hp->Prop)(h0:Pv 0 Z H)(hl:∀i Z H,i<=xs.length->Pv i Z H->SqL K H a xs)
 (hs:∀i x Z H,xs[i]?=some x->Pv i Z H->g x Z H fun σ2 H2=>tb { D with nx:=Pv (i+1),ct:=Pv (i+1),bk:=D.nx } σ2 H2)(hd:∀Z H,Pv xs.length Z H->D.nx Z H):
 ∃W:Nat->Nat->St->Hp->Prop,(∃m,W 0 m Z H)/\∀i m Z H,W i m Z H->
  ((Itl K a).stop i H/\D.nx Z H)\/((Itl K a).go i H/\∃N:St->Hp->Prop,(∀Z' H',N Z' H'->∃m',m'<m/\W (i+1) m' Z' H')/\∀x H',(Itl K a).yld i H x H'->g x Z H' fun σ2 H2=>tb { D with nx:=N,ct:=N,bk:=D.nx } σ2 H2):=by
 refine⟨fun i m Z H=>m=xs.length-i/\i<=xs.length/\Pv i Z H,⟨xs.length,by simp,vt _,h0⟩,?_⟩;rintro i m Z H ⟨rfl,hi,p⟩;have q:=hl i Z H hi p;by_cases hlt:i<xs.length
 ·refine .inr ⟨⟨xs,xs[i],q,by simp[hlt]⟩,Pv (i+1),fun Z' H' p'=>⟨xs.length-(i+1),⋯,rfl,hlt,p'⟩,fun x H' y=>?_⟩;obtain⟨e,y⟩:=y;subst e;exact hs i x Z _ (y xs q) p
 ·have e:i=xs.length:=⋯
  subst e;exact .inl ⟨⟨xs,q,qg _⟩,hd Z H p⟩
theorem fY{xs:List V}{g:TG}{tb:TS}{D:Ends}(Pv:Nat->St->Hp->Prop)(h0:Pv 0 Z H)(hl:∀i Z H,i<=xs.length->Pv i Z H->SqT K H a xs)
 (hs:∀i x Z H,xs[i]?=some x->Pv i Z H->g x Z H fun σ2 H2=>tb { D with nx:=Pv (i+1),ct:=Pv (i+1),bk:=D.nx } σ2 H2)(hd:∀Z H,Pv xs.length Z H->D.nx Z H):
 ∃W:Nat->Nat->St->Hp->Prop,(∃m,W 0 m Z H)/\∀i m Z H,W i m Z H->
  ((Itt K a).stop i H/\D.nx Z H)\/((Itt K a).go i H/\∃N:St->Hp->Prop,(∀Z' H',N Z' H'->∃m',m'<m/\W (i+1) m' Z' H')/\∀x H',(Itt K a).yld i H x H'->g x Z H' fun σ2 H2=>tb { D with nx:=N,ct:=N,bk:=D.nx } σ2 H2):=by
 refine⟨fun i m Z H=>m=xs.length-i/\i<=xs.length/\Pv i Z H,⟨xs.length,by simp,vt _,h0⟩,?_⟩;rintro i m Z H ⟨rfl,hi,p⟩;have q:=hl i Z H hi p;by_cases hlt:i<xs.length
 ·refine .inr ⟨⟨xs,xs[i],q,by simp[hlt]⟩,Pv (i+1),fun Z' H' p'=>⟨xs.length-(i+1),⋯,rfl,hlt,p'⟩,fun x H' y=>?_⟩;obtain⟨e,y⟩:=y;subst e;exact hs i x Z _ (y xs q) p
 ·have e:i=xs.length:=⋯
  subst e;exact .inl ⟨⟨xs,q,qg _⟩,hd Z H p⟩
theorem WL{lo:Int}{n:Nat}{g:TG}{tb:TS}{D:Ends}(Pv:Nat->St->Hp->Prop)(h0:Pv 0 Z H)
 (hs:∀i Z H,i<n->Pv i Z H->g (.int (lo+i)) Z H fun σ2 H2=>tb { D with nx:=Pv (i+1),ct:=Pv (i+1),bk:=D.nx } σ2 H2)(hd:∀Z H,Pv n Z H->D.nx Z H):
 ∃W:Nat->Nat->St->Hp->Prop,(∃m,W 0 m Z H)/\∀i m Z H,W i m Z H->
  ((Itr lo n).stop i H/\D.nx Z H)\/((Itr lo n).go i H/\∃N:St->Hp->Prop,(∀Z' H',N Z' H'->∃m',m'<m/\W (i+1) m' Z' H')/\∀x H',(Itr lo n).yld i H x H'->g x Z H' fun σ2 H2=>tb { D with nx:=N,ct:=N,bk:=D.nx } σ2 H2):=by
 refine⟨fun i m Z H=>m=n-i/\i<=n/\Pv i Z H,⟨n,by simp,vt _,h0⟩,?_⟩;rintro i m Z H ⟨rfl,hi,p⟩;by_cases hlt:i<n
 ·refine .inr ⟨hlt,Pv (i+1),fun Z' H' p'=>⟨n-(i+1),⋯,rfl,hlt,p'⟩,fun x H' y=>?_⟩;obtain⟨e,y⟩:=y;subst e y;exact hs i Z _ hlt p
 ·have e:i=n:=⋯
  subst e;exact .inl ⟨qg _,hd Z H p⟩
noncomputable abbrev R2:=V->V->Hp->VK->Prop
def OpR(X:Cx)(f:Value->Value->Sem Value)(r:R2):Prop:=
 ∀(pins:List (Addr×Obj)) (s:Shared) (Z:St) (H:Hp) (x y:V) (v u:Value) (Q:VK),Inv X pins Z H s->RelV x v->RelV y u->r x y H Q->
  wpAny (model X.prog X.w) X.A (f v u) (EP X pins Z Q) X.xe s
def UnR(X:Cx)(f:Value->Sem Value)(r:V->Hp->VK->Prop):Prop:=
 ∀(pins:List (Addr×Obj)) (s:Shared) (Z:St) (H:Hp) (x:V) (v:Value) (Q:VK),Inv X pins Z H s->RelV x v->r x H Q->
  wpAny (model X.prog X.w) X.A (f v) (EP X pins Z Q) X.xe s
def HS(X:Cx)(f:Value)(r:List V->Hp->VK->Prop):Prop:=
 ∀(pins:List (Addr×Obj)) (s:Shared) (Z:St) (H:Hp) (xs:List V) (us:List Value) (Q:VK),Inv X pins Z H s->Vals xs us->r xs H Q->
  wpAny (model X.prog X.w) X.A (call f us) (EP X pins Z Q) X.xe s
def ADu(X:Cx)(r:V->Hp->(Bool->Hp->Prop)->Prop):Prop:=
 ∀(pins:List (Addr×Obj)) (s:Shared) (Z:St) (H:Hp) (x:V) (v:Value) (Q:Bool->Hp->Prop),Inv X pins Z H s->RelV x v->r x H Q->
  wpAny (model X.prog X.w) X.A (truthy v) (TP X pins Z Q) X.xe s
def tOp(r:R2)(ta tb:TE):TE:=fun Z H Q=>ta Z H fun x H1=>tb Z H1 fun y H2=>r x y H2 Q
def tUn(r:V->Hp->VK->Prop)(ta:TE):TE:=fun Z H Q=>ta Z H fun x H1=>r x H1 Q
def rI(C:Int->Int->Prop)(g:Int->Int->V):R2:=fun x y H Q=>∃i j,x=.int i/\y=.int j/\C i j/\Q (g i j) H
def rI0(g:Int->Int->V):R2:=fun x y H Q=>∃i j,x=.int i/\y=.int j/\Q (g i j) H
def rU(g:Int->V):V->Hp->VK->Prop:=fun x H Q=>∃i,x=.int i/\Q (g i) H
section
variable{X:Cx}{a b c:Expr}{ta tb tc:TE}{pos:Pos}
theorem ABH(ha:PE X a ta)(hb:PE X b tb){pins:List (Addr×Obj)}{s:Shared}{Z:St}{H:Hp}{R:V->V->Hp->Prop}(I:Inv X pins Z H s)
 (h:ta Z H fun x H1=>tb Z H1 fun y H2=>R x y H2){Q:Value->Shared->Prop}{f:Value->Value->Sem Value}
 (hf:∀v u s2 x y H2,Inv X pins Z H2 s2->RelV x v->RelV y u->R x y H2->wpAny (model X.prog X.w) X.A (f v u) Q X.xe s2):
 wpAny (model X.prog X.w) X.A (eval a X.env) (fun v s₁=>wpAny (model X.prog X.w) X.A (eval b X.env) (fun u s₂=>wpAny (model X.prog X.w) X.A (f v u) Q X.xe s₂) X.xe s₁) X.xe s:=by
 refine thn (ha s Z H _ I h) fun v s1 hZ=>?_;obtain⟨x,H1,I1,r1,q1⟩:=hZ;refine thn (hb s1 Z H1 _ I1 q1) fun u s2 hZ=>?_;obtain⟨y,H2,I2,r2,q2⟩:=hZ;exact hf v u s2 x y H2 I2 r1 r2 q2
theorem Ag{op:Operator}{r:R2}(ho:OpR X (binaryOp op) r)(ha:PE X a ta)(hb:PE X b tb):PE X (.BinOp a op b pos) (tOp r ta tb):=by
 intro pins s Z H Q I h;exact wpAny_BinOp (ABH ha hb I h fun v u s2 x y H2 I2 rx ry q=>ho pins s2 Z H2 x y v u Q I2 rx ry q)
theorem HQ{op:UnaryOp}{r:V->Hp->VK->Prop}(ho:UnR X (unaryOp op) r)(ha:PE X a ta):PE X (.UnaryOp op a pos) (tUn r ta):=by
 intro pins s Z H Q I h;exact UnaryOp_ (thn (ha s Z H _ I h) fun v s1 ⟨x,H1,I1,r1,q1⟩=>ho pins s1 Z H1 x v Q I1 r1 q1)
theorem opI{f:Value->Value->Sem Value}{C:Int->Int->Prop}{g:Int->Int->Int}
 (rule:∀(i j:Int) (t u:Tok) (s:Shared) (Q:Value->Shared->Prop) (E:Value->Shared->Prop),C i j->Q (.int (g i j) s.toks) { s with toks:=s.toks+1 }->wpAny (model X.prog X.w) X.A (f (.int i t) (.int j u)) Q E s):
 OpR X f (rI C fun i j=>.int (g i j)):=by
 intro pins s Z H x y v u Q I rx ry h;obtain⟨i,j,rfl,rfl,hc,q⟩:=h;obtain⟨t,rfl⟩:=rx;obtain⟨t',rfl⟩:=ry;exact rule i j t t' s _ _ hc ⟨.int (g i j),H,I.tok _,⟨_,rfl⟩,q⟩
theorem pF{f:Value->Value->Sem Value}{g:Int->Int->Int}
 (rule:∀(i j:Int) (t u:Tok) (s:Shared) (Q:Value->Shared->Prop) (E:Value->Shared->Prop),Q (.int (g i j) s.toks) { s with toks:=s.toks+1 }->wpAny (model X.prog X.w) X.A (f (.int i t) (.int j u)) Q E s):
 OpR X f (rI0 fun i j=>.int (g i j)):=by
 intro pins s Z H x y v u Q I rx ry h;obtain⟨i,j,rfl,rfl,q⟩:=h;obtain⟨t,rfl⟩:=rx;obtain⟨t',rfl⟩:=ry;exact rule i j t t' s _ _ ⟨.int (g i j),H,I.tok _,⟨_,rfl⟩,q⟩
theorem u6{f:Value->Value->Sem Value}{g:Int->Int->Bool}
 (rule:∀(i j:Int) (t u:Tok) (s:Shared) (Q:Value->Shared->Prop) (E:Value->Shared->Prop),Q (.bool (g i j)) s->wpAny (model X.prog X.w) X.A (f (.int i t) (.int j u)) Q E s):
 OpR X f (rI0 fun i j=>.bl (g i j)):=by
 intro pins s Z H x y v u Q I rx ry h;obtain⟨i,j,rfl,rfl,q⟩:=h;obtain⟨t,rfl⟩:=rx;obtain⟨t',rfl⟩:=ry;exact rule i j t t' s _ _ ⟨.bl (g i j),H,I,rfl,q⟩
def ADJ(i j:Int):Prop:=0<=j/\j<=1000000/\i.natAbs<2^64
theorem aP(k:Nat):(0:Int)<=2^k:=by
 rw[two_pow_cast];exact jl6 _
theorem Bl:OpR X (binaryOp .Add) (rI0 fun i j=>.int (i+j)):=pF fun _ _ _ _ _ _ _ q=>add_int q
theorem Cy:OpR X (binaryOp .Sub) (rI0 fun i j=>.int (i-j)):=pF fun _ _ _ _ _ _ _ q=>sub_int q
theorem Bv:OpR X (binaryOp .Mod) (rI (fun _ j=>0<j) fun i j=>.int (i%j)):=opI fun i j _ _ _ _ _ hc q=>by
 have h1:(0:Int)<j:=hc;exact mod_int' ⋯ (by rw[Int.fmod_eq_emod_of_nonneg i ⋯];exact q)
theorem JT:OpR X (binaryOp .Pow) (rI ADJ fun i j=>.int (i^j.toNat)):=opI fun _ _ _ _ _ _ _ hc q=>pow_int_small hc.1 hc.2.1 hc.2.2 q
theorem J8:OpR X (binaryOp .RShift) (rI (fun _ j=>0<=j) fun i j=>.int (i/2^j.toNat)):=opI fun i j _ _ _ _ _ hc q=>
 rshift_int hc (by rw[jq6 i (aP _)];exact q)
theorem Gn:OpR X (binaryOp .BitAnd) (rI0 fun i j=>.int (Builtin.bitAnd i j)):=pF fun _ _ _ _ _ _ _ q=>and_int q
theorem Zb:OpR X (binaryOp .BitOr) (rI0 fun i j=>.int (Builtin.bitOr i j)):=pF fun _ _ _ _ _ _ _ q=>or_int q
theorem pC:OpR X (binaryOp .BitXor) (rI0 fun i j=>.int (Builtin.bitXor i j)):=pF fun _ _ _ _ _ _ _ q=>xor_int q
theorem unI{f:Value->Sem Value}{g:Int->Int}
 (rule:∀(i:Int) (t:Tok) (s:Shared) (Q:Value->Shared->Prop) (E:Value->Shared->Prop),Q (.int (g i) s.toks) { s with toks:=s.toks+1 }->wpAny (model X.prog X.w) X.A (f (.int i t)) Q E s):
 UnR X f (rU fun i=>.int (g i)):=by
 intro pins s Z H x v Q I rx h;obtain⟨i,rfl,q⟩:=h;obtain⟨t,rfl⟩:=rx;exact rule i t s _ _ ⟨.int (g i),H,I.tok _,⟨_,rfl⟩,q⟩
theorem Ff:UnR X (unaryOp .USub) (rU fun i=>.int (-i)):=unI fun _ _ _ _ _ q=>neg_int q
end
noncomputable def uH:V->V->Bool
 | .non,.non=>true | .non,.int _=>true | .int _,.non=>true | .non,.bl _=>true | .bl _,.non=>true | .non,.str _=>true | .str _,.non=>true
 | .int _,.int _=>true | .bl _,.bl _=>true | .str _,.str _=>true | .byt _,.byt _=>true
 | .int _,.str _=>true | .str _,.int _=>true | .bl _,.str _=>true | .str _,.bl _=>true
 | _,_=>false
def rEq:R2:=fun x y H Q=>uH x y=true/\Q (.bl (decide (x=y))) H
def rNe:R2:=fun x y H Q=>uH x y=true/\Q (.bl (!decide (x=y))) H
theorem gB{i j:Int}:decide (V.int i=V.int j)=(i==j):=by
 rw[kr];simp
theorem qj{i j:Bool}:decide (V.bl i=V.bl j)=(i==j):=by
 rw[kr];simp
theorem gA{i j:Str}:decide (V.str i=V.str j)=(i==j):=by
 rw[kr];simp
theorem gC{i j:Array UInt8}:decide (V.byt i=V.byt j)=(i.toList==j.toList):=by
 rw[kr];cases i;cases j;simp
section
variable{X:Cx}{a b c:Expr}{ta tb tc:TE}{pos:Pos}
theorem CT{s:Shared}{Q:VK}{k k':Bool}(I:Inv X pins Z H s)(q:Q (.bl k) H)(e:k=k'):EP X pins Z Q (.bool k') s:=by
 subst e;exact⟨.bl k,H,I,rfl,q⟩
theorem Bh:OpR X (compareOp .Eq) rEq:=by
 intro pins s Z H x y v u Q I rx ry h;obtain⟨hs,q⟩:=h;cases x with
 | non=>
  cases rx;cases y with
  | non=>cases ry;exact PySem.EqNone.eq_none_none (CT I q (by simp))
  | bl j=>cases ry;exact PySem.EqNone.eq_none_bool (CT I q (by simp))
  | int j=>obtain⟨t',rfl⟩:=ry;exact PySem.EqNone.eq_none_int (CT I q (by simp))
  | str j=>obtain⟨t',rfl⟩:=ry;exact PySem.EqNone.eq_none_str (CT I q (by simp))
  | _=>exact absurd (show false=true from hs) zk
 | bl i=>
  cases rx;cases y with
  | non=>cases ry;exact PySem.EqNone.eq_bool_none (CT I q (by simp))
  | bl j=>cases ry;exact eq_bool (CT I q qj)
  | str j=>obtain⟨t',rfl⟩:=ry;exact PySem.EqMixed.eq_bool_str (CT I q (by simp))
  | _=>exact absurd (show false=true from hs) zk
 | int i=>
  obtain⟨t,rfl⟩:=rx;cases y with
  | non=>cases ry;exact PySem.EqNone.eq_int_none (CT I q (by simp))
  | int j=>obtain⟨t',rfl⟩:=ry;exact eq_int (CT I q gB)
  | str j=>obtain⟨t',rfl⟩:=ry;exact PySem.EqMixed.eq_int_str (CT I q (by simp))
  | _=>exact absurd (show false=true from hs) zk
 | str i=>
  obtain⟨t,rfl⟩:=rx;cases y with
  | non=>cases ry;exact PySem.EqNone.eq_str_none (CT I q (by simp))
  | bl j=>cases ry;exact PySem.EqMixed.eq_str_bool (CT I q (by simp))
  | int j=>obtain⟨t',rfl⟩:=ry;exact PySem.EqMixed.eq_str_int (CT I q (by simp))
  | str j=>obtain⟨t',rfl⟩:=ry;exact eq_str (CT I q gA)
  | _=>exact absurd (show false=true from hs) zk
 | byt i=>
  obtain⟨t,rfl⟩:=rx;cases y with
  | byt j=>obtain⟨t',rfl⟩:=ry;exact PySem.W.eq_bytes (CT I q gC)
  | _=>exact absurd (show false=true from hs) zk
 | _=>cases y<;>exact absurd (show false=true from hs) zk
theorem FQ:OpR X (compareOp .NotEq) rNe:=by
 intro pins s Z H x y v u Q I rx ry h;obtain⟨hs,q⟩:=h;cases x with
 | non=>
  cases rx;cases y with
  | non=>cases ry;exact PySem.EqNone.ne_none_none (CT I q (by simp))
  | bl j=>cases ry;exact PySem.EqNone.ne_none_bool (CT I q (by simp))
  | int j=>obtain⟨t',rfl⟩:=ry;exact PySem.EqNone.ne_none_int (CT I q (by simp))
  | str j=>obtain⟨t',rfl⟩:=ry;exact PySem.EqNone.ne_none_str (CT I q (by simp))
  | _=>exact absurd (show false=true from hs) zk
 | bl i=>
  cases rx;cases y with
  | non=>cases ry;exact PySem.EqNone.ne_bool_none (CT I q (by simp))
  | bl j=>cases ry;exact ne_bool (CT I q (xy not qj))
  | str j=>obtain⟨t',rfl⟩:=ry;exact PySem.EqMixed.ne_bool_str (CT I q (by simp))
  | _=>exact absurd (show false=true from hs) zk
 | int i=>
  obtain⟨t,rfl⟩:=rx;cases y with
  | non=>cases ry;exact PySem.EqNone.ne_int_none (CT I q (by simp))
  | int j=>obtain⟨t',rfl⟩:=ry;exact ne_int (CT I q (xy not gB))
  | str j=>obtain⟨t',rfl⟩:=ry;exact PySem.EqMixed.ne_int_str (CT I q (by simp))
  | _=>exact absurd (show false=true from hs) zk
 | str i=>
  obtain⟨t,rfl⟩:=rx;cases y with
  | non=>cases ry;exact PySem.EqNone.ne_str_none (CT I q (by simp))
  | bl j=>cases ry;exact PySem.EqMixed.ne_str_bool (CT I q (by simp))
  | int j=>obtain⟨t',rfl⟩:=ry;exact PySem.EqMixed.ne_str_int (CT I q (by simp))
  | str j=>obtain⟨t',rfl⟩:=ry;exact ne_str (CT I q (xy not gA))
  | _=>exact absurd (show false=true from hs) zk
 | byt i=>
  obtain⟨t,rfl⟩:=rx;cases y with
  | byt j=>obtain⟨t',rfl⟩:=ry;exact PySem.W.ne_bytes (CT I q (xy not gC))
  | _=>exact absurd (show false=true from hs) zk
 | _=>cases y<;>exact absurd (show false=true from hs) zk
theorem Fp:OpR X (compareOp .Lt) (rI0 fun i j=>.bl (decide (i<j))):=u6 fun _ _ _ _ _ _ _ q=>lt_int q
theorem Jo:OpR X (compareOp .LtE) (rI0 fun i j=>.bl (decide (i<=j))):=u6 fun _ _ _ _ _ _ _ q=>le_int q
theorem Ew:OpR X (compareOp .Gt) (rI0 fun i j=>.bl (decide (j<i))):=u6 fun _ _ _ _ _ _ _ q=>gt_int q
theorem xT:OpR X (compareOp .GtE) (rI0 fun i j=>.bl (decide (j<=i))):=u6 fun _ _ _ _ _ _ _ q=>ge_int q
theorem V3:OpR X (compareOp .In) (fun x y H Q=>∃i j,x=.str i/\y=.str j/\Q (.bl (!(Builtin.Str.occurrences j i 0 j.length 1).isEmpty)) H):=by
 intro pins s Z H x y v u Q I rx ry h;obtain⟨i,j,rfl,rfl,q⟩:=h;obtain⟨t,rfl⟩:=rx;obtain⟨t',rfl⟩:=ry;exact in_str (CT I q rfl)
theorem J9:OpR X (compareOp .Is) (fun x y H Q=>y=.non/\Q (.bl (decide (x=.non))) H):=by
 intro pins s Z H x y v u Q I rx ry h;obtain⟨rfl,q⟩:=h;cases ry;refine is_none_gen (CT I q ?_);cases x<;>first
  | (cases rx;rfl)
  | (obtain ⟨t,rfl⟩:=rx;rfl)
theorem fB:OpR X (compareOp .IsNot) (fun x y H Q=>y=.non/\Q (.bl (!decide (x=.non))) H):=by
 intro pins s Z H x y v u Q I rx ry h;obtain⟨rfl,q⟩:=h;cases ry;refine isnot_none_gen (CT I q ?_);cases x<;>first
  | (cases rx;rfl)
  | (obtain ⟨t,rfl⟩:=rx;rfl)
theorem Al(b:Expr){op:CmpOp}(h:op≠.In:=by decide)(h2:op≠.NotIn:=by decide):behindInMarks op b=false:=by
 have e1:(op==CmpOp.In)=false:=by cases op<;>first | rfl | exact absurd rfl h
 have e2:(op==CmpOp.NotIn)=false:=by cases op<;>first | rfl | exact absurd rfl h2
 cases b<;>simp[behindInMarks,e1,e2]
theorem HY{op:CmpOp}{r:R2}(ho:OpR X (compareOp op) r)(ha:PE X a ta)(hb:PE X b tb)(hm:behindInMarks op b=false):PE X (.Compare a [op] [b] pos) (tOp r ta tb):=by
 intro pins s Z H Q I h;exact wpAny_Compare1 (ABH ha hb I h fun v u s2 x y H2 I2 rx ry q=>ho pins s2 Z H2 x y v u Q I2 rx ry q) hm
def lU(t:TE):TT:=fun Z H Q=>t Z H fun x H'=>∃k,x=.bl k/\Q k H'
theorem Aj{op:CmpOp}{r:R2}(ho:OpR X (compareOp op) r)(ha:PE X a ta)(hb:PE X b tb)(hm:behindInMarks op b=false):PT X (.Compare a [op] [b] pos) (lU (tOp r ta tb)):=by
 intro pins s Z H Q I h;refine jo4 (thn (ha s Z H _ I h) fun v s1 ⟨x,H1,I1,r1,q1⟩=>thn (hb s1 Z H1 _ I1 q1) fun u s2 ⟨y,H2,I2,r2,q2⟩=>
  thn (ho pins s2 Z H2 x y v u _ I2 r1 r2 q2) fun c s3 ⟨z,H3,I3,r3,k,e,q3⟩=>?_) hm
 subst e;cases r3;exact jc1 ⟨H3,I3,q3⟩
def lr(r r':R2)(ta tb tc:TE):TE:=fun Z H Q=>ta Z H fun x H1=>tb Z H1 fun y H2=>r x y H2 fun z H3=>∃k,z=.bl k/\
 (if k=true then tc Z H3 fun w' H4=>r' y w' H4 Q else Q (.bl false) H3)
theorem M7{op op':CmpOp}{r r':R2}(ho:OpR X (compareOp op) r)(ho':OpR X (compareOp op') r')(ha:PE X a ta)(hb:PE X b tb)(hc:PE X c tc)
 (hm:lastMarks [op,op'] [b,c]=false:=by with_unfolding_all rfl):PE X (.Compare a [op,op'] [b,c] pos) (lr r r' ta tb tc):=by
 intro pins s Z H Q I h;refine Compare_chain (thn (ha s Z H _ I h) fun v s1 ⟨x,H1,I1,r1,q1⟩=>chain_link (thn (hb s1 Z H1 _ I1 q1) fun u s2 ⟨y,H2,I2,r2,q2⟩=>
  thn (ho pins s2 Z H2 x y v u _ I2 r1 r2 q2) fun d s3 ⟨z,H3,I3,r3,k,e,q3⟩=>?_)) hm
 subst e;cases r3;refine jc1 ?_;cases k with
 | false=>exact ite_ff ⟨.bl false,H3,I3,rfl,q3⟩
 | true=>exact ite_tt (chain_last (thn (hc s3 Z H3 _ I3 q3) fun w' s4 ⟨z',H4,I4,r4,q4⟩=>ho' pins s4 Z H4 y z' u w' Q I4 r2 r4 q4))
def ADt(K:Fr)(x:V)(H:Hp)(k:Bool):Prop:=
 match x with
 | .non=>k=false
 | .bl b=>k=b
 | .int i=>k=(i != 0)
 | .str y=>y.length<=sizeLine/\k=((y.length:Int) != 0)
 | .byt y=>y.size<=sizeLine/\k=((y.size:Int) != 0)
 | .ref p=>(∃xs,SqL K H p xs/\k=!xs.isEmpty)\/(∃xs,SqT K H p xs/\k=!xs.isEmpty)\/∃kvs,H p=some (.dK kvs)/\k=!kvs.isEmpty
 | _=>False
theorem cJ{κ:Type}{kvs:List (κ×V)}{vs:List (κ×Value)}(r:KV kvs vs):(!vs.isEmpty)=!kvs.isEmpty:=by
 cases r<;>rfl
theorem Tc{xs:List V}{its:List Value}(r:Vals xs its):(!its.toArray.isEmpty)=!xs.isEmpty:=by
 cases r<;>simp
theorem MP:(sizeLine:Nat)<2^63:=by rw[sizeLine_eq];decide
theorem yL:ADu X (fun x H Q=>∃k,ADt X.K x H k/\Q k H):=by
 intro pins s Z H x v Q I rx h;obtain⟨k,e,q⟩:=h;have hl:=MP;have hs:sizeLine=16777216:=sizeLine_eq;cases x with
 | non=>
  cases rx;have e':k=false:=e;subst e';exact truthy_none ⟨H,I,q⟩
 | bl b=>
  cases rx;have e':k=b:=e;subst e';exact jc1 ⟨H,I,q⟩
 | int i=>
  obtain⟨t,rfl⟩:=rx;have e':k=(i != 0):=e;subst e';exact PySem.P.truthy_int ⟨H,I,q⟩
 | str y=>
  obtain⟨t,rfl⟩:=rx;obtain⟨hy,e'⟩:y.length<=sizeLine/\k=((y.length:Int) != 0):=e;subst e';exact PySem.P.truthy_str ⋯ ⟨H,I.tok _,q⟩
 | byt y=>
  obtain⟨t,rfl⟩:=rx;obtain⟨hy,e'⟩:y.size<=sizeLine/\k=((y.size:Int) != 0):=e;subst e';exact PySem.W.truthy_bytes ⋯ ⟨H,I.tok _,q⟩
 | ref p=>
  cases rx;have e':(∃xs,SqL X.K H p xs/\k=!xs.isEmpty)\/(∃xs,SqT X.K H p xs/\k=!xs.isEmpty)\/∃kvs,H p=some (.dK kvs)/\k=!kvs.isEmpty:=e;rcases e' with ⟨xs,hx,e'⟩ | ⟨xs,hx,e'⟩ | ⟨kvs,hx,e'⟩
  ·subst e';obtain⟨its,r,pl,hz⟩:=I.list hx;have hlen:=r.length;exact wpAny_truthy_list pl.isList (by simp only[xc];lia) ⟨H,I.tok _,by rw[Tc r];exact q⟩
  ·subst e';obtain⟨its,r,pl,hz⟩:=I.tuple hx;have hlen:=r.length;exact truthy_tuple pl (by simp only[xc];lia) ⟨H,I.tok _,by rw[Tc r];exact q⟩
  ·subst e';obtain⟨hz,hS,vs,r,m⟩:kvs.length<=sizeLine/\(p==sysModules)=false/\∃vs,KV kvs vs/\s.heap.DictOf (Eh X.prog X.w) p vs:=I.hok p _ hx;have hlen:kvs.length=vs.length:=Paired.length r;exact wpAny_truthy_dict hS m ⋯ ⟨H,I.tok _,by rw[cJ r];exact q⟩
 | _=>exact(show False from e).elim
theorem Ar:OpR X (binaryOp .Add) (fun x y H Q=>∃i j,x=.str i/\y=.str j/\i.length+j.length<=sizeLine/\Q (.str (i++j)) H):=by
 intro pins s Z H x y v u Q I rx ry h;obtain⟨i,j,rfl,rfl,hz,q⟩:=h;obtain⟨t,rfl⟩:=rx;obtain⟨t',rfl⟩:=ry;exact add_str (fun t' tk=>⟨.str (i++j),H,I.tok _,⟨_,rfl⟩,q⟩) hz
theorem vals1{x:V}(r:Vals [x] us):∃u,us=[u]/\RelV x u:=by
 cases r with
 | cons r1 r2=>cases r2;exact⟨_,rfl,r1⟩
theorem vals2{x y:V}(r:Vals [x,y] us):∃u w',us=[u,w']/\RelV x u/\RelV y w':=by
 cases r with
 | cons r1 r2=>
  cases r2 with
  | cons r3 r4=>cases r4;exact⟨_,_,rfl,r1,r3⟩
theorem Zt:HS X (.builtin "abs") (fun xs H Q=>∃i,xs=[.int i]/\Q (.int (if i<0 then -i else i)) H):=by
 intro pins s Z H xs us Q I r h;obtain⟨i,rfl,q⟩:=h;obtain⟨u,rfl,t,rfl⟩:=vals1 r;exact call_abs_int fun u tk=>⟨.int (if i<0 then -i else i),H,I.tok _,⟨_,rfl⟩,q⟩
theorem j4(hc:X.calm=true):HS X (.builtin "min") (fun xs H Q=>∃i j,xs=[.int i,.int j]/\Q (.int (if j<i then j else i)) H):=by
 intro pins s Z H xs us Q I r h;obtain⟨i,j,rfl,q⟩:=h;obtain⟨u,w',rfl,⟨t,rfl⟩,⟨t',rfl⟩⟩:=vals2 r;refine min_two_ints (I.ok.hd hc) fun h' tk k=>⟨_,H,I.kept k,?_,q⟩;by_cases hj:j<i
 ·rw[xz hj,xz hj];exact⟨_,rfl⟩
 ·rw[yb hj,yb hj];exact⟨_,rfl⟩
theorem Bq:HS X (.type "str") (fun xs H Q=>∃i,xs=[.int i]/\i.natAbs.log2<1920/\Q (.str (toString i)) H):=by
 intro pins s Z H xs us Q I r h;obtain⟨i,rfl,hz,q⟩:=h;obtain⟨u,rfl,t,rfl⟩:=vals1 r;exact PySem.P.str_of_int hz ⟨.str _,H,I.tok _,⟨_,rfl⟩,q⟩
end
structure dJ(h:Heap)(x dx C:Addr)(mA:Str->Option Value):Prop where
 obj:h.get? x=some (PySem.W.instObj C dx)
 ns:h.Ns1 dx mA
 ne:dx≠x
theorem jQ{h:Heap}{dx:Addr}{mA:Str->Option Value}(n:h.Ns1 dx mA):∃od,h.get? dx=some od/\∀name,PySem.W.lookIn name od=some (mA name):=by
 obtain⟨o,es,ep,ho,hd,hk,_,hm⟩:=n;refine⟨o,ho,fun name=>?_⟩;have e:=hm name;unfold nsFind findBy at e;rw[<-Array.find?_toList] at e;unfold PySem.W.lookIn;rw[hd];dsimp only;split
 ·rename_i y q
  rw[q] at e;exact xy some e
 ·rename_i q
  rw[q] at e;have a:es.toList.any (·.refKey)=false:=by
   rw[List.any_eq_false];intro y hy;obtain⟨z,t,hkey⟩:=hk y (Array.mem_toList_iff.mp hy);simp[DictEntry.refKey,hkey]
  have a':¬es.toList.any (·.refKey)=true:=by rw[a];exact zk
  rw[yb a'];exact xy some e
theorem dJ.look{h:Heap}{x dx C:Addr}{mA:Str->Option Value}(I:dJ h x dx C mA):∃od,PySem.W.InstAt h x (PySem.W.instObj C dx) C (some od)/\∀name,PySem.W.lookIn name od=some (mA name):=
 let ⟨od,ho,hl⟩:=jQ I.ns
 ⟨od,⟨I.obj,rfl,rfl,ho⟩,hl⟩
section
variable{prog:Program}{w:World}{A:Around}{E:Value->Shared->Prop}{s:Shared}{K:Fr}{x dx C f:Addr}{mA:Str->Option Value}{name:Str}{v:Value}
theorem vW{expr:Bool}{Q:Value->Shared->Prop}(X:K.In s.heap)(I:dJ s.heap x dx C mA)(hg:PySem.W.plainGet K C name=true)(hh:PySem.W.hasDictIn K C=true)
 (ha:PySem.W.findIn K (.ref C) name=some none)(hv:mA name=some v)(hv':PySem.W.handedIn v=true)(h:Q v { s with toks:=s.toks+1 }):
 wpAny (model prog w) A (getAttr (.ref x) name expr) Q E s:=by
 obtain⟨od,J,hl⟩:=I.look;exact PySem.W.get_value X J (jq4 hg).1 (PySem.W.findObj_own hh ha rfl (by rw[hl,hv])) hv' h
theorem qO{pl:Sem Bool}{Q:Value×List Value->Shared->Prop}(X:K.In s.heap)(I:dJ s.heap x dx C mA)(hg:PySem.W.plainGet K C name=true)
 (hf:PySem.W.findIn K (.ref C) name=some (some (.ref f)))(ht:PySem.W.isFn K (.ref f)=true)(hv:mA name=none)(h:Q (.ref f,[.ref x]) s):
 wpAny (model prog w) A (getMethod (.ref x) name pl) Q E s:=by
 obtain⟨od,J,hl⟩:=I.look;exact PySem.W.method_fn X J (jq4 hg).1 (jq4 hg).2 hf (jb2.mp ht) (by show(PySem.W.lookIn name od).map (·.isSome)=some false;rw[hl,hv];rfl) h
theorem uG{ns:List Str}{Q:Unit->Shared->Prop}(X:K.In s.heap)(I:dJ s.heap x dx C mA)
 (hs:PySem.W.findIn K (.ref C) "__setattr__"=some (some (.builtin "object.__setattr__")))(hp:PySem.W.plainOver K C=true)(ht:PySem.W.takerIn K C name=some none)(hh:PySem.W.hasDictIn K C=true)
 (hw:PySem.Within mA ns)(hsz:ns.length<=sizeLine)
 (h:∀h',dJ h' x dx C (fun y=>if y=name then some v else mA y)->Heap.SameBut dx s.heap h'->Q () { s with heap:=h',toks:=s.toks+2 }):
 wpAny (model prog w) A (setAttr (.ref x) name v) Q E s:=by
 obtain⟨od,J,hl⟩:=I.look;refine PySem.W.set_plain X J hs (PySem.W.osa_open (s:={ s with toks:=s.toks+1 }) (r:=none) X J hp ht fun b=>?_);obtain⟨cd,hc,hd'⟩:=PySem.W.any_some hh;have hx:s.heap.get? x=some ⟨.ref C,some dx,.plain,#[]⟩:=I.obj;refine js (zt (js (js (wpAny_loadPart hx (js (PySem.W.Looks.here (s:={ s with toks:=s.toks+1 }) (PySem.W.looks_clsIn X hc) ?_))))));rw[hd'];refine zt (a:=some dx) (js (zt (js ?_)));refine wpAny_nsSet1 (s:={ s with toks:=s.toks+1 }) I.ns fun h' hn2 hs2=>?_;obtain⟨oD,esD,epD,hoD,hdD,hcD⟩:=hn2.count (PySem.Within.cons name v hw);refine js (wpAny_lookBehind hoD (by rw[hdD];exact pastItsLine_dict (qr hcD (by rw[qh];lia))) ?_);exact zt (h _ ⟨(hs2.2 _ (Ne.symm I.ne)).trans I.obj,hn2,I.ne⟩ hs2)
theorem pP{R:Result->Shared->Prop}{vs:List Value}{kw:List (Str×Value)}(X:K.In s.heap)(hm:PySem.W.makesIn K C=true)
 (hi:PySem.W.findIn K (.ref C) "__init__"=some (some (.ref f)))(hf:PySem.W.typeIn K (.ref f)=some (.type "function"))
 (h:codeAny (model prog w) (A.under (.builtin "type.__call__" ⟨.ref C::vs,kw⟩)) (.call (.ref f) ⟨.ref (s.heap.objs.size+1)::vs,kw⟩) (PySem.W.InitBack (s.heap.objs.size+1) R)
  { s with heap:=(s.heap.push PySem.W.emptyDict).push (PySem.W.instObj C s.heap.objs.size) }):
 codeAny (model prog w) A (.call (.ref C) ⟨vs,kw⟩) R s:=by
 obtain⟨hh,g,d,t,os⟩:=s;exact PySem.W.make_core (PySem.W.makes_of X hm) (PySem.W.looks_findIn X hi) (fun self=>PySem.W.bind_fn X self hf) (.inl rfl) h
end
noncomputable def Ea(f:Str)(v:V):List (Str×V)->List (Str×V)
 | []=>[(f,v)]
 | (g,x)::r=>if g=f then (g,v)::r else (g,x)::Ea f v r
theorem Pu(f g:Str)(v:V):∀fs:List (Str×V),(Ea f v fs).lookup g=if g=f then some v else fs.lookup g
 | []=>by
  show List.lookup g [(f,v)]=_;by_cases h:g=f
  ·have hb:(g==f)=true:=jb2.mpr h;simp only[List.lookup,hb,xz h]
  ·have hb:(g==f)=false:=beq_eq_false_iff_ne.mpr h;simp only[List.lookup,hb,yb h]
 | (k,x)::r=>by
  have ih:=Pu f g v r;rw[show Ea f v ((k,x)::r)=(if k=f then (k,v)::r else (k,x)::Ea f v r) from rfl];by_cases hk:k=f
  ·rw[xz hk];by_cases h:g=k
   ·have hb:(g==k)=true:=jb2.mpr h;simp only[List.lookup,hb,xz (h.trans hk)]
   ·have hb:(g==k)=false:=beq_eq_false_iff_ne.mpr h;simp only[List.lookup,hb,yb (fun e:g=f=>h (e.trans hk.symm))]
  ·rw[yb hk];by_cases h:g=k
   ·have hb:(g==k)=true:=jb2.mpr h;simp only[List.lookup,hb,yb (fun e:g=f=>hk (h.symm.trans e))]
   ·have hb:(g==k)=false:=beq_eq_false_iff_ne.mpr h;simp only[List.lookup,hb];exact ih
theorem O7(f:Str)(v:V):∀fs:List (Str×V),f∈(Ea f v fs).map (·.1)/\∀g,g∈fs.map (·.1)->g∈(Ea f v fs).map (·.1)
 | []=>⟨by simp[Ea],fun g h=>by simp at h⟩
 | (k,x)::r=>by
  obtain⟨i1,i2⟩:=O7 f v r;rw[show Ea f v ((k,x)::r)=(if k=f then (k,v)::r else (k,x)::Ea f v r) from rfl];by_cases hk:k=f
  ·rw[xz hk];subst hk;exact⟨by simp,fun g h=>by simpa using h⟩
  ·rw[yb hk];refine⟨?_,fun g h=>?_⟩
   ·rw[zv];exact qv _ i1
   ·rw[zv] at h ⊢;rcases qf.mp h with e | e
    ·exact qf.mpr (.inl e)
    ·exact qv _ (i2 g e)
theorem Py(f:Str)(v:V):∀fs:List (Str×V),(Ea f v fs).length<=fs.length+1
 | []=>by simp[Ea]
 | (k,x)::r=>by
  have ih:=Py f v r;rw[show Ea f v ((k,x)::r)=(if k=f then (k,v)::r else (k,x)::Ea f v r) from rfl];by_cases hk:k=f
  ·rw[xz hk,qh,qh];lia
  ·rw[yb hk,qh,qh];lia
theorem Jl.some_of{v:V}{o:Option Value}(r:Jl (some v) o):∃u,o=some u/\RelV v u:=by
 cases o with
 | none=>exact(show False from r).elim
 | some u=>exact⟨u,rfl,r⟩
theorem Jl.none_of{o:Option Value}(r:Jl none o):o=none:=by
 cases o with
 | none=>rfl
 | some u=>exact(show False from r).elim
theorem jb{v:V}(r:RelV v u):PySem.W.handedIn u=true:=by
 cases v with
 | non=>cases (show u=Value.none from r);rfl
 | bl b=>cases (show u=Value.bool b from r);rfl
 | int i=>obtain⟨t,e⟩:=(show ∃t,u=Value.int i t from r);cases e;rfl
 | str x=>obtain⟨t,e⟩:=(show ∃t,u=Value.str x t from r);cases e;rfl
 | byt b=>obtain⟨t,e⟩:=(show ∃t,u=Value.bytes b t from r);cases e;rfl
 | flt b=>obtain⟨t,e⟩:=(show ∃t,u=Value.float b t from r);cases e;rfl
 | ref a=>cases (show u=Value.ref a from r);rfl
 | ty n=>cases (show u=Value.type n from r);rfl
section
variable{P:Program}{w:World}{H H':Hp}{h h':Heap}{a C dx:Addr}{fs fs':List (Str×V)}
theorem RM(hok:HOk P w H h)(e:H a=some (.ins C dx fs)):∃mA,dJ h a dx C mA/\(∀f,Jl (fs.lookup f) (mA f))/\PySem.Within mA (fs.map (·.1))/\fs.length<=1000/\H dx=some (.own a):=by
 obtain⟨d,z,ne,ob,mA,n,r,q⟩:=(show Ef P w H h a (.ins C dx fs) from hok a _ e);exact⟨mA,⟨ob,n,ne⟩,r,q,z,d⟩
end
structure Cls(K:Fr)(C:Addr):Prop where
 pg:PySem.W.plainGet K C Str.empty=true
 hd:PySem.W.hasDictIn K C=true
 po:PySem.W.plainOver K C=true
 sa:PySem.W.findIn K (.ref C) "__setattr__"=some (some (.builtin "object.__setattr__"))
theorem Cls.get{C:Addr}(c:Cls K C)(f:Str):PySem.W.plainGet K C f=true:=c.pg
def Dr(K:Fr)(C:Addr)(f:Str):Prop:=PySem.W.findIn K (.ref C) f=some none
theorem Dr.taker{C:Addr}{f:Str}(n:Dr K C f):PySem.W.takerIn K C f=some none:=by
 unfold PySem.W.takerIn;rw[show PySem.W.findIn K (.ref C) f=some none from n];rfl
structure Meth(K:Fr)(C:Addr)(m:Str)(f:Addr):Prop where
 at_:PySem.W.findIn K (.ref C) m=some (some (.ref f))
 fn:PySem.W.isFn K (.ref f)=true
 kp:PySem.W.keepIn K (.ref f)=true
section
variable{X:Cx}{pins:List (Addr×Obj)}{Z:St}{H:Hp}{s:Shared}{a C dx:Addr}{fs:List (Str×V)}{f:Str}{v:V}{A:Around}{E:Value->Shared->Prop}
theorem cM{b:Bool}{Q:Value->Shared->Prop}(I:Inv X pins Z H s)(e:H a=some (.ins C dx fs))(c:Cls X.K C)(n:Dr X.K C f)(l:fs.lookup f=some v)
 (h:∀u s',Inv X pins Z H s'->RelV v u->Q u s'):wpAny (model X.prog X.w) A (getAttr (.ref a) f b) Q E s:=by
 obtain⟨mA,O,r,_,_,_⟩:=RM I.hok e;obtain⟨u,hu,ru⟩:=Jl.some_of (v:=v) (o:=mA f) (by rw[<-l];exact r f);exact vW I.kIn O (c.get f) c.hd n hu (jb ru) (h u _ (I.tok _) ru)
theorem Ja{m:Str}{g:Addr}{pl:Sem Bool}{Q:Value×List Value->Shared->Prop}(I:Inv X pins Z H s)(e:H a=some (.ins C dx fs))(c:Cls X.K C)(k:Meth X.K C m g)(l:fs.lookup m=none)
 (h:Q (.ref g,[.ref a]) s):wpAny (model X.prog X.w) A (getMethod (.ref a) m pl) Q E s:=by
 obtain⟨mA,O,r,_,_,_⟩:=RM I.hok e;have hn:mA m=none:=Jl.none_of (by rw[<-l];exact r m);exact qO I.kIn O (c.get m) k.at_ k.fn hn h
theorem aa{y:V}{Q:Unit->Shared->Prop}(I:Inv X pins Z H s)(e:H a=some (.ins C dx fs))(c:Cls X.K C)(n:Dr X.K C f)(hl:fs.length<1000)(ry:RelV y u)
 (h:∀s',Inv X pins Z (upd H a (.ins C dx (Ea f y fs))) s'->Q () s'):wpAny (model X.prog X.w) A (setAttr (.ref a) f u) Q E s:=by
 obtain⟨mA,O,r,wi,_,ho⟩:=RM I.hok e;have hz:(fs.map (·.1)).length<=sizeLine:=by rw[jp,sizeLine_eq];lia
 refine uG I.kIn O c.sa c.po n.taker c.hd wi hz fun h' O' sb=>h _ ?_;have hd:∃o,h'.get? dx=some o:=let ⟨o,_,_,e',_⟩:=O'.ns;⟨o,e'⟩;refine I.write (x:=a) (e:=dx) (by rw[e];exact True.intro) (.inr ho) (fun b q hb z=>(sb.2 b hb).trans z) hd ?_;refine⟨by rw[Ax O.ne];exact ho,?_,O.ne,O'.obj,_,O'.ns,fun g=>?_,fun g hg=>?_⟩
 ·have:=Py f y fs;lia
 ·show Jl ((Ea f y fs).lookup g) (if g=f then some u else mA g);rw[Pu];by_cases q:g=f
  ·rw[xz q,xz q];exact ry
  ·rw[yb q,yb q];exact r g
 ·by_cases q:g=f
  ·rw[q];exact(O7 f y fs).1
  ·refine(O7 f y fs).2 g (wi g fun z=>hg ?_);show(if g=f then some u else mA g)=none;rw[yb q];exact z
theorem Inv.made(I:Inv X pins Z H s):Inv X pins Z (upd (upd H s.heap.objs.size (.own (s.heap.objs.size+1))) (s.heap.objs.size+1) (.ins C s.heap.objs.size []))
 { s with heap:=(s.heap.push PySem.W.emptyDict).push (PySem.W.instObj C s.heap.objs.size) }:=by
 have e1:(s.heap.push PySem.W.emptyDict).get? s.heap.objs.size=some PySem.W.emptyDict:=xa s.heap rfl;have e2:((s.heap.push PySem.W.emptyDict).push (PySem.W.instObj C s.heap.objs.size)).get? (s.heap.objs.size+1)=some (PySem.W.instObj C s.heap.objs.size):=by
  have:=xa (s.heap.push PySem.W.emptyDict) (o:=PySem.W.instObj C s.heap.objs.size) rfl
  rwa [jh6] at this
 have e3:(s.heap.push PySem.W.emptyDict).Ns s.heap.objs.size (fun _=>none):=⟨PySem.W.emptyDict,#[],_,e1,rfl,(fun e he=>absurd he (by simp)),fun _=>rfl⟩;have I1:=I.laid (a:=s.heap.objs.size) (o:=.own (s.heap.objs.size+1)) (h':=s.heap.push PySem.W.emptyDict) (t':=s.toks) (fun b u q=>jv _ q) (qg _) ⟨_,e1⟩;refine I1.laid (a:=s.heap.objs.size+1) (o:=.ins C s.heap.objs.size []) (t':=s.toks) (fun b u q=>jv _ q) (jl1 (jh6 _ _)) ?_;have ne:s.heap.objs.size≠s.heap.objs.size+1:=vv (jo6 _);refine⟨by rw[Ax ne,Am],vt _,ne,e2,fun _=>none,(Heap.Ns1.of_empty e3).at fun o q=>jv _ q,fun _=>True.intro,fun y hy=>absurd rfl hy⟩
theorem wL{prog:Program}{w:World}{env:Env}{e:Expr}{f:Str}{s:Shared}{Q:Value->Shared->Prop}(hb:attributeBase e f env (eval e env)=eval e env)
 (h:wpAny (model prog w) A (eval e env) (fun o s₁=>wpAny (model prog w) A (getAttr o f true) Q E s₁) E s):wpAny (model prog w) A (eval (.Attribute e f pos) env) Q E s:=
 Attribute_any_ h (by rw[arm_eval_Attribute,hb])
end
def ABk(K:Fr)(ta:TE)(f:Str):TE:=fun Z H Q=>ta Z H fun x H1=>∃a C dx fs v,x=.ref a/\H1 a=some (.ins C dx fs)/\Cls K C/\Dr K C f/\fs.lookup f=some v/\Q v H1
def ACI(K:Fr)(ta tv:TE)(f:Str):TS:=fun D Z H=>tv Z H fun y H1=>ta Z H1 fun x H2=>∃a C dx fs,x=.ref a/\H2 a=some (.ins C dx fs)/\Cls K C/\Dr K C f/\fs.length<1000/\
 D.nx Z (upd H2 a (.ins C dx (Ea f y fs)))
section
variable{X:Cx}{o e value:Expr}{f:Str}{pos pos' tpos:Pos}{ta tv:TE}
theorem Br(he:PE X e ta)(hb:attributeBase e f X.env (eval e X.env)=eval e X.env):PE X (.Attribute e f pos) (ABk X.K ta f):=by
 intro pins s Z H Q I h;refine wL hb (thn (he s Z H _ I h) fun u s1 hZ=>?_);obtain⟨x,H1,I1,rx,a,C,dx,fs,v,ex,ea,c,n,l,q⟩:=hZ;subst ex;obtain rfl:u=Value.ref a:=rx;exact cM I1 ea c n l fun u' s2 I2 ru=>⟨v,H1,I2,ru,q⟩
theorem Fi(ha:PE X o ta)(hv:PE X value tv)(hs:swapsWith value (some (.Attribute o f pos')) pos.line X.env=pure false):PS X (.Assign [.Attribute o f pos'] value pos) (ACI X.K ta tv f):=by
 intro pins s Z H D I h;refine plainObj_wpAny_Assign_Attribute (thn (hv s Z H _ I h) fun u s1 ⟨y,H1,I1,ry,q⟩=>thn (ha s1 Z H1 _ I1 q) fun ov s2 hZ=>?_) hs;obtain⟨x,H2,I2,rx,a,C,dx,fs,ex,ea,c,n,l,q2⟩:=hZ;subst ex;obtain rfl:ov=Value.ref a:=rx;exact aa I2 ea c n l ry fun s3 I3=>⟨Z,_,I3,q2⟩
end
section
variable{X:Cx}{pins:List (Addr×Obj)}{Z:St}{H:Hp}{s:Shared}{A:Around}{E:Value->Shared->Prop}{Q:Value->Shared->Prop}{c:Value}{b:Bool}
inductive N6(K:Fr)(H:Hp):V->Value->Prop where
 | non:N6 K H .non (.type "NoneType")
 | bl (x:Bool):N6 K H (.bl x) (.type "bool")
 | int (i:Int):N6 K H (.int i) (.type "int")
 | str (x:Str):N6 K H (.str x) (.type "str")
 | flt (x:UInt64):N6 K H (.flt x) (.type "float")
 | lst {a:Addr} {xs:List V} (e:H a=some (.lst xs)):N6 K H (.ref a) (.type "list")
 | frz {a:Addr} {o:Obj} {xs:List V} (e:H a=some (.frz o (.lst xs))):N6 K H (.ref a) (.type "list")
 | tup {a:Addr} {xs:List V} (e:H a=some (.tup xs)):N6 K H (.ref a) (.type "tuple")
 | dK {a:Addr} {kvs:List (Key×V)} (e:H a=some (.dK kvs)):N6 K H (.ref a) (.type "dict")
 | dT {a:Addr} {kvs:List (List Key×V)} (e:H a=some (.dT kvs)):N6 K H (.ref a) (.type "dict")
 | ins {a C dx:Addr} {fs:List (Str×V)} (e:H a=some (.ins C dx fs)) (cl:Cls K C) (ha:PySem.W.findIn K (.ref C) "__class__"=some (some (.builtin "object.__class__")))
  (hn:PySem.W.specialIn K (.builtin "object.__class__") "__get__"=some (some (.builtin "getset_descriptor.__get__"))) (htk:PySem.W.takesIn K (.builtin "object.__class__")=some true)
  (hm:PySem.W.mroIn K C (.type "object")=some true):N6 K H (.ref a) (.ref C)
theorem jX{x:V}{t:Value}(I:Inv X pins Z H s)(rx:RelV x u)(ty:N6 X.K H x t)(e:PySem.W.kitOne X.K t c=some b)(h:∀tk,Q (.bool b) { s with toks:=tk }):
 wpAny (model X.prog X.w) A (call (.builtin "isinstance") [u,c]) Q E s:=by
 cases ty with
 | non=>cases (show u=Value.none from rx);exact jb3 PySem.W.kitx_none I.kIn True.intro e (fun z=>nomatch z) h
 | bl y=>cases (show u=Value.bool y from rx);exact jb3 PySem.W.kitx_bool I.kIn True.intro e (fun z=>nomatch z) h
 | int i=>obtain⟨t,q⟩:=(show ∃t,u=Value.int i t from rx);cases q;exact jb3 PySem.W.kitx_int I.kIn True.intro e (fun z=>nomatch z) h
 | str y=>obtain⟨t,q⟩:=(show ∃t,u=Value.str y t from rx);cases q;exact jb3 PySem.W.kitx_str I.kIn True.intro e (fun z=>nomatch z) h
 | flt y=>obtain⟨t,q⟩:=(show ∃t,u=Value.float y t from rx);cases q;exact jb3 PySem.W.kitx_float I.kIn True.intro e (fun z=>nomatch z) h
 | @lst a xs ea=>
  cases (show u=Value.ref a from rx);obtain⟨_,_,n,_,h1⟩:=(show Ef X.prog X.w H s.heap a (.lst xs) from I.hok a _ ea);exact jb3 PySem.W.kitx_list I.kIn ⟨_,h1,rfl⟩ e (fun z=>nomatch z) h
 | @frz a ob xs ea=>
  cases (show u=Value.ref a from rx);obtain⟨_,_,_,n,_,h1⟩:=(show Ef X.prog X.w H s.heap a (.frz ob (.lst xs)) from I.hok a _ ea);exact jb3 PySem.W.kitx_list I.kIn ⟨_,h1,rfl⟩ e (fun z=>nomatch z) h
 | @tup a xs ea=>
  cases (show u=Value.ref a from rx);obtain⟨_,_,_,p⟩:=(show Ef X.prog X.w H s.heap a (.tup xs) from I.hok a _ ea);obtain⟨o,h1,h2,_⟩:=p;exact jb3 PySem.W.kitx_tuple I.kIn ⟨o,h1,h2⟩ e (fun z=>nomatch z) h
 | @dK a kvs ea=>
  cases (show u=Value.ref a from rx);obtain⟨_,_,vs,_,p⟩:=(show Ef X.prog X.w H s.heap a (.dK kvs) from I.hok a _ ea);obtain⟨o,es,ep,h1,h2,_⟩:=p;exact jb3 PySem.W.kitx_dict I.kIn ⟨o,h1,h2.1⟩ e (fun z=>nomatch z) h
 | @dT a kvs ea=>
  cases (show u=Value.ref a from rx);obtain⟨_,_,xs,_,o,es,ep,h1,h2,_⟩:=(show Ef X.prog X.w H s.heap a (.dT kvs) from I.hok a _ ea);exact jb3 PySem.W.kitx_dict I.kIn ⟨o,h1,h2.1⟩ e (fun z=>nomatch z) h
 | @ins a C dx fs ea cl ha hn htk hm=>
  cases (show u=Value.ref a from rx);obtain⟨mA,O,_⟩:=RM I.hok ea;obtain⟨od,J,_⟩:=O.look;exact jb3 (PySem.W.kitx_own (cl.get _) cl.hd ha hn htk hm) I.kIn J e (fun z=>nomatch z) h
end
structure Cv(k:Nat)(A:Around):Prop where
 hd:A.handled=none
 dp:A.depth+3*k+5<recursionLimit
 un:A.units+16*k+200<cLine
 gd:A.guards=some []
theorem Cv.mono{j k:Nat}(r:Cv k A)(h:j<=k):Cv j A:=⟨r.hd,by have:=r.dp;lia,by have:=r.un;lia,r.gd⟩
theorem Cv.deeper{k:Nat}(r:Cv (k+1) A)(env:Env):Cv k (A.deeper env):=
 ⟨r.hd,by have:=r.dp;show A.depth+1+3*k+5<_;lia,by have:=r.un;show A.units+3+16*k+200<_;lia,r.gd⟩
theorem Cv.in1{k:Nat}(r:Cv (k+1) A):Cv k A.in1:=
 ⟨r.hd,by have:=r.dp;show A.depth+3*k+5<_;lia,by have:=r.un;show A.units+1+16*k+200<_;lia,r.gd⟩
theorem cF{C:Addr}{kw:List (Str×Value)}:(A.under (.builtin "type.__call__" ⟨.ref C::us,kw⟩)).depth=A.depth+1:=by
 first | rfl | simp[Around.under,Code.weight,Code.isCreation,Code.isGuard,Code.isCaller,Code.frames,Code.isFrame,guardIds]
theorem cD{C:Addr}{kw:List (Str×Value)}:(A.under (.builtin "type.__call__" ⟨.ref C::us,kw⟩)).units=A.units+1:=by
 first | rfl | simp[Around.under,Code.cUnits,Code.frames,Code.isFrame]
theorem Zf{C:Addr}{kw:List (Str×Value)}(h:A.guards=some []):(A.under (.builtin "type.__call__" ⟨.ref C::us,kw⟩)).guards=some []:=by
 have e:(Code.builtin "type.__call__" ⟨.ref C::us,kw⟩).guards=[]:=by
  unfold Code.guards;rw[yb (by show ¬guardIds.contains "type.__call__"=true;decide)]
 have e2:(A.under (.builtin "type.__call__" ⟨.ref C::us,kw⟩)).guards=pushGuards (Code.builtin "type.__call__" ⟨.ref C::us,kw⟩).guards A.guards:=rfl;rw[e2,e,h];rfl
theorem Cv.make{k:Nat}(r:Cv (k+1) A)(C:Addr)(us:List Value)(kw:List (Str×Value)):Cv k (A.under (.builtin "type.__call__" ⟨.ref C::us,kw⟩)):=
 ⟨r.hd,by have:=r.dp;rw[cF];lia,by have:=r.un;rw[cD];lia,Zf r.gd⟩
theorem Cv.depth{k:Nat}(r:Cv k A):A.depth<recursionLimit:=by have:=r.dp;lia
theorem Cv.units{k:Nat}(r:Cv k A):A.units+64<cLine:=by have:=r.un;lia
theorem Cv.units0{k:Nat}(r:Cv k A):A.units<cLine:=by have:=r.un;lia
def Ly:TA:=fun _ H Q=>Q [] H
def Hw(ta:TE)(tr:TA):TA:=fun Z H Q=>ta Z H fun x H1=>tr Z H1 fun xs H2=>Q (x::xs) H2
section
variable{X:Cx}{e:Expr}{es:List Expr}{te:TE}{t:TA}{pos:Pos}
theorem Ab:PA X [] Ly:=fun _ _ _ _ H Q I h=>Calls.spliced_nil ⟨[],H,I,.nil,h⟩
theorem Aa(ha:PE X e te)(hr:PA X es t)(hs:‹starEach (e::es) X.env=(false,eval e X.env)::starEach es X.env›):PA X (e::es) (Hw te t):=by
 intro pos pins s Z H Q I h;rw[hs];show wpAny _ _ (spliced ((false,eval e X.env)::backTo pos (starEach es X.env))) _ _ s;refine Calls.spliced_cons (thn (ha s Z H _ I h) fun u s1 hZ=>?_);obtain⟨x,H1,I1,r1,q1⟩:=hZ;exact thn (hr (pos:=pos) pins s1 Z H1 _ I1 q1) fun us s2 ⟨xs,H2,I2,r2,q2⟩=>⟨x::xs,H2,I2,.cons r1 r2,q2⟩
def sS(t:TA):TE:=fun Z H Q=>t Z H fun xs H1=>xs.length<=sizeLine/\∀p,H1 p=none->Q (.ref p) (upd H1 p (.tup xs))
def sU(t:TA):TE:=fun Z H Q=>t Z H fun xs H1=>xs.length<=sizeLine/\∀p,H1 p=none->Q (.ref p) (upd H1 p (.lst xs))
theorem BK{x1}(h:PA X es t):PE X (.Tuple es x1 pos) (sS t):=by
 intro pins s Z H Q I hq;refine wpAny_Tuple_spliced (thn (h (pos:=pos) pins s Z H _ I hq) fun us s1 ⟨xs,H1,I1,r,z,q⟩=>⟨by rw[<-r.length];exact z,?_⟩);have hf:H1 s1.heap.objs.size=none:=I1.hok.fresh (qg _);refine⟨.ref s1.heap.objs.size,upd H1 s1.heap.objs.size (.tup xs),I1.laid (t':=s1.toks) (fun b u e=>jv _ e) (qg _) ?_,rfl,q _ hf⟩;exact⟨z,us,r,⟨_,xa _ rfl,rfl,_,rfl⟩⟩
theorem Eb(h:PA X es t):PE X (.List es pos) (sU t):=by
 intro pins s Z H Q I hq;refine wpAny_List_spliced (thn (h (pos:=pos) pins s Z H _ I hq) fun us s1 ⟨xs,H1,I1,r,z,q⟩=>⟨by rw[<-r.length];exact z,?_⟩);have hf:H1 s1.heap.objs.size=none:=I1.hok.fresh (qg _);refine⟨.ref s1.heap.objs.size,upd H1 s1.heap.objs.size (.lst xs),I1.laid (t':=s1.toks) (fun b u e=>jv _ e) (qg _) ?_,rfl,q _ hf⟩;exact⟨z,us,0,r,xa _ rfl⟩
end
noncomputable abbrev Sp:=List V->Hp->VK->XK->Prop
noncomputable abbrev CXT:=List Env->Hp->Shared->XK->Value->Shared->Prop
structure Ux(P:Program)(w:World)(K:Fr)(mg:Str->Option Value)(base:Heap)(A:Around)(outer:List Env)(s:Shared)(H:Hp):Prop where
 frames:A.frames=some outer
 mod:Mod K mg base
 bs:∀b o,base.get? b=some o->s.heap.get? b=some o/\H b=none
 bsz:base.objs.size<=s.heap.objs.size
 funs:s.heap.FunFrames base outer
 frf:∀b∈frs outer,H b=none
 hok:HOk P w H s.heap
 bare:AllBare s.gens
def CE(outer:List Env)(P:Program)(w:World)(H:Hp)(s:Shared)(Q:VK)(u:Value)(s':Shared):Prop:=
 ∃v H',s'.os=s.os/\AllBare s'.gens/\Un (frs outer) [] H H' s.heap s'.heap/\HOk P w H' s'.heap/\RelV v u/\Q v H'
def CR(CX:CXT)(outer:List Env)(P:Program)(w:World)(H:Hp)(s:Shared)(Q:VK)(E:XK)(r:Result)(s':Shared):Prop:=
 match r with
 | .ok (.ret u)=>CE outer P w H s Q u s'
 | .ok _=>False
 | .error e=>CX outer H s E e s'
structure Ei(P:Program)(w:World)(K:Fr)(mg:Str->Option Value)(base:Heap)(CX:CXT)(k:Nat)(f:Addr)(fd:FuncData)(ps:List Str)(sp:Sp):Prop where
 len:∀vs H Q E,sp vs H Q E->vs.length=ps.length
 run:∀(A:Around) (outer:List Env) (s:Shared) (H:Hp) (args:Args) (us:List Value) (vs:List V) (Q:VK) (E:XK),Cv k A->Ux P w K mg base A outer s H->BindsTo s fd args (ps.zip us)->Vals vs us->sp vs H Q E->
  codeAny (model P w) A (.call (.ref f) args) (CR CX outer P w H s Q E) s
variable{base:Heap}
theorem Ux.make{P:Program}{w:World}{mg:Str->Option Value}{outer:List Env}{s:Shared}(e:Ux P w K mg base A outer s H)(C:Addr)(us:List Value)(kw:List (Str×Value)):
 Ux P w K mg base (A.under (.builtin "type.__call__" ⟨.ref C::us,kw⟩)) outer s H:=⟨by first | exact e.frames | (simpa [Around.under,Code.envs,Code.isFrame,pushEnvs] using e.frames),e.mod,e.bs,e.bsz,e.funs,e.frf,e.hok,e.bare⟩
theorem Ux.in1{P:Program}{w:World}{mg:Str->Option Value}{outer:List Env}{s:Shared}(e:Ux P w K mg base A outer s H):
 Ux P w K mg base A.in1 outer s H:=⟨e.frames,e.mod,e.bs,e.bsz,e.funs,e.frf,e.hok,e.bare⟩
section
variable{X:Cx}{pins:List (Addr×Obj)}{Z:St}{H:Hp}{s s':Shared}
theorem Inv.env0(I:Inv X pins Z H s):Ux X.prog X.w X.K X.mg X.base X.A X.stack s H:=
 ⟨I.ok.frames,I.ok.mod,I.bs,qr I.ok.bsz I.sz,I.stack,I.stkFree,I.hok,I.bare⟩
theorem Inv.after{Q:VK}(I:Inv X pins Z H s)(h:CE X.stack X.prog X.w H s Q u s'):EP X pins Z Q u s':=by
 obtain⟨v,H',os,bare,un,hok,r,q⟩:=h;obtain⟨hh,g,d,t,os'⟩:=s';obtain rfl:os'=s.os:=os;exact⟨v,H',I.call (h':=hh) (g':=g) (d':=d) (t':=t) (ch:=[]) un hok bare (fun b z=>absurd z (by simp)),r,q⟩
end
def Vs(sp:Sp)(dvs:List V)(E:XK)(t:TA):TE:=fun Z H Q=>t Z H fun vs H1=>sp (vs++dvs) H1 Q E
def Yj(C:Addr)(m:Str)(sp:Sp)(dvs:List V)(E:XK)(ta:TE)(t:TA):TE:=fun Z H Q=>ta Z H fun x H1=>∃a dx fs,x=.ref a/\H1 a=some (.ins C dx fs)/\fs.lookup m=none/\
 t Z H1 fun vs H2=>sp (x::(vs++dvs)) H2 Q E
def Vr(C:Addr)(sp:Sp)(dvs:List V)(E:XK)(t:TA):TE:=fun Z H Q=>t Z H fun vs H1=>∀x dx,H1 x=none->H1 dx=none->dx≠x->
 sp (.ref x::(vs++dvs)) (upd (upd H1 dx (.own x)) x (.ins C dx [])) (fun v H2=>v=.non/\Q (.ref x) H2) E
def Binds(K:Fr)(fd:FuncData)(ps:List Str)(ds:List Value):Prop:=
 ∀(s:Shared) (us:List Value),K.In s.heap->(us++ds).length=ps.length->BindsTo s fd ⟨us,[]⟩ (ps.zip (us++ds))
theorem Binds.all{fd:FuncData}{ps:List Str}(h:∀us:List Value,us.length=ps.length->bindArgs fd ⟨us,[]⟩=pure (ps.zip us)):Binds K fd ps []:=fun s us _ hl=>by
 rw[ya] at hl ⊢;exact .of_eq (h us hl)
def Ku(CX:CXT)(X:Cx)(E:XK):Prop:=∀(pins:List (Addr×Obj)) (Z:St) (H:Hp) (s:Shared) (e:Value) (s':Shared),Inv X pins Z H s->CX X.stack H s E e s'->X.xe e s'
section
variable{X:Cx}{CX:CXT}{k:Nat}{f C:Addr}{fd:FuncData}{ps:List Str}{sp:Sp}{dvs:List V}{ds:List Value}{E:XK}{x m:Str}{p pos apos:Pos}{e o:Expr}{es:List Expr}{ta:TE}{t:TA}
theorem Ou{s:Shared}{Q:VK}{vs:List V}(F:Ei X.prog X.w X.K X.mg X.base CX k f fd ps sp)(hr:Cv k X.A)(hb:Binds X.K fd ps ds)(hd:Vals dvs ds)(hx:Ku CX X E)
 (I:Inv X pins Z H s)(r:Vals vs us)(h:sp (vs++dvs) H Q E):wpAny (model X.prog X.w) X.A (call (.ref f) us) (EP X pins Z Q) X.xe s:=by
 have r2:Vals (vs++dvs) (us++ds):=r.append hd;have hl:(us++ds).length=ps.length:=by rw[<-r2.length];exact F.len _ _ _ _ h
 refine js8 (jj0 (F.run X.A X.stack s H ⟨us,[]⟩ (us++ds) (vs++dvs) Q E hr I.env0 (hb s us I.kIn hl) r2 h) fun r s' hq=>?_);cases r with
 | error e=>exact hx pins Z H s e s' I hq
 | ok fl=>
  cases fl with
  | ret u=>exact I.after hq
  | next=>exact False.elim hq
  | brk=>exact False.elim hq
  | cont=>exact False.elim hq
theorem uv(F:Ei X.prog X.w X.K X.mg X.base CX k f fd ps sp)(hr:Cv k X.A)(hg:Gl X x)(hm:X.mg x=some (.ref f))(hk:PySem.W.keepIn X.K (.ref f)=true)(hb:Binds X.K fd ps ds)(hd:Vals dvs ds)(hx:Ku CX X E)
 (ha:PA X (e::es) t)(hdb:(x==("__debug__":Str))=false:=by decide)(he:‹starEach (e::es) X.env=(false,eval e X.env)::starEach es X.env›)(hpl:‹(backTo pos (starEach es X.env)).any (·.1)=false›):
 PE X (.Call (.Name x p) (e::es) [] pos) (Vs sp dvs E t):=by
 intro pins s Z H Q I h;refine ja1 (JX I hg hm ?_ hdb);refine jc5 (h₀:=X.base) I.ok.mod.kin hk (thn (ha (pos:=pos) pins s Z H _ I h) fun us s1 ⟨vs,H1,I1,r,q⟩=>⟨I1.kIn,?_⟩) he hpl;exact Ou F hr hb hd hx I1 r q
theorem ut{pl:Sem Bool}(he:PE X o ta)(c:Cls X.K C)(hm:Meth X.K C m f)(F:Ei X.prog X.w X.K X.mg X.base CX k f fd ps sp)(hr:Cv k X.A)(hb:Binds X.K fd ps ds)(hd:Vals dvs ds)(hx:Ku CX X E)(ha:PA X (e::es) t)
 (hst:‹starEach (e::es) X.env=(false,eval e X.env)::starEach es X.env›)(hpl:‹(backTo pos (starEach es X.env)).any (·.1)=false›)
 (ht:‹eval (.Call (.Attribute o m apos) (e::es) [] pos) X.env=(do
  let ov <-eval o X.env
  standAt apos.atName
  let (f,first) <-holding [ov] (getMethod ov m pl)
  callWith pos f first (backTo pos (starEach (e::es) X.env)) (backToKw pos (keywordEach [] X.env)))›):
 PE X (.Call (.Attribute o m apos) (e::es) [] pos) (Yj C m sp dvs E ta t):=by
 intro pins s Z H Q I h;refine jg0 (pl:=pl) (thn (he s Z H _ I h) fun u s1 hZ=>?_) ht;obtain⟨x,H1,I1,rx,a,dx,fs,ex,ea,l,q⟩:=hZ;subst ex;obtain rfl:u=Value.ref a:=rx;refine Ja I1 ea c hm l ?_;refine jc5 (first:=[.ref a]) (h₀:=X.base) I.ok.mod.kin hm.kp (thn (ha (pos:=pos) pins s1 Z H1 _ I1 q) fun us s2 ⟨vs,H2,I2,r,q2⟩=>⟨I2.kIn,?_⟩) hst hpl
 exact Ou (us:=.ref a::us) (vs:=.ref a::vs) F hr hb hd hx I2 (.cons rfl r) q2
theorem oh{pl:Sem Bool}(he:PE X o ta)(c:Cls X.K C)(hm:Meth X.K C m f)(F:Ei X.prog X.w X.K X.mg X.base CX k f fd ps sp)(hr:Cv k X.A)(hb:Binds X.K fd ps ds)(hd:Vals dvs ds)(hx:Ku CX X E)
 (ht:‹eval (.Call (.Attribute o m apos) [] [] pos) X.env=(do
  let ov <-eval o X.env
  standAt apos.atName
  let (f,first) <-holding [ov] (getMethod ov m pl)
  callWith pos f first (backTo pos (starEach [] X.env)) (backToKw pos (keywordEach [] X.env)))›):
 PE X (.Call (.Attribute o m apos) [] [] pos) (Yj C m sp dvs E ta Ly):=by
 intro pins s Z H Q I h;refine jg0 (pl:=pl) (thn (he s Z H _ I h) fun u s1 hZ=>?_) ht;obtain⟨x,H1,I1,rx,a,dx,fs,ex,ea,l,q⟩:=hZ;subst ex;obtain rfl:u=Value.ref a:=rx;refine Ja I1 ea c hm l ?_;exact jq3 (first:=[.ref a]) I1.kIn hm.kp (Ou (us:=[.ref a]) (vs:=[.ref a]) F hr hb hd hx I1 (.cons rfl .nil) q)
structure Mk(K:Fr)(C f:Addr):Prop where
 makes:PySem.W.makesIn K C=true
 init:PySem.W.findIn K (.ref C) "__init__"=some (some (.ref f))
 fn:PySem.W.isFn K (.ref f)=true
 kp:PySem.W.keepIn K (.ref C)=true
theorem ZM{s:Shared}{Q:VK}{vs:List V}(M:Mk X.K C f)(F:Ei X.prog X.w X.K X.mg X.base CX k f fd ps sp)(hr:Cv (k+1) X.A)(hb:Binds X.K fd ps ds)(hd:Vals dvs ds)
 (hx:Ku CX X E)(I:Inv X pins Z H s)(r:Vals vs us)
 (h:∀x dx,H x=none->H dx=none->dx≠x->sp (.ref x::(vs++dvs)) (upd (upd H dx (.own x)) x (.ins C dx [])) (fun v H2=>v=.non/\Q (.ref x) H2) E):
 wpAny (model X.prog X.w) X.A (call (.ref C) us) (EP X pins Z Q) X.xe s:=by
 have hq:=h (s.heap.objs.size+1) s.heap.objs.size (I.hok.fresh (jw6 _)) (I.hok.fresh (qg _)) (vv (jo6 _));have I2:=Inv.made (C:=C) I;have r2:Vals (V.ref (s.heap.objs.size+1)::(vs++dvs)) (Value.ref (s.heap.objs.size+1)::(us++ds)):=.cons rfl (r.append hd);have hl:(Value.ref (s.heap.objs.size+1)::us++ds).length=ps.length:=by
  have e:=r2.length;rw[F.len _ _ _ _ hq] at e;exact e.symm
 refine js8 (pP (f:=f) I.kIn M.makes M.init (jb2.mp M.fn) (jj0 (F.run _ X.stack _ _ ⟨Value.ref (s.heap.objs.size+1)::us,[]⟩ (Value.ref (s.heap.objs.size+1)::(us++ds)) _ _ E (hr.make C us [])
  (I2.env0.make C us []) (hb _ (Value.ref (s.heap.objs.size+1)::us) I2.kIn hl) r2 hq) fun r s' hq'=>?_))
 cases r with
 | error e=>exact hx pins Z _ _ e s' I2 hq'
 | ok fl=>
  cases fl with
  | ret u=>
   obtain⟨v,H',I3,rv,ev,q3⟩:=I2.after hq';subst ev;exact⟨rv,⟨V.ref (s.heap.objs.size+1),H',I3,rfl,q3⟩⟩
  | next=>exact False.elim hq'
  | brk=>exact False.elim hq'
  | cont=>exact False.elim hq'
theorem eV(M:Mk X.K C f)(F:Ei X.prog X.w X.K X.mg X.base CX k f fd ps sp)(hr:Cv (k+1) X.A)(hg:Gl X x)(hm:X.mg x=some (.ref C))(hb:Binds X.K fd ps ds)(hd:Vals dvs ds)(hx:Ku CX X E)
 (ha:PA X (e::es) t)(hdb:(x==("__debug__":Str))=false:=by decide)(he:‹starEach (e::es) X.env=(false,eval e X.env)::starEach es X.env›)(hpl:‹(backTo pos (starEach es X.env)).any (·.1)=false›):
 PE X (.Call (.Name x p) (e::es) [] pos) (Vr C sp dvs E t):=by
 intro pins s Z H Q I h;refine ja1 (JX I hg hm ?_ hdb);refine jc5 (h₀:=X.base) I.ok.mod.kin M.kp (thn (ha (pos:=pos) pins s Z H _ I h) fun us s1 ⟨vs,H1,I1,r,q⟩=>⟨I1.kIn,?_⟩) he hpl;exact ZM M F hr hb hd hx I1 r q
theorem o6(M:Mk X.K C f)(F:Ei X.prog X.w X.K X.mg X.base CX k f fd ps sp)(hr:Cv (k+1) X.A)(hg:Gl X x)(hm:X.mg x=some (.ref C))(hb:Binds X.K fd ps ds)(hd:Vals dvs ds)(hx:Ku CX X E)
 (hdb:(x==("__debug__":Str))=false:=by decide):PE X (.Call (.Name x p) [] [] pos) (Vr C sp dvs E Ly):=by
 intro pins s Z H Q I h;refine ja1 (JX I hg hm ?_ hdb);exact jq3 I.kIn M.kp (ZM (us:=[]) M F hr hb hd hx I .nil h)
end
def PK(X:Cx)(kws:List Keyword)(t:TA):Prop:=
 ∀(pos:Pos) (pins:List (Addr×Obj)) (s:Shared) (Z:St) (H:Hp) (Q:List V->Hp->Prop),Inv X pins Z H s->t Z H Q->wpAny (model X.prog X.w) X.A (evalAll ((backToKw pos (keywordEach kws X.env)).map (·.2))) (AP X pins Z Q) X.xe s
section
variable{X:Cx}{CX:CXT}{k:Nat}{f C:Addr}{fd:FuncData}{ps ks:List Str}{sp:Sp}{E:XK}{x m:Str}{p pos apos kpos:Pos}{e o:Expr}{es:List Expr}{kws:List Keyword}{te ta:TE}{t tk:TA}{nm:Option Str}
variable{g:List Value->List Value->List Value}{gV:List V->List V->List V}
end
structure CZ(N P:List Str)(sc:Scope):Prop where
 kind:sc.kind=.function
 co:sc.isCoroutine=false
 gen:sc.isGenerator=false
 nd:N.Nodup
 pre:N.take P.length=P
 par:∀x∈P,sc.names.lookup x=some .local\/sc.names.lookup x=some .cell
 nofree:∀y∈sc.names,y.2≠.free
theorem Wb{kindOf:Str->Option NameKind}:∀{binds:List (Str×Value)} {m:Str->Option Value},(∀v,(x,v)∉binds)->bindL kindOf binds m x=m x
 | [],_,_=>rfl
 | (n,v)::r,m,h=>by
  unfold bindL;rw[Wb fun w hw=>h w (qv _ hw)];split
  ·have:x≠n:=by rintro rfl;exact h v qm
   simp[this]
  ·rfl
theorem We{kindOf:Str->Option NameKind}:∀{binds:List (Str×Value)} {m:Str->Option Value},(∀v,(x,v)∉binds)->bindC kindOf binds m x=m x
 | [],_,_=>rfl
 | (n,v)::r,m,h=>by
  unfold bindC;rw[We fun w hw=>h w (qv _ hw)];split
  ·rfl
  ·have:x≠n:=by rintro rfl;exact h v qm
   simp[this]
theorem Wc{kindOf:Str->Option NameKind}{v:Value}:∀{P:List Str} {vs:List Value} {i:Nat} {m:Str->Option Value},P.Nodup->P[i]?=some x->vs[i]?=some v->kindOf x=some .local->
 bindL kindOf (P.zip vs) m x=some v
 | [],_,_,_,_,h,_,_=>by simp at h
 | _::_,[],_,_,_,_,h,_=>by simp at h
 | p::P,w::vs,0,m,nd,h1,h2,hk=>by
  simp at h1 h2;subst h1;subst h2;show bindL kindOf ((p,w)::P.zip vs) m p=_;unfold bindL;rw[Wb fun v hv=>(jp5.mp nd).1 (jp6 hv).1,xz hk];simp
 | p::P,w::vs,i+1,m,nd,h1,h2,hk=>by
  show bindL kindOf ((p,w)::P.zip vs) m x=_;unfold bindL;exact Wc (i:=i) (jp5.mp nd).2 (by simpa using h1) (by simpa using h2) hk
theorem Wg{kindOf:Str->Option NameKind}{v:Value}:∀{P:List Str} {vs:List Value} {i:Nat} {m:Str->Option Value},P.Nodup->P[i]?=some x->vs[i]?=some v->kindOf x≠some .local->
 bindC kindOf (P.zip vs) m x=some v
 | [],_,_,_,_,h,_,_=>by simp at h
 | _::_,[],_,_,_,_,h,_=>by simp at h
 | p::P,w::vs,0,m,nd,h1,h2,hk=>by
  simp at h1 h2;subst h1;subst h2;show bindC kindOf ((p,w)::P.zip vs) m p=_;unfold bindC;rw[We fun v hv=>(jp5.mp nd).1 (jp6 hv).1,yb hk];simp
 | p::P,w::vs,i+1,m,nd,h1,h2,hk=>by
  show bindC kindOf ((p,w)::P.zip vs) m x=_;unfold bindC;exact Wg (i:=i) (jp5.mp nd).2 (by simpa using h1) (by simpa using h2) hk
noncomputable def start(N:List Str)(vs:List V):St:=vs.map some++List.replicate (N.length-vs.length) none
noncomputable def Qs(CX:CXT)(P:Program)(w:World)(K:Fr)(mg:Str->Option Value)(base:Heap)(N:List Str)(qual:Str)(scope:Scope)(f:Addr)(cd:Value)(A:Around)(outer:List Env)(s:Shared)(H:Hp)(E:XK):Cx where
 prog:=P
 w:=w
 K:=K
 mg:=mg
 base:=base
 A:=A.deeper (envOfC qual scope s.heap.objs.size f cd)
 N:=N
 s₀:=s
 H₀:=H
 env:=envOfC qual scope s.heap.objs.size f cd
 outer:=outer
 stack:=envOfC qual scope s.heap.objs.size f cd::outer
 ex:=[]
 calm:=true
 fn:=fun _=>true
 pn:=[]
 xe:=fun e s'=>wpAny (model P w) (A.deeper (envOfC qual scope s.heap.objs.size f cd)) («leaving» (envOfC qual scope s.heap.objs.size f cd) e) (fun _ s''=>CX outer H s E e s'') (fun e' s''=>CX outer H s E e' s'') s'
theorem Zr{sc:Scope}{n:Nat}(h:sc.names.lookup x=some .cell):∃c,(cellsFrom n sc.names []).lookup x=some c:=by
 have q:=jm8 sc.names n [] (.inl h);exact jg6.mp q
theorem V8{CX:CXT}{P:Program}{w:World}{mg:Str->Option Value}{N ps:List Str}{qual:Str}{scope:Scope}{f:Addr}{cd:Value}{outer:List Env}{s s1:Shared}{E:XK}{vs:List V}
 (S:CZ N ps scope)(hd:A.handled=none)(e0:Ux P w K mg base A outer s H)(hl:vs.length=ps.length)(r:Vals vs us)
 (x:InCallC s s.heap.objs.size (bindL (envOfC qual scope s.heap.objs.size f cd).kindOf (ps.zip us) fun _=>none) (cellsFrom (s.heap.objs.size+1) scope.names []) (bindC (envOfC qual scope s.heap.objs.size f cd).kindOf (ps.zip us) fun _=>none) s1):
 Inv (Qs CX P w K mg base N qual scope f cd A outer s H E) [] (start N vs) H s1:=by
 have hpl:ps.length<=N.length:=by have:=xy List.length S.pre;rw[jb6] at this;lia
 obtain⟨h1,tk,rfl,hk⟩:=x.done;have noA:∀b:Addr,b∉(Qs CX P w K mg base N qual scope f cd A outer s H E).ex:=fun b z=>absurd (show b∈([]:List Addr) from z) (by simp);refine⟨⟨e0.mod,S.kind,rfl,rfl,qg _,fun y z c h1 h2=>?_,fun y hy=>?_,fun y c _ h=>?_,fun _=>hd,Around.frames_deeper e0.frames,.inr ⟨rfl,rfl⟩,fun b z=>absurd z (noA b),e0.bs,e0.bsz,fun b _ _=>noA b,fun b z=>absurd z (noA b),e0.funs,e0.frf⟩,
  rfl,e0.bare,Un.kept hk,⟨_,x.toInCall.ns,fun i y v h1 h2 h3=>?_⟩,fun y c h=>⟨_,x.cell y c h⟩,e0.hok.fresh (qg _),fun y c h=>?_,fun p hp=>absurd (show p∈([]:List (Addr×Obj)) from hp) (by simp),e0.hok.kept hk,?_⟩
 ·exact name_of_addr x.apart (jh4 h1) (jh4 h2)
 ·have hy:scope.names.lookup y=some .cell\/scope.names.lookup y=some .free:=hy;rcases hy with hy | hy
  ·exact Zr hy
  ·exact absurd rfl (S.nofree _ (jh4 hy))
 ·exact jv7 (x.above y c (jh4 h))
 ·have hi:i<vs.length:=by
   unfold start at h2;by_cases hi:i<vs.length
   ·exact hi
   ·rw[jf3 (by simpa using hi)] at h2;rw[jt4] at h2;split at h2<;>cases h2
  have ha:vs[i]?=some v:=by
   unfold start at h2;rw[jj7 (by simpa using hi),qq] at h2;cases e:vs[i]? with
   | none=>rw[e] at h2;cases h2
   | some a=>rw[e] at h2;cases h2;rfl
  obtain⟨u,hu,rv⟩:=r.get ha;have hp:ps[i]?=some y:=by
   rw[<-S.pre,js3 ⋯];exact h1
  have ndP:ps.Nodup:=by rw[<-S.pre];exact S.nd.sublist (List.take_sublist _ _)
  refine⟨u,rv,?_⟩;rcases S.par y (xb hp) with k | k
  ·exact .inl ⟨k,Wc ndP hp hu k⟩
  ·obtain⟨c,e⟩:=Zr (n:=s.heap.objs.size+1) k;refine .inr ⟨.inl k,c,e,?_⟩;have q:=x.cell y c e;rw[Wg ndP hp hu (by show scope.names.lookup y≠_;rw[k];decide)] at q;exact q
 ·exact e0.hok.fresh (jv7 (x.above y c (jh4 h)))
 ·unfold start;show _=N.length;rw[qc,jp,jc0];lia
theorem xq{CX:CXT}{P:Program}{w:World}{mg:Str->Option Value}{k:Nat}{f:Addr}{name qual:Str}{params:Arguments}{body:List Stmt}{scope:Scope}{dV kV doc pm cdv ct oc:Value}{an od:Option Addr}
 {osl:Array (Option Value)}{N ps:List Str}{sp:Sp}(lk:K.lookup f=some ⟨oc,od,.func (PySem.W.fnOf name qual params body scope dV kV doc pm an cdv ct),osl⟩)(hcd:PySem.W.codeIn K cdv qual=true)(S:CZ N ps scope)
 (len:∀vs H Q E,sp vs H Q E->vs.length=ps.length)
 (hbody:∀(A:Around) (outer:List Env) (s:Shared) (H:Hp) (vs:List V) (Q:VK) (E:XK),Cv k (A.deeper (envOfC qual scope s.heap.objs.size f cdv))->sp vs H Q E->
  ∃t,PSs (Qs CX P w K mg base N qual scope f cdv A outer s H E) body t/\t { nx:=fun _ H'=>Q .non H',rt:=Q } (start N vs) H):
 Ei P w K mg base CX (k+1) f (PySem.W.fnOf name qual params body scope dV kV doc pm an cdv ct) ps sp:=by
 refine⟨len,fun A outer s H args us vs Q E hr e0 hb r hsp=>?_⟩;have hl:=len _ _ _ _ hsp;have KX:K.In s.heap:=e0.mod.kin.keeps fun b o e=>(e0.bs b o e).1;have lim:s.heap.NoLimit:=e0.mod.nolimit.keeps fun b o e=>(e0.bs b o e).1;have hkind:∀y∈ps.zip us,scope.names.lookup y.1=some .local\/(scope.names.lookup y.1=some .cell/\((cellsFrom (s.heap.objs.size+1) scope.names []).lookup y.1).isSome=true):=fun⟨n,v⟩ hy=>by
  rcases S.par n (jp6 hy).1 with q | q
  ·exact .inl q
  ·exact .inr ⟨q,jm8 _ _ _ (.inl q)⟩
 refine codeAny_call_function hr.depth (KX _ _ lk) rfl S.co S.gen rfl (PySem.W.codeRec_of KX hcd) (hb _ _ _ _ ?_);refine wpAny_newFunctionEnv_cells S.kind hkind fun env he s1 x=>?_;subst he;refine⟨lim.keeps x.toInCall.keep,codeAny_func ?_⟩;obtain⟨t,ht,hq⟩:=hbody A outer s H vs Q E (hr.deeper _) hsp;have I:Inv (Qs CX P w K mg base N qual scope f cdv A outer s H E) [] (start N vs) H s1:=V8 S hr.hd e0 hl r x;refine Qb (ht s1 (start N vs) H _ I hq) (fun fl s' hs=>?_) fun e s' hs=>hs;have fin:∀{Z':St} {H':Hp} {v:V} {u:Value},Inv (Qs CX P w K mg base N qual scope f cdv A outer s H E) [] Z' H' s'->RelV v u->Q v H'->CE outer P w H s Q u s':=
  fun{Z' H' v u} J rv q=>⟨v,H',J.os,J.bare,J.base,J.hok,rv,q⟩
 cases fl with
 | ret u=>
  obtain⟨v,Z',H',J,rv,q⟩:=hs;exact fin J rv q
 | next=>
  obtain⟨Z',H',J,q⟩:=hs;exact fin (v:=V.non) (u:=Value.none) J rfl q
 | brk=>
  obtain⟨_,_,_,q⟩:=hs;exact False.elim q
 | cont=>
  obtain⟨_,_,_,q⟩:=hs;exact False.elim q
section
variable{X:Cx}{x:Str}{p pos:Pos}{e:Expr}{es:List Expr}{t:TA}{id T:String}{r:List V->Hp->VK->Prop}
def tCB(r:List V->Hp->VK->Prop)(t:TA):TE:=fun Z H Q=>t Z H fun vs H1=>r vs H1 Q
theorem BL(hc:HS X (.builtin id) r)(hg:Gl X x)(hm:X.mg x=none)(hv:bootBuiltins x=some (.builtin id))(ha:PA X (e::es) t)(hn:x≠"__name__":=by decide)(hdb:(x==("__debug__":Str))=false:=by decide)
 (he:‹starEach (e::es) X.env=(false,eval e X.env)::starEach es X.env›)(hpl:‹(backTo pos (starEach es X.env)).any (·.1)=false›):PE X (.Call (.Name x p) (e::es) [] pos) (tCB r t):=by
 intro pins s Z H Q I h;refine ja1 (Hm I hg hm hv ?_ hn hdb);exact PyProof.Rows.callWith_builtin1 (thn (ha (pos:=pos) pins s Z H _ I h) fun us s1 ⟨vs,H1,I1,r1,q1⟩=>hc pins s1 Z H1 vs us Q I1 r1 q1) he hpl
theorem Bu(hc:HS X (.type T) r)(hg:Gl X x)(hm:X.mg x=none)(hv:bootBuiltins x=some (.type T))(ha:PA X (e::es) t)(hn:x≠"__name__":=by decide)(hdb:(x==("__debug__":Str))=false:=by decide)
 (he:‹starEach (e::es) X.env=(false,eval e X.env)::starEach es X.env›)(hpl:‹(backTo pos (starEach es X.env)).any (·.1)=false›):PE X (.Call (.Name x p) (e::es) [] pos) (tCB r t):=by
 intro pins s Z H Q I h;refine ja1 (Hm I hg hm hv ?_ hn hdb);exact ki (thn (ha (pos:=pos) pins s Z H _ I h) fun us s1 ⟨vs,H1,I1,r1,q1⟩=>hc pins s1 Z H1 vs us Q I1 r1 q1) he hpl
end
end L2
namespace HT
open PySem PyProof.Rows
section
open PySem.SeqAt
open PySem.AutoSeq1 (wpAny_loadPart')
open PySem.MeetsSeq PySem.MeetsSeq2 PySem.MeetsSeq3
end
section
variable{prog:Program}{w:World}{A:Around}{E:Value->Shared->Prop}{s:Shared}
noncomputable def sIx(n d:Nat):Option Int->Nat
 | none=>d
 | some v=>if v<0 then (v+(n:Int)).toNat else min v.toNat n
theorem sIx_none(n d:Nat):sIx n d none=d:=rfl
theorem sIx_nat(n d k:Nat):sIx n d (some (k:Int))=min k n:=by
 show(if (k:Int)<0 then ((k:Int)+(n:Int)).toNat else min (k:Int).toNat n)=min k n;rw[yb ⋯,zh]
theorem zV(n d:Nat)(hd:d<=n)(o:Option Int):sIx n d o<=n:=by
 cases o with
 | none=>exact hd
 | some v=>
  show(if v<0 then (v+(n:Int)).toNat else min v.toNat n)<=n;by_cases hv:v<0
  ·rw[xz hv];lia
  ·rw[yb hv];exact Nat.min_le_right _ _
theorem gJ(v:Int)(n d:Nat):(if v<0 then max (v+(n:Int)) 0 else min v (n:Int))=((sIx n d (some v):Nat):Int):=by
 show(if v<0 then max (v+(n:Int)) 0 else min v (n:Int))=(((if v<0 then (v+(n:Int)).toNat else min v.toNat n):Nat):Int);by_cases hv:v<0
 ·simp only[xz hv];lia
 ·simp only[yb hv];lia
theorem dH(lo hi:Option Int)(n:Nat):Builtin.Slice.sliceAdjust lo hi 1 (n:Int)=(((sIx n 0 lo:Nat):Int),((sIx n n hi:Nat):Int)):=by
 have h1:¬((1:Int)<0):=⋯;unfold Builtin.Slice.sliceAdjust;simp only[h1,if_false];refine Prod.ext ?_ ?_
 ·cases lo with
  | none=>rfl
  | some v=>exact gJ v n 0
 ·cases hi with
  | none=>rfl
  | some v=>exact gJ v n n
theorem bV(i j:Nat):Builtin.Slice.slicePlaces (i:Int) (j:Int) 1=j-i:=by
 unfold Builtin.Slice.slicePlaces;have h1:(1:Int)>0:=⋯;simp only[h1,if_true,Int.ediv_one];split<;>lia
theorem Rj{v:Value}{o:Option Int}{Q:Option Int->Shared->Prop}(p:IsPart v o)(h:Q o s):wpAny (model prog w) A (Builtin.Slice.slicePartIndex v) Q E s:=by
 cases p with
 | none=>exact slicePart_none h
 | int i t=>exact slicePart_int h
theorem Od{sl:Addr}{vl vu:Value}{lo hi:Option Int}{n:Nat}{Q:Int×Int×Nat->Shared->Prop}(hs:s.heap.IsSliceOf sl vl vu .none)(pl:IsPart vl lo)(pu:IsPart vu hi)
 (h:Q (((sIx n 0 lo:Nat):Int),1,sIx n n hi-sIx n 0 lo) s):wpAny (model prog w) A (Builtin.Slice.sliceApplied (.ref sl) (pure (n:Int))) Q E s:=by
 obtain⟨os,hos,hcs,hds⟩:=id hs;unfold Builtin.Slice.sliceApplied Builtin.Slice.sliceFields;refine js (js (jc6 hos hds (x:=vl) rfl (js (jc6 hos hds (x:=vu) rfl (js (jc6 hos hds (x:=.none) rfl (zt ?_)))))));refine js (slicePart_none ?_);show wpAny _ _ (if ((1:Int)==0)=true then _ else _) _ _ s;rw[yb nofun];refine js (Rj pl (js (Rj pu (js (zt ?_)))));show wpAny _ _ (match Builtin.Slice.sliceAdjust lo hi 1 (n:Int) with | (lo,hi)=>pure (lo,(1:Int),Builtin.Slice.slicePlaces lo hi 1)) _ _ s
 rw[dH lo hi n];show wpAny _ _ (pure (((sIx n 0 lo:Nat):Int),(1:Int),Builtin.Slice.slicePlaces ((sIx n 0 lo:Nat):Int) ((sIx n n hi:Nat):Int) 1)) _ _ s;rw[bV];exact zt h
theorem oR(xs:Array Value)(i k:Nat):((List.range k).filterMap fun(m:Nat)=>xs[((i:Int)+(m:Int)*1).toNat]?).toArray=((xs.toList.drop i).take k).toArray:=by
 have e:(fun (m:Nat)=>xs[((i:Int)+(m:Int)*1).toNat]?)=fun m=>xs[i+m]?:=by
  funext m
  have:((i:Int)+(m:Int)*1).toNat=i+m:=⋯;rw[this]
 rw[e];have:=pick_run xs i k;rw[List.filterMap_map] at this;have e2:((fun x=>xs[x]?) ∘ fun x=>i+x)=fun m=>xs[i+m]?:=rfl;rw[e2] at this;rw[this]
theorem getItem_tuple_cut{t sl:Addr}{items:Array Value}{vl vu:Value}{lo hi:Option Int}{Q:Value->Shared->Prop}(ht:IsTup s.heap t items)(hs:s.heap.IsSliceOf sl vl vu .none)(pl:IsPart vl lo)(pu:IsPart vu hi)
 (hw:¬(sIx items.size 0 lo=0/\sIx items.size items.size hi=items.size))
 (h:Q (.ref s.heap.objs.size) { s with heap:=s.heap.push { cls:=.type "tuple",data:=.seq ((items.toList.drop (sIx items.size 0 lo)).take (sIx items.size items.size hi-sIx items.size 0 lo)).toArray } })
 (hsz:items.size<=sizeLine):wpAny (model prog w) A (getItem (.ref t) (.ref sl)) Q E s:=by
 have htake:sizeOk (.seq ((items.toList.drop (sIx items.size 0 lo)).take (sIx items.size items.size hi-sIx items.size 0 lo)).toArray):=by
  show((items.toList.drop (sIx items.size 0 lo)).take (sIx items.size items.size hi-sIx items.size 0 lo)).toArray.size<=sizeLine;rw[xc,jb6,ja7,kg];lia
 have hj:sIx items.size items.size hi<=items.size:=zV _ _ (qg _) hi;obtain⟨os,hos,hcs,hds⟩:=id hs;have hTs:s.TypeIs (.ref sl) "slice":=⟨os,hos,hcs⟩;unfold getItem
 try with_reducible refine je5 ?_
 first | refine js (zt ?_) | skip
 refine js (wpAny_sequenceKey ht.typeIs nofun ?_);refine js (je4 (name:=Str.ofString "__getitem__") ht.typeIs jg7
  (jk5 jg7 ht.typeIs entry_tuple_getitem ?_ (args_tuple_getitem _ _)))
 show wpAny _ _ (Builtin.Tuple.tupleItemsOf (.ref t) >>= _) _ _ s;refine js (tupleItemsOf_ ht ?_);refine js (wpAny_typeOf hTs ?_);rw[xz nofun];refine js (Od hs pl pu ?_);have hno:¬((((sIx items.size 0 lo:Nat):Int)==0&&(1:Int)==1&&(sIx items.size items.size hi-sIx items.size 0 lo)==items.size)=true):=by
  intro q;rw[Jn,Jn] at q;have q1:((sIx items.size 0 lo:Nat):Int)=0:=eq_of_beq q.1.1;have q2:sIx items.size items.size hi-sIx items.size 0 lo=items.size:=eq_of_beq q.2;exact hw ⟨⋯,⋯⟩
 show wpAny _ _ (if (((sIx items.size 0 lo:Nat):Int)==0&&(1:Int)==1&&(sIx items.size items.size hi-sIx items.size 0 lo)==items.size)=true then _ else _) _ _ s;rw[yb hno,oR]
 first
  | exact js (m:=Builtin.Tuple.tupleExact _) (jd3 (zt ⟨_,rfl,zt h⟩) htake)
  | exact js (m:=Builtin.Tuple.tupleExact _) (jd3 (js (zt (zt ⟨_,rfl,zt h⟩))) htake)
  | exact js (js (m:=Builtin.Tuple.tupleExact _) (jd3 (zt (zt ⟨_,rfl,zt h⟩)) htake))
  | exact js (js (m:=Builtin.Tuple.tupleExact _) (jd3 (zt ⟨_,rfl,zt h⟩) htake))
end
end HT
namespace L2
open PySem PySem.Spec PyProof.Rows
noncomputable abbrev TO:=St->Hp->(Option Int->Hp->Prop)->Prop
def PO(X:Cx)(e:Option Expr)(t:TO):Prop:=
 ∀ ⦃pins:List (Addr×Obj)⦄ (s:Shared) (Z:St) (H:Hp) (Q:Option Int->Hp->Prop),Inv X pins Z H s->t Z H Q->
  wpAny (model X.prog X.w) X.A (evalPart e X.env) (fun u s'=>∃o H',Inv X pins Z H' s'/\IsPart u o/\Q o H') X.xe s
def dW:TO:=fun _ H Q=>Q none H
def wz(t:TE):TO:=fun Z H Q=>t Z H fun x H1=>∃i,x=.int i/\Q (some i) H1
theorem intsAre_of{ns:List Int}:∀{us:List Value},Vals (ns.map V.int) us->IntsAre us ns:=by
 induction ns with
 | nil=>intro us r;rw[jr0] at r;cases r;exact .nil
 | cons n ns ih=>
  intro us r;rw[zv] at r;cases r with
  | cons r1 r2=>
   obtain⟨t,e⟩:=r1;subst e;exact .cons n t (ih r2)
section
variable{X:Cx}{e:Expr}{te:TE}{lo hi:Option Expr}{tl th:TO}{pos p2:Pos}
theorem Fv:PO X none dW:=by
 intro pins s Z H Q I h;rw[evalPart_none];exact zt ⟨none,H,I,.none,h⟩
theorem Ft(h:PE X e te):PO X (some e) (wz te):=by
 intro pins s Z H Q I hw;rw[evalPart_some];refine thn (h s Z H _ I hw) fun u s1 hZ=>?_;obtain⟨x,H1,I1,r1,q1⟩:=hZ;obtain⟨i,rfl,q⟩:=q1;obtain⟨t,rfl⟩:=r1;exact⟨some i,H1,I1,.int i t,q⟩
def SlR(X:Cx)(r:V->Option Int->Option Int->Hp->VK->Prop):Prop:=
 ∀(pins:List (Addr×Obj)) (s:Shared) (Z:St) (H:Hp) (x:V) (v vl vu:Value) (lo hi:Option Int) (sl:Addr) (Q:VK),Inv X pins Z H s->RelV x v->s.heap.IsSliceOf sl vl vu .none->IsPart vl lo->IsPart vu hi->r x lo hi H Q->
  ∃T id,typeLookup (.type T) "__getitem__"=pure (some (.builtin id))/\s.TypeIs v T/\wpAny (model X.prog X.w) X.A (getItem v (.ref sl)) (EP X pins Z Q) X.xe s
def tSl(r:V->Option Int->Option Int->Hp->VK->Prop)(te:TE)(tl th:TO):TE:=fun Z H Q=>te Z H fun x H1=>tl Z H1 fun l H2=>th Z H2 fun u H3=>r x l u H3 Q
theorem Ep{r:V->Option Int->Option Int->Hp->VK->Prop}(hr:SlR X r)(he:PE X e te)(hl:PO X lo tl)(hu:PO X hi th):PE X (.Subscript e (.Slice lo hi none p2) pos) (tSl r te tl th):=by
 intro pins s Z H Q I h;refine Subscript_ (thn (he s Z H _ I h) fun v s1 hZ=>?_);obtain⟨x,H1,I1,r1,q1⟩:=hZ;refine wpAny_Slice (thn (hl s1 Z H1 _ I1 q1) fun vl s2 ⟨l,H2,I2,pl,q2⟩=>thn (hu s2 Z H2 _ I2 q2) fun vu s3 hZ=>?_);obtain⟨u,H3,I3,pu,q3⟩:=hZ;rw[evalPart_none];refine zt ?_;have I4:Inv X pins Z H3 { s3 with heap:=s3.heap.push { cls:=.type "slice",data:=.fields #[vl,vu,.none] } }:=I3.kept (t':=s3.toks) fun b ob q=>jv _ q;obtain⟨T,id,hT,ht,hg⟩:=hr pins { s3 with heap:=s3.heap.push { cls:=.type "slice",data:=.fields #[vl,vu,.none] } } Z H3 x v vl vu l u s3.heap.objs.size Q I4 r1 (Heap.IsSliceOf.new ..) pl pu q3;show wpAny (model X.prog X.w) X.A (subscriptTail e (.Slice lo hi none p2) v (.ref s3.heap.objs.size)) (EP X pins Z Q) X.xe { s3 with heap:=s3.heap.push { cls:=.type "slice",data:=.fields #[vl,vu,.none] } };exact tail_any (ops:=[.ref s3.heap.objs.size,v]) ht hT hg (by with_unfolding_all rfl)
noncomputable def Im(xs:List V)(lo hi:Option Int):List V:=(xs.drop (HT.sIx xs.length 0 lo)).take (HT.sIx xs.length xs.length hi-HT.sIx xs.length 0 lo)
theorem QD(xs:List V)(lo hi:Option Int):(Im xs lo hi).length<=xs.length:=by
 unfold Im;rw[jb6,ja7];lia
def ADb(K:Fr):V->Option Int->Option Int->Hp->VK->Prop:=fun x lo hi H Q=>∃a xs,x=.ref a/\SqT K H a xs/\
 ¬(HT.sIx xs.length 0 lo=0/\HT.sIx xs.length xs.length hi=xs.length)/\∀p,H p=none->Q (.ref p) (upd H p (.tup (Im xs lo hi)))
theorem zM:SlR X (ADb X.K):=by
 intro pins s Z H x v vl vu lo hi sl Q I rx hs pl pu h;obtain⟨a,xs,rfl,hx,hw,q⟩:=h;cases rx;obtain⟨its,r,ht,hz⟩:=I.tuple hx;have hlen:its.toArray.size=xs.length:=by rw[xc];exact r.length.symm
 refine⟨"tuple",_,jg7.lookup,ht.typeIs,?_⟩;refine HT.getItem_tuple_cut ht hs pl pu (by rw[hlen];exact hw) ?_ (by rw[hlen];exact hz);rw[hlen];refine⟨.ref s.heap.objs.size,_,I.laid (t':=s.toks) (o:=.tup (Im xs lo hi)) (fun b ob q=>jv _ q) (qg _) ?_,rfl,q _ (I.hok.fresh (qg _))⟩;exact⟨qr (QD xs lo hi) hz,_,(r.drop (HT.sIx xs.length 0 lo)).take (HT.sIx xs.length xs.length hi-HT.sIx xs.length 0 lo),IsTup.new _ _⟩
end
noncomputable def ixN(n:Nat)(i:Int):Option Nat:=if 0<=i then (if i<n then some i.toNat else none) else if -(n:Int)<=i then some (i+n).toNat else none
noncomputable def atI{α:Type}(xs:List α)(i:Int):Option α:=(ixN xs.length i).bind fun j=>xs[j]?
theorem fW{n:Nat}{i:Int}{j:Nat}(h:ixN n i=some j):seqIndex? i n=some j/\j<n/\ -(n:Int)<=i/\i<n:=by
 unfold ixN at h;by_cases h0:0<=i
 ·rw[xz h0] at h;by_cases h1:i<n
  ·rw[xz h1] at h;have e:i.toNat=j:=ua h;exact⟨by rw[seqIndex_of h0 h1,e],⋯,⋯,h1⟩
  ·rw[yb h1] at h;cases h
 ·rw[yb h0] at h;by_cases h1: -(n:Int)<=i
  ·rw[xz h1] at h;have e:(i+n).toNat=j:=ua h;exact⟨by rw[seqIndex_neg ⋯ h1,e],⋯,h1,⋯⟩
  ·rw[yb h1] at h;cases h
theorem YS{α:Type}{xs:List α}{i:Int}{v:α}(h:atI xs i=some v):∃j,seqIndex? i xs.length=some j/\xs[j]?=some v/\j<xs.length/\ -(xs.length:Int)<=i/\i<xs.length:=by
 unfold atI at h;cases e:ixN xs.length i with
 | none=>rw[e] at h;cases h
 | some j=>
  rw[e] at h;obtain⟨h1,h2,h3,h4⟩:=fW e;exact⟨j,h1,h,h2,h3,h4⟩
theorem DY{α:Type}{xs:List α}{j:Nat}{v:α}(h:xs[j]?=some v):atI xs (j:Int)=some v:=by
 have hj:j<xs.length:=(xp.mp h).1;have e:ixN xs.length (j:Int)=some j:=by
  unfold ixN;rw[xz ⋯,xz ⋯];simp
 unfold atI;rw[e];exact h
def wX(b:Expr):Prop:=∀o i,subscripted b false o i=operate [o,i] (getItem o i)
def IxR(X:Cx)(r:R2):Prop:=
 ∀(value slice:Expr) (pins:List (Addr×Obj)) (s:Shared) (Z:St) (H:Hp) (x y:V) (v u:Value) (Q:VK),Inv X pins Z H s->RelV x v->RelV y u->r x y H Q->
  subscripted slice false v u=operate [v,u] (getItem v u)->wpAny (model X.prog X.w) X.A (subscriptTail value slice v u) (EP X pins Z Q) X.xe s
def MtR(X:Cx)(id:String)(r:V->List V->Hp->VK->Prop):Prop:=
 ∀(pins:List (Addr×Obj)) (s:Shared) (Z:St) (H:Hp) (x:V) (xs:List V) (v:Value) (us:List Value) (Q:VK),Inv X pins Z H s->RelV x v->Vals xs us->r x xs H Q->
  wpAny (model X.prog X.w) X.A (call (.builtin id) (v::us)) (EP X pins Z Q) X.xe s
section
variable{X:Cx}{a b:Expr}{ta tb:TE}{pos:Pos}
theorem CQ{r:R2}(hr:IxR X r)(ha:PE X a ta)(hb:PE X b tb)(hs:wX b:=by exact fun _ _=>rfl):PE X (.Subscript a b pos) (tOp r ta tb):=by
 intro pins s Z H Q I h;exact Subscript_ (ABH ha hb I h fun v u s2 x y H2 I2 rx ry q=>hr a b pins s2 Z H2 x y v u Q I2 rx ry q (hs _ _))
def uZ(K:Fr):R2:=fun x y H Q=>∃p xs i v,x=.ref p/\y=.int i/\SqL K H p xs/\atI xs i=some v/\Q v H
def uY(K:Fr):R2:=fun x y H Q=>∃p xs i v,x=.ref p/\y=.int i/\SqT K H p xs/\atI xs i=some v/\Q v H
def ADd:R2:=fun x y H Q=>∃z i c,x=.str z/\y=.int i/\z.length<=sizeLine/\atI z.cps.toList i=some c/\Q (.str ⟨#[c]⟩) H
theorem Ce:IxR X (uZ X.K):=by
 intro value slice pins s Z H x y v u Q I rx ry h hs;obtain⟨p,xs,i,z,rfl,rfl,hq,he,q⟩:=h;cases rx;obtain⟨t,rfl⟩:=ry;obtain⟨its,r,pl,hz⟩:=I.list hq;obtain⟨j,h1,h2,h3,h4,h5⟩:=YS he;obtain⟨w,ew,rw'⟩:=r.get h2;have hl:=r.length;have hn:=MP;have fin:EP X pins Z Q w s:=⟨z,H,I,rw',q⟩;by_cases h0:0<=i
 ·have hj:i.toNat=j:=by
   rw[seqIndex_of h0 h5] at h1;exact ua h1
  exact item_listR pl.isList h0 ⋯ (by rw[hj];simpa using ew) fin hs
 ·have hj:(i+(its.toArray.size:Int)).toNat=j:=by
   rw[seqIndex_neg ⋯ h4] at h1;rw[xc,<-hl];exact ua h1
  exact subscriptTail_builtinR (x:=w) pl.isList.typeIs slot_list_getitem.lookup
   (wpAny_getItem_list_neg (Q:=fun r s'=>r=w/\EP X pins Z Q r s') pl.isList ⋯ (by rw[xc]<;>lia) ⋯ (by rw[hj];simpa using ew) ⟨rfl,fin⟩) hs
theorem Hn:IxR X (uY X.K):=by
 intro value slice pins s Z H x y v u Q I rx ry h hs;obtain⟨p,xs,i,z,rfl,rfl,hq,he,q⟩:=h;cases rx;obtain⟨t,rfl⟩:=ry;obtain⟨its,r,pl,hz⟩:=I.tuple hq;obtain⟨j,h1,h2,h3,h4,h5⟩:=YS he;obtain⟨w,ew,rw'⟩:=r.get h2;have hl:=r.length;have hn:=MP;have fin:EP X pins Z Q w s:=⟨z,H,I,rw',q⟩;exact subscriptTail_builtinR (x:=w) pl.typeIs slot_tuple_getitem.lookup
  (getItem_tuple (j:=j) (Q:=fun r s'=>r=w/\EP X pins Z Q r s') pl ⋯ ⋯ (by rw[xc,<-hl];exact h1) (by simpa using ew) ⟨rfl,fin⟩) hs
theorem qH:IxR X ADd:=by
 intro value slice pins s Z H x y v u Q I rx ry h hs;obtain⟨z,i,c,rfl,rfl,hz,he,q⟩:=h;obtain⟨t,rfl⟩:=rx;obtain⟨t',rfl⟩:=ry;obtain⟨j,h1,h2,h3,h4,h5⟩:=YS he;have hl:z.cps.toList.length=z.length:=by simp[Str.length]
 rw[hl] at h1 h4 h5;have hn:=MP;exact tail_any (typeIs_str s z t) slot_str_getitem.lookup (getItem_str (c:=c) (by
  have e1:decide (i< -(2^63:Int))=false:=decide_eq_false ⋯;have e2:decide (i>=2^63)=false:=decide_eq_false ⋯;rw[e1,e2,jo8]) (by rw[h1];simpa using h2) ⟨.str ⟨#[c]⟩,H,I.tok _,⟨_,rfl⟩,q⟩) hs
theorem cC(its:List Value)(n j:Nat)(u:Value):Obj.mapSeq (·.setIfInBounds j u) { cls:=.type "list",data:=.seq its.toArray n }={ cls:=.type "list",data:=.seq (its.set j u).toArray n }:=by
 simp[Obj.mapSeq]
theorem Inv.lst{pins:List (Addr×Obj)}{Z:St}{H:Hp}{s:Shared}{p:Addr}{xs:List V}(I:Inv X pins Z H s)(h:H p=some (.lst xs)):
 ∃(its:List Value) (n:Nat),Vals xs its/\s.heap.get? p=some { cls:=.type "list",data:=.seq its.toArray n }/\xs.length<=sizeLine:=by
 obtain⟨z,its,n,r,e⟩:=I.hok p _ h;exact⟨its,n,r,e,z⟩
theorem Inv.lstUpd{pins:List (Addr×Obj)}{Z:St}{H:Hp}{s:Shared}{p:Addr}{xs ys:List V}{its its':List Value}{n n':Nat}{f:Obj->Obj}(I:Inv X pins Z H s)(h:H p=some (.lst xs))
 (ho:s.heap.get? p=some { cls:=.type "list",data:=.seq its.toArray n })(hf:f { cls:=.type "list",data:=.seq its.toArray n }={ cls:=.type "list",data:=.seq its'.toArray n' })(r:Vals ys its')(hz:ys.length<=sizeLine)(t:Nat):
 Inv X pins Z (upd H p (.lst ys)) { s with heap:=s.heap.update p f,toks:=t }:=by
 have e:(s.heap.update p f).get? p=some { cls:=.type "list",data:=.seq its'.toArray n' }:=by
  rw[jf6 f ho (by rw[hf]<;>rfl),hf]
 refine I.write (x:=p) (e:=p) (by rw[h];trivial) (.inl rfl) (fun b u hb q=>(ko _ _ (Ne.symm hb)).trans q) ⟨_,e⟩ ?_;exact⟨hz,its',n',r,e⟩
def xQ:V->V->V->Hp->(Hp->Prop)->Prop:=fun o i v H Q=>∃p xs k j,o=.ref p/\i=.int k/\H p=some (.lst xs)/\ixN xs.length k=some j/\Q (upd H p (.lst (xs.set j v)))
theorem set_list:ACx X xQ:=by
 intro pins s Z H o i v ov iv u Q I ro ri rv h;obtain⟨p,xs,k,j,rfl,rfl,hp,hj,q⟩:=h;cases ro;obtain⟨t,rfl⟩:=ri;obtain⟨its,n,r,ho,hz⟩:=I.lst hp;obtain⟨h1,h2,h3,h4⟩:=fW hj;have hl:=r.length;have hn:=MP;have I':Inv X pins Z (upd H p (.lst (xs.set j v))) { s with heap:=s.heap.update p (Obj.mapSeq (·.setIfInBounds j u)) }:=
  I.lstUpd hp ho (cC its n j u) (r.set rv j) (by rw[List.length_set];exact hz) s.toks
 by_cases h0:0<=k
 ·have hk:k.toNat=j:=by
   rw[seqIndex_of h0 h4] at h1;exact ua h1
  exact PySem.W.ki_setAt ho h0 ⋯ (by rw[xc,<-hl];exact h4) (by rw[hk];exact⟨_,I',q⟩)
 ·have hk:(k+(its.toArray.size:Int)).toNat=j:=by
   rw[seqIndex_neg ⋯ h3] at h1;rw[xc,<-hl];exact ua h1
  exact PySem.W.ki_setBack ho ⋯ (by rw[xc,<-hl];exact h3) ⋯ (by rw[hk];exact⟨_,I',q⟩)
theorem W2(lo hi:Option Int)(n:Nat):(sliceBounds lo hi none n).1=((HT.sIx n 0 lo:Nat):Int)/\(sliceBounds lo hi none n).2.1=((HT.sIx n n hi:Nat):Int)/\(sliceBounds lo hi none n).2.2=1:=by
 refine⟨?_,?_,rfl⟩
 ·cases lo with
  | none=>simp[sliceBounds,HT.sIx]
  | some i=>
   simp only[sliceBounds,HT.sIx,Option.getD_none,show(1:Int)>0 by decide,if_true];by_cases h:i<0
   ·simp only[h,if_true]<;>lia
   ·simp only[h,if_false]<;>lia
 ·cases hi with
  | none=>simp[sliceBounds,HT.sIx]
  | some i=>
   simp only[sliceBounds,HT.sIx,Option.getD_none,show(1:Int)>0 by decide,if_true];by_cases h:i<0
   ·simp only[h,if_true]<;>lia
   ·simp only[h,if_false]<;>lia
theorem U5(its:List Value)(lo hi:Option Int):slicePick its.toArray lo hi none=((its.drop (HT.sIx its.length 0 lo)).take (HT.sIx its.length its.length hi-HT.sIx its.length 0 lo)).toArray:=by
 obtain⟨h1,h2,h3⟩:=W2 lo hi its.toArray.size;unfold slicePick;rw[h1,h2,h3];simp only[sliceRange_one,pick_run,xc]<;>rfl
def ACP(K:Fr):V->Option Int->Option Int->Hp->VK->Prop:=fun x lo hi H Q=>∃a xs,x=.ref a/\SqL K H a xs/\∀p,H p=none->Q (.ref p) (upd H p (.lst (Im xs lo hi)))
theorem JM:SlR X (ACP X.K):=by
 intro pins s Z H x v vl vu lo hi sl Q I rx hs pl pu h;obtain⟨a,xs,rfl,hx,q⟩:=h;cases rx;obtain⟨its,r,ht,hz⟩:=I.list hx;have hlen:=r.length;refine⟨"list",_,slot_list_getitem.lookup,ht.isList.typeIs,?_⟩;refine wpAny_getItem_list_slice ht.isList hs pl pu .none (by simp) ?_ (by rw[xc]<;>lia);rw[U5,<-hlen];refine⟨.ref s.heap.objs.size,_,I.laid (t':=s.toks) (o:=.lst (Im xs lo hi)) (fun b ob q=>jv _ q) (qg _) ?_,rfl,q _ (I.hok.fresh (qg _))⟩;exact⟨qr (QD xs lo hi) hz,_,0,(r.drop (HT.sIx xs.length 0 lo)).take (HT.sIx xs.length xs.length hi-HT.sIx xs.length 0 lo),xa _ rfl⟩
noncomputable def Ho:V->Bool
 | .non=>true
 | .bl _=>true
 | .int _=>true
 | .str _=>true
 | _=>false
noncomputable def eqV:V->V->Bool
 | .non,.non=>true
 | .bl a,.bl b=>a==b
 | .bl a,.int b=>(if a then 1 else 0)==b
 | .int a,.bl b=>a==(if b then 1 else 0)
 | .int a,.int b=>a==b
 | .str a,.str b=>a==b
 | _,_=>false
theorem qZ{A:Around}{s:Shared}{y x:V}{u v:Value}(ry:RelV y u)(rx:RelV x v)(fy:Ho y=true)(fx:Ho x=true):SeqAt.EqAt A s u v (eqV y x):=by
 cases y with
 | non=>
  cases ry;cases x with
  | non=>cases rx;exact SeqAt.EqAt.same _
  | bl b=>cases rx;exact SeqAt.EqAt.none_bool b
  | int b=>obtain⟨t,rfl⟩:=rx;exact SeqAt.EqAt.none_int b t
  | str b=>obtain⟨t,rfl⟩:=rx;exact SeqAt.EqAt.none_str b t
  | _=>exact absurd (show false=true from fx) zk
 | bl a=>
  cases ry;cases x with
  | non=>cases rx;exact SeqAt.EqAt.bool_none a
  | bl b=>cases rx;exact SeqAt.EqAt.bool_bool a b
  | int b=>obtain⟨t,rfl⟩:=rx;exact SeqAt.EqAt.bool_int a b t
  | str b=>obtain⟨t,rfl⟩:=rx;exact SeqAt.EqAt.bool_str a b t
  | _=>exact absurd (show false=true from fx) zk
 | int a=>
  obtain⟨t',rfl⟩:=ry;cases x with
  | non=>cases rx;exact SeqAt.EqAt.int_none a t'
  | bl b=>cases rx;exact SeqAt.EqAt.int_bool a t' b
  | int b=>obtain⟨t,rfl⟩:=rx;exact SeqAt.EqAt.int_int a t' b t
  | str b=>obtain⟨t,rfl⟩:=rx;exact SeqAt.EqAt.int_str a t' b t
  | _=>exact absurd (show false=true from fx) zk
 | str a=>
  obtain⟨t',rfl⟩:=ry;cases x with
  | non=>cases rx;exact SeqAt.EqAt.str_none a t'
  | bl b=>cases rx;exact SeqAt.EqAt.str_bool a t' b
  | int b=>obtain⟨t,rfl⟩:=rx;exact SeqAt.EqAt.str_int a t' b t
  | str b=>obtain⟨t,rfl⟩:=rx;exact SeqAt.EqAt.str_str a t' b t
  | _=>exact absurd (show false=true from fx) zk
 | _=>exact absurd (show false=true from fy) zk
noncomputable def eqU(x:V)(u:Value):Bool:=match u with
 | .none=>eqV .non x
 | .bool b=>eqV (.bl b) x
 | .int i _=>eqV (.int i) x
 | .str z _=>eqV (.str z) x
 | _=>false
theorem qY{x y:V}{u:Value}(r:RelV y u)(f:Ho y=true):eqU x u=eqV y x:=by
 cases y with
 | non=>cases r;rfl
 | bl b=>cases r;rfl
 | int i=>obtain⟨t,rfl⟩:=r;rfl
 | str z=>obtain⟨t,rfl⟩:=r;rfl
 | _=>exact absurd (show false=true from f) zk
theorem N5{x:V}:∀{xs:List V} {us:List Value},Vals xs us->xs.all Ho=true->us.any (eqU x)=xs.any fun y=>eqV y x
 | _,_,.nil,_=>rfl
 | y::xs,u::us,.cons r t,f=>by
  rw[jl7,Jn] at f;rw[jj1,jj1,qY r f.1,N5 t f.2]
theorem KQ{A:Around}{s:Shared}{x:V}{v:Value}(rx:RelV x v)(fx:Ho x=true):∀{xs:List V} {us:List Value},Vals xs us->xs.all Ho=true->∀u∈us,SeqAt.EqAt A s u v (eqU x u)
 | _,_,.nil,_=>fun u hu=>by cases hu
 | y::xs,u::us,.cons r t,f=>fun u' hu=>by
  rw[jl7,Jn] at f;rcases qf.mp hu with rfl | hu
  ·rw[qY r f.1];exact qZ r rx f.1 fx
  ·exact KQ rx fx t f.2 u' hu
noncomputable def inV(x:V)(xs:List V):Bool:=xs.any fun y=>eqV y x
def rIn(K:Fr)(neg:Bool):R2:=fun x y H Q=>∃p xs,y=.ref p/\(SqL K H p xs\/SqT K H p xs)/\Ho x=true/\xs.all Ho=true/\Q (.bl (if neg then !inV x xs else inV x xs)) H
theorem jB:OpR X (compareOp .In) (rIn X.K false):=by
 intro pins s Z H x y v u Q I rx ry h;obtain⟨p,xs,rfl,hq,fx,fs,q⟩:=h;cases ry;rcases hq with hq | hq
 ·obtain⟨its,r,pl,hz⟩:=I.list hq;refine SeqAt.in_listAt (eqU x) pl.isList (fun w hw=>KQ rx fx r fs w (by simpa using hw)) ⟨.bl _,H,I,rfl,?_⟩;rw[show its.toArray.any (eqU x)=its.any (eqU x) by simp,N5 r fs];exact q
 ·obtain⟨its,r,pl,hz⟩:=I.tuple hq;refine SeqAt.in_tupleAt (eqU x) pl (fun w hw=>KQ rx fx r fs w (by simpa using hw)) ⟨.bl _,H,I,rfl,?_⟩;rw[show its.toArray.any (eqU x)=its.any (eqU x) by simp,N5 r fs];exact q
theorem Xj:OpR X (compareOp .NotIn) (rIn X.K true):=by
 intro pins s Z H x y v u Q I rx ry h;obtain⟨p,xs,rfl,hq,fx,fs,q⟩:=h;cases ry;rcases hq with hq | hq
 ·obtain⟨its,r,pl,hz⟩:=I.list hq;refine SeqAt.notIn_listAt (eqU x) pl.isList (fun w hw=>KQ rx fx r fs w (by simpa using hw)) ⟨.bl _,H,I,rfl,?_⟩;rw[show its.toArray.any (eqU x)=its.any (eqU x) by simp,N5 r fs];exact q
 ·obtain⟨its,r,pl,hz⟩:=I.tuple hq;refine SeqAt.notIn_tupleAt (eqU x) pl (fun w hw=>KQ rx fx r fs w (by simpa using hw)) ⟨.bl _,H,I,rfl,?_⟩;rw[show its.toArray.any (eqU x)=its.any (eqU x) by simp,N5 r fs];exact q
theorem BR:HS X (.builtin "len") (fun xs H Q=>∃p ys,xs=[.ref p]/\(SqL X.K H p ys\/SqT X.K H p ys)/\Q (.int ys.length) H):=by
 intro pins s Z H xs us Q I r h;obtain⟨p,ys,rfl,hq,q⟩:=h;obtain⟨u,rfl,rx⟩:=vals1 r;cases rx;have hn:=MP;rcases hq with hq | hq
 ·obtain⟨its,r',pl,hz⟩:=I.list hq;have hlen:=r'.length;exact Calls.call_len_list pl.isList (by simp only[xc]<;>lia) ⟨.int ys.length,H,I.tok _,⟨s.toks+1,by rw[xc,hlen]⟩,q⟩
 ·obtain⟨its,r',pl,hz⟩:=I.tuple hq;have hlen:=r'.length;exact len_tuple pl (by simp only[xc]<;>lia) ⟨.int ys.length,H,I.tok _,⟨s.toks+1,by rw[xc,hlen]⟩,q⟩
theorem Dw:HS X (.builtin "len") (fun xs H Q=>∃z,xs=[.str z]/\z.length<=sizeLine/\Q (.int z.length) H):=by
 intro pins s Z H xs us Q I r h;obtain⟨z,rfl,hz,q⟩:=h;obtain⟨u,rfl,t,rfl⟩:=vals1 r;have hn:=MP;exact len_str ⋯ ⟨.int z.length,H,I.tok _,⟨_,rfl⟩,q⟩
theorem YD:HS X (.type "list") (fun xs H Q=>∃p ys,xs=[.ref p]/\(SqL X.K H p ys\/SqT X.K H p ys)/\∀l,H l=none->Q (.ref l) (upd H l (.lst ys))):=by
 intro pins s Z H xs us Q I r h;obtain⟨p,ys,rfl,hq,q⟩:=h;obtain⟨u,rfl,rx⟩:=vals1 r;cases rx;have fin:∀(its:List Value),Vals ys its->ys.length<=sizeLine->∀(h':Heap) (c':Nat),(∀b o',s.heap.get? b=some o'->h'.get? b=some o')->
  h'.get? s.heap.objs.size=some { cls:=.type "list",dict:=none,data:=.seq its.toArray c',slots:= #[] }->EP X pins Z Q (.ref s.heap.objs.size) { s with heap:=h' }:=fun its r' hz h' c' kp e=>
  ⟨.ref s.heap.objs.size,_,I.laid (t':=s.toks) kp (qg _) (show Ef X.prog X.w _ h' _ (.lst ys) from ⟨hz,its,c',r',e⟩),rfl,q _ (I.hok.fresh (qg _))⟩
 rcases hq with hq | hq
 ·obtain⟨its,r',pl,hz⟩:=I.list hq;have hlen:=r'.length;obtain⟨o,ho,hc,n,hd⟩:=pl.isList;exact call_list_seq p (.inl rfl) ho hc hd (fun h' c' kp e=>fin its r' hz h' c' kp e) (by simp only[xc]<;>lia)
 ·obtain⟨its,r',pl,hz⟩:=I.tuple hq;have hlen:=r'.length;obtain⟨o,ho,hc,n,hd⟩:=pl;exact call_list_seq p (.inr rfl) ho hc hd (fun h' c' kp e=>fin its r' hz h' c' kp e) (by simp only[xc]<;>lia)
theorem Ip:HS X (.type "tuple") (fun xs H Q=>∃p ys,xs=[.ref p]/\((SqL X.K H p ys/\∀l,H l=none->Q (.ref l) (upd H l (.tup ys)))\/(SqT X.K H p ys/\Q (.ref p) H))):=by
 intro pins s Z H xs us Q I r h;obtain⟨p,ys,rfl,h⟩:=h;obtain⟨u,rfl,rx⟩:=vals1 r;cases rx;rcases h with ⟨hq,q⟩ | ⟨hq,q⟩
 ·obtain⟨its,r',pl,hz⟩:=I.list hq;have hlen:=r'.length;refine call_tuple_list pl.isList (fun h' kp=>?_) (by simp only[xc]<;>lia);have I1:Inv X pins Z H { s with heap:=h' }:=I.kept (t':=s.toks) kp;have I2:Inv X pins Z (upd H h'.objs.size (.tup ys)) { s with heap:=h'.push { cls:=.type "tuple",data:=.seq its.toArray } }:=
   I1.laid (t':=s.toks) (fun b o e=>jv _ e) (qg _) (show Ef X.prog X.w _ _ _ (.tup ys) from ⟨hz,its,r',IsTup.new _ _⟩)
  exact⟨.ref h'.objs.size,_,I2,rfl,q _ (I1.hok.fresh (qg _))⟩
 ·obtain⟨its,r',pl,hz⟩:=I.tuple hq;exact call_tuple_same pl ⟨.ref p,H,I,rfl,q⟩
def tyV(K:Fr)(T:String)(x:V)(H:Hp):Prop:=match x with
 | .str _=>T="str"
 | .int _=>T="int"
 | .ref p=>(T="list"/\∃xs,SqL K H p xs)\/(T="tuple"/\∃o,K.lookup p=some o/\o.cls=.type "tuple"/\o.dict=none)\/
  (T="dict"/\((∃kvs,H p=some (.dK kvs))\/∃kvs,H p=some (.dT kvs)))\/(T="set"/\∃S n,H p=some (.set S n))
 | _=>False
theorem Wm{pins:List (Addr×Obj)}{Z:St}{H:Hp}{s:Shared}{T:String}{x:V}{v:Value}(I:Inv X pins Z H s)(r:RelV x v)(ty:tyV X.K T x H):
 s.TypeIs v T/\∀a,v=.ref a->∃ob,s.heap.get? a=some ob/\ob.dict=none:=by
 cases x with
 | str z=>
  obtain⟨t,rfl⟩:=r;cases (show T="str" from ty);exact⟨typeIs_str s z t,fun _ e=>nomatch e⟩
 | int i=>
  obtain⟨t,rfl⟩:=r;cases (show T="int" from ty);exact⟨typeIs_int s i t,fun _ e=>nomatch e⟩
 | ref p=>
  cases r;rcases ty with ⟨rfl,xs,hq⟩ | ⟨rfl,o,hk,hc,hd⟩ | ⟨rfl,hk⟩ | ⟨rfl,S,n,hk⟩
  ·obtain⟨its,_,pl,_⟩:=I.list hq;refine⟨pl.isList.typeIs,fun a e=>?_⟩;cases e;obtain⟨o,n,e,c,hd,_⟩:=pl;exact⟨o,e,hd⟩
  ·refine⟨⟨o,I.kIn p o hk,hc⟩,fun a e=>?_⟩;cases e;exact⟨o,I.kIn _ o hk,hd⟩
  ·have z:∃o,s.heap.get? p=some o/\o.ExactDict:=by
    rcases hk with ⟨kvs,hk⟩ | ⟨kvs,hk⟩
    ·obtain⟨_,_,_,_,o,_,_,e,ex,_⟩:=I.hok p _ hk;exact⟨o,e,ex⟩
    ·obtain⟨_,_,_,_,o,_,_,e,ex,_⟩:=I.hok p _ hk;exact⟨o,e,ex⟩
   obtain⟨o,e,ex⟩:=z;refine⟨⟨o,e,ex.1⟩,fun a e2=>?_⟩;cases e2;exact⟨o,e,ex.2.1⟩
  ·obtain⟨o,_,_,_,e,ex,_⟩:=I.hok p _ hk;refine⟨⟨o,e,ex.1⟩,fun a e2=>?_⟩;cases e2;exact⟨o,e,ex.2.1⟩
 | _=>exact False.elim ty
def ABl(K:Fr)(T:String)(r:V->List V->Hp->VK->Prop)(to:TE):TE:=fun Z H Q=>to Z H fun x H1=>tyV K T x H1/\r x [] H1 Q
def tBM(K:Fr)(T:String)(r:V->List V->Hp->VK->Prop)(to:TE)(t:TA):TE:=fun Z H Q=>to Z H fun x H1=>tyV K T x H1/\t Z H1 fun xs H2=>r x xs H2 Q
variable{o e:Expr}{es:List Expr}{to:TE}{t:TA}{name:Str}{apos cpos:Pos}{T id:String}{r:V->List V->Hp->VK->Prop}
theorem Xg(pa:PlainAttrs T)(slot:Slot T name id)(hty:typeOf (.builtin id)=pure (.type "method_descriptor"))(hm:MtR X id r)(ho:PE X o to)
 (hbase:‹attributeBase o name X.env (eval o X.env)=eval o X.env›)(hline:‹(apos.endLine==cpos.line)=true›):PE X (.Call (.Attribute o name apos) [] [] cpos) (ABl X.K T r to):=by
 intro pins s Z H Q I h;refine wpAny_Call_method0_late hbase hline (thn (ho s Z H _ I h) fun v s1 hZ=>?_);obtain⟨x,H1,I1,r1,ty,q1⟩:=hZ;obtain⟨h1,h2⟩:=Wm I1 r1 ty;exact⟨T,id,pa,slot,hty,h1,h2,Calls.callWith_builtin rfl (PySem.evalArgs_none (hm pins s1 Z H1 x [] v [] Q I1 r1 .nil q1))⟩
theorem FP(pa:PlainAttrs T)(slot:Slot T name id)(hty:typeOf (.builtin id)=pure (.type "method_descriptor"))(hm:MtR X id r)(ho:PE X o to)(ha:PA X (e::es) t)
 (hbase:‹attributeBase o name X.env (eval o X.env)=eval o X.env›)
 (hfew:‹((backTo cpos (starEach (e::es) X.env)).all (fun x=>!x.1)&&(backToKw cpos (keywordEach [] X.env)).all (fun x=>x.1.isSome)
  &&decide ((e::es).length+([]:List Keyword).length+(if ([]:List Keyword).isEmpty then 0 else 1)<30))=true›)
 (hline:‹(apos.endLine==cpos.line)=true›)(hs:‹starEach (e::es) X.env=(false,eval e X.env)::starEach es X.env›)(hplain:‹(backTo cpos (starEach es X.env)).any (·.1)=false›):
 PE X (.Call (.Attribute o name apos) (e::es) [] cpos) (tBM X.K T r to t):=by
 intro pins s Z H Q I h;refine jm9 hbase hfew hline rfl (thn (ho s Z H _ I h) fun v s1 hZ=>?_);obtain⟨x,H1,I1,r1,ty,q1⟩:=hZ;obtain⟨h1,h2⟩:=Wm I1 r1 ty;refine⟨T,id,pa,slot,hty,h1,h2,?_⟩;have hA:=ha (pos:=cpos) pins s1 Z H1 _ I1 q1;rw[hs] at hA ⊢;refine Calls.callWith_builtin (by show(false||(backTo cpos (starEach es X.env)).any (·.1))=false;rw[hplain]<;>rfl) (Calls.evalArgs_plain ?_);exact thn hA fun us s2 ⟨vs,H2,I2,r2,q2⟩=>hm pins s2 Z H2 x vs v us Q I2 r1 r2 q2
end
def MtM(X:Cx)(id:String)(r:V->List V->Hp->VK->Prop):Prop:=
 ∀(pins:List (Addr×Obj)) (s:Shared) (Z:St) (H:Hp) (x:V) (xs:List V) (v:Value) (us:List Value) (Q:VK),Inv X pins Z H s->RelV x v->Vals xs us->r x xs H Q->
  wpAny (model X.prog X.w) X.A (call (.builtin id) (v::us)) (EP X pins Z Q) X.xe s
theorem Vals.one{x:V}{us:List Value}(h:Vals [x] us):∃u,us=[u]/\RelV x u:=by cases h with | cons r h=>cases h;exact⟨_,rfl,r⟩
theorem Vals.zero:∀{us:List Value},Vals [] us->us=[]
 | _,.nil=>rfl
theorem Vals.rep{xs:List V}{us:List Value}(h:Vals xs us):∀k:Nat,Vals (List.replicate k xs).flatten (List.replicate k us).flatten
 | 0=>.nil
 | k+1=>by
  rw[ja4,ja4,kc,kc];exact Vals.append h (Vals.rep h k)
theorem foldl_rep(its:List Value):∀(k:Nat) (acc:List Value),
 List.foldl (fun x1 x2=>x1++x2) acc.toArray (List.replicate k its.toArray)=(acc++(List.replicate k its).flatten).toArray
 | 0,acc=>by simp
 | k+1,acc=>by
  have e:acc.toArray++its.toArray=(acc++its).toArray:=by simp
  have e2:(acc++its)++(List.replicate k its).flatten=acc++(List.replicate (k+1) its).flatten:=by
   rw[ja4,kc,Zs]
  rw[<-e2,<-foldl_rep its k (acc++its),<-e,ja4,jp3]
section
variable{X:Cx}{pins:List (Addr×Obj)}{Z:St}{H:Hp}{s:Shared}{l b:Addr}{xs ys zs:List V}
theorem Inv.lset{its its':List Value}{n:Nat}{f:Array Value->Array Value}{t':Nat}(I:Inv X pins Z H s)(hH:H l=some (.lst xs))
 (e:s.heap.get? l=some { cls:=.type "list",data:=.seq its.toArray n })(hf:f its.toArray=its'.toArray)(hv:Vals ys its')(hz:ys.length<=sizeLine):
 Inv X pins Z (upd H l (.lst ys)) { s with heap:=s.heap.update l (Obj.mapSeq f),toks:=t' }:=by
 have q:=PySem.IsL.update e f;rw[hf] at q;refine I.write (x:=l) (e:=l) (by rw[hH];exact trivial) (.inl rfl) (fun b' u hb hu=>(ko s.heap (Obj.mapSeq f) (Ne.symm hb)).trans hu) ⟨_,q⟩ ?_;exact⟨hz,its',_,hv,q⟩
theorem Inv.lnew{its:List Value}{t':Nat}(I:Inv X pins Z H s)(hv:Vals ys its)(hz:ys.length<=sizeLine):
 Inv X pins Z (upd H s.heap.objs.size (.lst ys)) { s with heap:=s.heap.push { cls:=.type "list",data:=.seq its.toArray },toks:=t' }:=
 I.laid (fun _ _ q=>jv _ q) (qg _) ⟨hz,its,0,hv,xa _ rfl⟩
theorem Inv.fresh(I:Inv X pins Z H s):H s.heap.objs.size=none:=I.hok.fresh (qg _)
theorem Inv.lstM(I:Inv X pins Z H s)(hH:H l=some (.lst xs)):xs.length<=sizeLine/\∃(its:List Value) (n:Nat),Vals xs its/\xs.length=its.length/\s.heap.get? l=some { cls:=.type "list",data:=.seq its.toArray n }:=by
 obtain⟨z,its,n,r,e⟩:=I.hok l _ hH;exact⟨z,its,n,r,r.length,e⟩
theorem Zc{n:Nat}(h:n<=sizeLine):Builtin.List.listTooLong n=false:=by
 unfold Builtin.List.listTooLong;exact decide_eq_false ⋯
end
section
variable{X:Cx}
def RK:V->List V->Hp->VK->Prop:=fun x vs H Q=>∃l xs y,x=.ref l/\vs=[y]/\H l=some (.lst xs)/\xs.length<sizeLine/\Q .non (upd H l (.lst (xs++[y])))
theorem Hj:MtM X "list.append" RK:=by
 intro pins s Z H x vs v us Q I rx rv h;obtain⟨l,xs,y,rfl,rfl,hH,hz,q⟩:=h;cases rx;obtain⟨u,rfl,ru⟩:=rv.one;obtain⟨z,its,n,r,hl,e⟩:=I.lstM hH;refine call_meets F.slot_list_append ⟨_,e,rfl⟩ F.entry_list_append (F.args_list_append_2 _ _) (PySem.list_append l its.toArray n u (by rw[xc];lia)) ⟨e,?_⟩;refine⟨.non,_,I.lset (its':=its++[u]) hH e (by simp) (r.append (.cons ru .nil)) ?_,rfl,q⟩;rw[qc,List.length_singleton];lia
def RJ:V->List V->Hp->VK->Prop:=fun x vs H Q=>∃l b xs zs,x=.ref l/\vs=[.ref b]/\H l=some (.lst xs)/\H b=some (.lst zs)/\xs.length+zs.length<=sizeLine/\Q .non (upd H l (.lst (xs++zs)))
theorem Gp:MtM X "list.extend" RJ:=by
 intro pins s Z H x vs v us Q I rx rv h;obtain⟨l,b,xs,zs,rfl,rfl,hH,hB,hz,q⟩:=h;cases rx;obtain⟨u,rfl,ru⟩:=rv.one;cases ru;obtain⟨z,its,n,r,hl,e⟩:=I.lstM hH;obtain⟨z2,its2,n2,r2,hl2,e2⟩:=I.lstM hB;have hsz:its.toArray.size+its2.toArray.size<=sizeLine:=by rw[xc,xc];lia
 have hlong:¬(!its.toArray.isEmpty&&Builtin.List.listTooLong (its.toArray.size+its2.toArray.size))=true:=by
  rw[Zc hsz,Bool.and_false];exact zk
 refine call_meets F.slot_list_extend ⟨_,e,rfl⟩ F.entry_list_extend (F.args_list_extend_2 _ _)
  (AutoSeq1.list_extend_list_list_0 l its.toArray n b its2.toArray n2 hlong (by rw[xc];lia) ⋯) ⟨e,e2,?_⟩
 refine⟨.non,_,I.lset (its':=its++its2) hH e (by simp) (r.append r2) ?_,rfl,q⟩;rw[qc];lia
def ACT:R2:=fun x y H Q=>∃l b xs zs,x=.ref l/\y=.ref b/\H l=some (.lst xs)/\H b=some (.lst zs)/\xs.length+zs.length<=sizeLine/\∀p,H p=none->Q (.ref p) (upd H p (.lst (xs++zs)))
theorem Xl:OpR X (binaryOp .Add) ACT:=by
 intro pins s Z H x y v u Q I rx ry h;obtain⟨l,b,xs,zs,rfl,rfl,hH,hB,hz,q⟩:=h;cases rx;cases ry;obtain⟨z,its,n,r,hl,e⟩:=I.lstM hH;obtain⟨z2,its2,n2,r2,hl2,e2⟩:=I.lstM hB;refine PySem.P.add_list e e2 ?_ (by rw[xc,xc];lia);have ea:its.toArray++its2.toArray=(its++its2).toArray:=by simp
 rw[ea];exact⟨.ref _,_,I.lnew (t':=s.toks) (r.append r2) (by rw[qc];lia),rfl,q _ I.fresh⟩
def ACQ:R2:=fun x y H Q=>∃l k xs,x=.ref l/\y=.int k/\H l=some (.lst xs)/\ -(2^63)<=k/\k<2^63/\xs.length*k.toNat<=sizeLine/\
 ∀p,H p=none->Q (.ref p) (upd H p (.lst (List.replicate k.toNat xs).flatten))
theorem len_rep{α:Type}(xs:List α)(k:Nat):(List.replicate k xs).flatten.length=k*xs.length:=by
 induction k with
 | zero=>simp
 | succ k ih=>rw[ja4,kc,qc,ih,jw1,jn8]
theorem bc:OpR X (binaryOp .Mult) ACQ:=by
 intro pins s Z H x y v u Q I rx ry h;obtain⟨l,k,xs,rfl,rfl,hH,h1,h2,hz,q⟩:=h;cases rx;obtain⟨t,rfl⟩:=ry;obtain⟨z,its,n,r,hl,e⟩:=I.lstM hH;have hlen:its.toArray.size*k.toNat<=sizeLine:=by rw[xc,<-hl];exact hz
 have hcap:¬its.toArray.size*k.toNat>(2^63-1)/8:=by
  have:(sizeLine:Nat)<=(2^63-1)/8:=nofun;lia
 have hfit:¬(!Builtin.List.listFitsIndex k)=true:=by
  rw[fitsIndex_both h1 h2];exact zk
 have hlong:¬Builtin.List.listTooLong (its.toArray.size*k.toNat)=true:=by
  rw[Zc hlen];exact zk
 have hnew:List.foldl (fun x1 x2=>x1++x2) #[] (List.replicate (if its.toArray.isEmpty=true then 0 else k.toNat) its.toArray)=(List.replicate k.toNat its).flatten.toArray:=by
  have f0:∀m:Nat,List.foldl (fun x1 x2=>x1++x2) #[] (List.replicate m its.toArray)=(List.replicate m its).flatten.toArray:=fun m=>by
   have:=foldl_rep its m [];rw[ji9] at this;exact this
  rw[f0];cases its with
  | nil=>simp
  | cons a r'=>rw[yb (by simp)]
 refine wpAny_binaryOp_repeat_ref (T:="list") (U:="int") nofun ⟨_,e,rfl⟩ (fun s'=>typeIs_int s' k t) noFill_list_mul F.fills_int_mul F.slot_int_rmul repeat_list F.slot_int_index.lookup
  (call_meets F.slot_int_rmul (typeIs_int s k t) F.entry_int_rmul (F.args_int_rmul_2 _ _) (int___rmul___int_list k t l its.toArray n)
   ⟨e,rfl,⟨_,e,rfl⟩,call_meets F.slot_list_mul ⟨_,e,rfl⟩ F.entry_list_mul (F.args_list_mul_2 _ _) (AutoListH.list___mul___list_int_3 l its.toArray n k t hfit hcap hlong) ⟨e,?_⟩⟩)
 rw[hnew];exact⟨.ref _,_,I.lnew (t':=s.toks) (r.rep k.toNat) (by rw[len_rep,jw0];exact hz),rfl,q _ I.fresh⟩
end
section
variable{prog:Program}{w:World}{A:Around}{E:Value->Shared->Prop}{s:Shared}
end
section
variable{X:Cx}
end
end L2
namespace Att
open PySem PySem.W PySem.Calls PyProof.Rows
theorem Qq{P:Params}{h:Heap}:∀(ns:List Int) (vs:List Value),WellAll P h vs (ns.map WData.int)->IntsAre vs ns:=by
 intro ns
 induction ns with
 | nil=>
  intro vs w;rw[jr0] at w;cases w;exact .nil
 | cons n ns ih=>
  intro vs w;rw[zv] at w;cases w with
  | cons a b=>
   cases a;exact .cons _ _ (ih _ b)
theorem iJ{l:OpenLaw}{n:Nat}(hn:l.most=some n){P:Params}{h:Heap}{args:List WData}{vals:List Value}
 (hpre:l.row.toRowW.claim.pre args=true)(hwl:WellAll P h vals args):
 ∃a vs ns,vals=[Value.ref a]/\args=[WData.list (ns.map WData.int)]/\h.get? a=some { cls:=.type "list",data:=.seq vs.toArray }/\IntsAre vs ns/\ns.length<=n:=by
 have hsh:WShape.hasAll [] args [.list .int]=true:=(pre_splitW hpre).1;have hc:l.pre.holds [] { args:=args }=true:=(pre_splitW hpre).2;obtain⟨d,r,rfl,h1,h2⟩:=hasAllW_cons hsh;obtain rfl:=hasAllW_nil h2;obtain⟨xs,rfl,h3⟩:=hasW_list h1;obtain⟨ns,rfl⟩:=items_int h3;have hlen:ns.length<=n:=by
  unfold OpenLaw.pre at hc;have h4:(WTm.not (.lt (.lit (.int (n:Int))) (.len (.arg 0)))).holds [] { args:=[.list (ns.map .int)] }=true:=by
   have h4:=(holds_andW hc).1;rw[hn] at h4;exact h4
  have h5:=condW_of h4 (w_not (w_lt w_lit (w_len_list (w_arg rfl))));rw[jp] at h5;refine Nat.le_of_not_lt fun q=>?_;have q':(n:Int)<((ns.length:Nat):Int):=⋯
  first
   | (rw [decide_eq_true q'] at h5;exact absurd h5 nofun)
   | (simp at h5;lia)
 cases hwl with
 | cons w1 w2=>
  cases w2;cases w1 with
  | list ho hall=>exact⟨_,_,ns,rfl,rfl,ho,Qq ns _ hall,hlen⟩
theorem iy(l:OpenLaw)(args:List WData):l.row.toRowW.claim.post args (.bool true) args=true:=
 postW_of (r:=l.row.toRowW) (X:=(true==true))
  (show WShape.has [] (.bool true) .bool=true by first | rfl | decide | simp[WShape.has,WShape.arms,WShape.armsAll])
  (show (WTm.eq .res (.lit (.bool true))).value [] { args:=args,res:=some (.bool true),after:=args }=some (.bool (true==true)) from w_eq_bool (w_res rfl) w_lit) rfl
section
variable{prog:Program}{w:World}{A:Around}{E:Value->Shared->Prop}{s:Shared}{K:Frag}
end
end Att
namespace L2
open PySem PySem.Spec PyProof.Rows
theorem Vp:∀{vs:List Value} {ns:List Int},IntsAre vs ns->Vals (ns.map V.int) vs
 | _,_,.nil=>.nil
 | _,_,.cons n t h=>.cons ⟨t,rfl⟩ (Vp h)
def Only(H:Hp):Prop:=∀b,H b=none\/∃o xs,H b=some (.frz o (.lst xs))
theorem pX{P:Program}{w:World}{K:Fr}{mg mb:Str->Option Value}{CX:CXT}{k:Nat}{fa a:Addr}{fd:FuncData}{x:Str}{sp:Sp}{s₁:Shared}{vs:List Value}{ns:List Int}
 (KX:K.In s₁.heap)(hns:s₁.heap.Ns mainGlobals mg)(hb:s₁.heap.Ns builtinsNs mb)(hbb:∀x:Str,x≠"__name__"->mb x=bootBuiltins x)(hlim:s₁.heap.NoLimit)(hg:s₁.gens= #[])
 (ha:s₁.heap.get? a=some { cls:=.type "list",data:=.seq vs.toArray })(hi:IntsAre vs ns)(hl:ns.length<=sizeLine)(hr:Cv k callerA)
 (F:∀base:Heap,K.In base->base.Ns mainGlobals mg->Ei P w K mg base CX k fa fd [x] sp)(hbind:∀(s:Shared) (u:Value),BindsTo s fd ⟨[u],[]⟩ [(x,u)])
 (hsp:∀H:Hp,Only H->SqL K H a (ns.map V.int)->sp [.ref a] H (fun v _=>v=.bl true) fun _ _ _=>False)
 (hCX:∀H e s',CX [] H s₁ (fun _ _ _=>False) e s'->False):
 codeAny (model P w) callerA (.call (.ref fa) ⟨[.ref a],[]⟩) (fun r s'=>r=.ok (.ret (.bool true))/\OldK s₁.heap s'.heap/\s'.os=s₁.os/\AllBare s'.gens) s₁:=by
 have rv:=Vp hi;have lenV:=hi.length;have core:∀H:Hp,Only H->SqL K H a (ns.map V.int)->HOk P w H s₁.heap->(∀b,H b≠none->b=a)->(H a≠none->K.lookup a=none)->
  codeAny (model P w) callerA (.call (.ref fa) ⟨[.ref a],[]⟩) (fun r s'=>r=.ok (.ret (.bool true))/\OldK s₁.heap s'.heap/\s'.os=s₁.os/\AllBare s'.gens) s₁:=by
  intro H hO hS hok hA hK;have ab:∀{b:Addr} {o:Obj},s₁.heap.get? b=some o->H b=none->(Xz s₁.heap H).get? b=some o:=fun e n=>qM e n;have noA:∀{b:Addr} {o:Obj} {es:Array DictEntry} {ep:Nat},s₁.heap.get? b=some o->o.data=.dict es ep->H b=none:=fun{b o es ep} e d=>by
   cases q:H b with
   | none=>rfl
   | some u=>
    have e':b=a:=hA b (by rw[q];simp);subst e';rw[ha] at e;cases e;have d':Data.seq vs.toArray _=Data.dict es ep:=d;cases d'
  have nsK:∀{b:Addr} {m:Str->Option Value},s₁.heap.Ns b m->(Xz s₁.heap H).Ns b m:=fun{b m} ⟨o,es,ep,e,d,r⟩=>⟨o,es,ep,ab e (noA e d),d,r⟩;have hKb:K.In (Xz s₁.heap H):=fun b o e=>ab (KX b o e) (by
   cases q:H b with
   | none=>rfl
   | some u=>
    have e':b=a:=hA b (by rw[q];simp);subst e';rw[hK (by rw[q];simp)] at e;cases e)
  have hM:Mod K mg (Xz s₁.heap H):=⟨hKb,nsK hns,⟨mb,nsK hb,hbb⟩,let ⟨mc,h1,h2⟩:=hlim;⟨mc,nsK h1,h2⟩⟩;have e0:Ux P w K mg (Xz s₁.heap H) callerA [] s₁ H:=⟨rfl,hM,fun b o e=>vA e,jl1 (jZ _ _),trivial,fun b hb=>absurd (show b∈([]:List Addr) from hb) (by simp),hok,.of_eq hg⟩;refine jj0 ((F _ hKb (nsK hns)).run callerA [] s₁ H ⟨[.ref a],[]⟩ [.ref a] [.ref a] _ _ hr e0 (hbind s₁ (.ref a)) (.cons rfl .nil) (hsp H hO hS)) fun r s' h=>?_;cases r with
  | error e=>exact(hCX H e s' h).elim
  | ok fl=>
   cases fl with
   | next=>exact False.elim h
   | brk=>exact False.elim h
   | cont=>exact False.elim h
   | ret u=>
    obtain⟨v,H',os,bare,un,hok',r',q⟩:=h;have q':v=.bl true:=q;subst q';obtain rfl:u=Value.bool true:=r';refine⟨rfl,OldK.of_keep fun b o e=>?_,os,bare⟩;cases q:H b with
    | none=>exact un.keep b o e q (by intro z;exact absurd (show b∈([]:List Addr) from z) (by simp)) (by simp)
    | some u=>
     rcases hO b with z | ⟨ob,xs,z⟩
     ·rw[q] at z;cases z
     ·have z2:=un.frzs b ob _ z;obtain⟨e1,_⟩:=hok b _ z;obtain⟨e2,_⟩:=hok' b _ z2;rw[e] at e1;cases e1;exact e2
 cases hk:K.lookup a with
 | some o=>
  have e:=KX a o hk;rw[ha] at e;cases e;refine core (fun _=>none) (fun _=>.inl rfl) (.inr ⟨_,vs.toArray,_,hk,rfl,rfl,rfl,by rw[xc,lenV];exact hl,by simpa using rv⟩) (fun b u z=>by have z':(none:Option HO)=some u:=z;cases z') (fun b z=>absurd rfl z) fun z=>absurd rfl z
 | none=>
  refine core (fun b=>if b=a then some (.frz { cls:=.type "list",data:=.seq vs.toArray } (.lst (ns.map V.int))) else none) (fun b=>?_) (.inl (.inr ⟨{ cls:=.type "list",data:=.seq vs.toArray },xz rfl⟩)) (fun b u z=>?_) (fun b z=>?_) fun _=>hk
  ·by_cases hb:b=a
   ·exact .inr ⟨_,_,xz hb⟩
   ·exact .inl (yb hb)
  ·by_cases hb:b=a
   ·have z':=(xz hb).symm.trans z;cases z';subst hb;exact⟨ha,by rw[jp];exact hl,vs,_,rv,ha⟩
   ·have z':=(yb hb).symm.trans z;cases z'
  ·by_cases hb:b=a
   ·exact hb
   ·exact absurd (yb hb) z
noncomputable def inClass(s:Stmt)(j:Nat):Stmt:=match s with
 | .ClassDef _ _ _ body _ _ _ _ _ _ _=>body.getD j (.Pass ⟨0,0,0,0⟩)
 | _=>.Pass ⟨0,0,0,0⟩
noncomputable def El(s:Stmt):Arguments:=match s with
 | .FunctionDef _ a _ _ _ _ _ _ _ _=>a
 | _=>{ posonlyargs:=[],args:=[],vararg:=none,kwonlyargs:=[],kw_defaults:=[],kwarg:=none,defaults:=[] }
noncomputable def Cz(s:Stmt):List Stmt:=match s with
 | .FunctionDef _ _ b _ _ _ _ _ _ _=>b
 | _=>[]
noncomputable def Az(s:Stmt):Scope:=match s with
 | .FunctionDef _ _ _ _ _ _ sc _ _ _=>sc
 | _=>{ kind:=.function,names:=[],isGenerator:=false,isCoroutine:=false }
abbrev CX0:CXT:=fun _ _ _ _ _ _=>False
abbrev E0:XK:=fun _ _ _=>False
theorem NP{X:Cx}:Ku CX0 X E0:=fun _ _ _ _ _ _ _ h=>h.elim
structure Fun(K:Fr)(x qual:Str)(st:Stmt)(f:Addr)(fd:FuncData):Prop where
 ex:∃(oc:Value) (od:Option Addr) (kV doc pm:Value) (an:Option Addr) (cdv ct:Value) (osl:Array (Option Value)),
  fd=PySem.W.fnOf x qual (El st) (Cz st) (Az st) .none kV doc pm an cdv ct/\K.lookup f=some ⟨oc,od,.func fd,osl⟩/\PySem.W.codeIn K cdv qual=true
 kp:PySem.W.keepIn K (.ref f)=true
section
variable{P:Program}{w:World}{K:Fr}{mg:Str->Option Value}{base:Heap}
theorem Fun.ok{x qual:Str}{st:Stmt}{f:Addr}{fd:FuncData}{N ps:List Str}{k:Nat}{sp:Sp}(F:Fun K x qual st f fd)(S:CZ N ps (Az st))(len:∀{vs H Q E},sp vs H Q E->vs.length=ps.length)
 (hbody:∀{cdv:Value} {A:Around} {outer:List Env} {s:Shared} (nd:N.Nodup) (H:Hp) (vs:List V) (Q:VK) (E:XK),Cv k (A.deeper (envOfC qual (Az st) s.heap.objs.size f cdv))->sp vs H Q E->
  ∃t,PSs (Qs CX0 P w K mg base N qual (Az st) f cdv A outer s H E).nox (Cz st) t/\t { nx:=fun _ H'=>Q .non H',rt:=Q } (start N vs) H):Ei P w K mg base CX0 (k+1) f fd ps sp:=by
 obtain⟨oc,od,kV,doc,pm,an,cdv,ct,osl,rfl,lk,hcd⟩:=F.ex;refine xq lk hcd S (fun _ _ _ _=>len) fun A outer s H vs Q E hr hsp=>?_;obtain⟨t,h,q⟩:=hbody S.nd H vs Q E hr hsp;exact⟨t,h.nox,q⟩
theorem Fun.binds{x qual:Str}{st:Stmt}{f:Addr}{fd:FuncData}{ps:List Str}(F:Fun K x qual st f fd)
 (h:∀(kV doc pm:Value) (an:Option Addr) (cdv ct:Value) (us:List Value),us.length=ps.length->bindArgs (PySem.W.fnOf x qual (El st) (Cz st) (Az st) .none kV doc pm an cdv ct) ⟨us,[]⟩=pure (ps.zip us)):Binds K fd ps []:=by
 obtain⟨oc,od,kV,doc,pm,an,cdv,ct,osl,rfl,lk,hcd⟩:=F.ex;exact .all (h kV doc pm an cdv ct)
theorem qR{x qual:Str}{st:Stmt}{f:Addr}{oc:Value}{od an:Option Addr}{osl:Array (Option Value)}{kV doc pm cdv ct:Value}(l:K.lookup f=some ⟨oc,od,.func (PySem.W.fnOf x qual (El st) (Cz st) (Az st) .none kV doc pm an cdv ct),osl⟩)
 (c:PySem.W.codeIn K cdv qual=true)(k:PySem.W.keepIn K (.ref f)=true):Fun K x qual st f (PySem.W.fnOf x qual (El st) (Cz st) (Az st) .none kV doc pm an cdv ct):=⟨⟨oc,od,kV,doc,pm,an,cdv,ct,osl,rfl,l,c⟩,k⟩
end
theorem fX{A:Around}{k:Nat}(hr:Cv k A):A.units+1<cLine:=uj (jk8 (by decide:1<=64) _) hr.units
theorem Er{n:Nat}(h:n<=1000):n<sizeLine:=uj h nofun
section
variable{X:Cx}
theorem pv(i:Nat){x:Str}{pos:Pos}(hN:‹X.N[i]?=some x›)(hv:Vis X.env.scope x:=by first | exact Or.inl rfl | exact Or.inr (Or.inl rfl) | exact Or.inr (Or.inr rfl))(hd:(x==("__debug__":Str))=false:=by decide)
 (hcd:(x==("__classdict__":Str))=false:=by decide):PE X (.Name x pos) (Ju i):=oY hN hv hd hcd
end
theorem Eg{A B:Prop}(h:B):if false=true then A else B:=by
 rw[yb zk];exact h
theorem Ej{A B:Prop}(h:A):if true=true then A else B:=by
 rw[xz rfl];exact h
theorem GK{c A B:Prop}[Decidable c](hc:c)(h:B):if (!decide c)=true then A else B:=by
 rw[decide_eq_true hc];exact Eg h
def Aw(H H':Hp):Prop:=∀b o,H b=some o->H' b=some o
theorem Aw.refl(H:Hp):Aw H H:=fun _ _ h=>h
theorem Aw.trans{H H1 H2:Hp}(a:Aw H H1)(b:Aw H1 H2):Aw H H2:=fun c o h=>b c o (a c o h)
theorem Aw.free{H H':Hp}(e:Aw H H'){l:Addr}(h:H' l=Option.none):H l=Option.none:=by
 cases q:H l with
 | none=>rfl
 | some o=>
  rw[e l o q] at h;cases h
theorem Aw.seq{K:Fr}{H H':Hp}{a:Addr}{xs:List V}(e:Aw H H')(h:SqL K H a xs):SqL K H' a xs:=by
 rcases h with (h | ⟨o,h⟩) | h
 ·exact .inl (.inl (e _ _ h))
 ·exact .inl (.inr ⟨o,e _ _ h⟩)
 ·exact .inr h
end L2
set_option maxHeartbeats 4000000
namespace L2
open PySem PySem.Spec PyProof.Rows
def Bt(k:Nat)(x:Int):Prop:=x.natAbs<2^k
theorem Bt.bits{k:Nat}{x:Int}(h:Bt k x):Builtin.Int.intBits x<=k:=PySem.intBits_le_iff.mpr h
theorem Bt.mono{k m:Nat}{x:Int}(h:Bt k x)(l:k<=m):Bt m x:=xi h (vi nofun l)
theorem Bt.le{k:Nat}{x y:Int}(h:Bt k y)(l:x.natAbs<=y.natAbs):Bt k x:=uj l h
theorem Bt.mul{k m:Nat}{x y:Int}(h:Bt k x)(g:Bt m y):Bt (k+m) (x*y):=by
 unfold Bt at*
 rw[jn4,jq0];exact Nat.mul_lt_mul'' h g
theorem Bt.add{k:Nat}{x y:Int}(h:Bt k x)(g:Bt k y):Bt (k+1) (x+y):=by
 unfold Bt at*
 have:=Int.natAbs_add_le x y;rw[jr4];lia
def gW(i j:Int):Prop:=∃n m:Nat,Bt n i/\Bt m j/\n+m<=134217728
theorem gW.ok{i j:Int}(h:gW i j):IntMulOk i j:=by
 obtain⟨n,m,h1,h2,h3⟩:=h;have a:=h1.bits;have b:=h2.bits;have hs:((Builtin.Int.intBits i+Builtin.Int.intBits j:Nat):Int)<=2^27:=by
  have e:(2:Int)^27=134217728:=nofun;rw[e];lia
 have hb:Builtin.Int.intTooBig ((Builtin.Int.intBits i+Builtin.Int.intBits j:Nat):Int)=false:=decide_eq_false (jx0.mpr hs);unfold IntMulOk
 first
  | (rw [show (((Builtin.Int.intBits i:Nat):Int)+((Builtin.Int.intBits j:Nat):Int))=((Builtin.Int.intBits i+Builtin.Int.intBits j:Nat):Int) by lia,hb];simp)
  | (rw [hb];simp)
  | (intro z;simp only[Jn] at z;simp_all)
variable{H:Hp}{Q:VK}
section
variable{X:Cx}{a b c:Expr}{ta tb tc:TE}{pos:Pos}
theorem Cd:OpR X (binaryOp .Mult) (rI gW fun i j=>.int (i*j)):=opI fun _ _ _ _ _ _ _ hc q=>mul_int q hc.ok
theorem Px{j:Int}(h:Bt 9000 j):j.natAbs.log2<9000:=by
 by_cases h0:j.natAbs=0
 ·rw[h0];ac_rfl
 ·exact(jw7 h0).mpr h
def rR(_ j:Int):Prop:=0<j/\Bt 9000 j
def ADL(_ j:Int):Prop:=j≠0/\Bt 9000 j
theorem Bp:OpR X (binaryOp .FloorDiv) (rI rR fun i j=>.int (i/j)):=opI fun i j _ _ _ _ _ hc q=>by
 have h1:(0:Int)<j:=hc.1;exact floordiv_int ⋯ (by rw[jq6 i ⋯];exact q) (.inl (js6 (Px hc.2)))
theorem pD:OpR X (binaryOp .FloorDiv) (rI ADL fun i j=>.int (i.fdiv j)):=opI fun i j _ _ _ _ _ hc q=>
 floordiv_int hc.1 q (.inl (js6 (Px hc.2)))
def AEH(i j:Int):Prop:=0<=j/\∃n:Nat,Bt n i/\(n:Int)+j<=134217728
theorem NT:OpR X (binaryOp .LShift) (rI AEH fun i j=>.int (i*2^j.toNat)):=opI fun i j _ _ _ _ _ hc q=>by
 obtain⟨h0,n,hn,h1⟩:=hc;have:=hn.bits;refine lshift_int h0 ?_ q;have e:(2:Int)^27=134217728:=nofun;rw[e];lia
def za(K:Fr):List V->Hp->VK->Prop:=fun xs H Q=>∃x c t b,xs=[x,.ty c]/\N6 K H x t/\PySem.W.kitOne K t (.type c)=some b/\Q (.bl b) H
theorem UJ:HS X (.builtin "isinstance") (za X.K):=by
 intro pins s Z H xs us Q I r h;obtain⟨x,c,t,b,rfl,ty,e,q⟩:=h;obtain⟨u,w',rfl,r1,r2⟩:=vals2 r;cases (show w'=Value.type c from r2);exact jX I r1 ty e fun tk=>⟨.bl b,H,I.tok tk,rfl,q⟩
noncomputable def Tp:List V->List V->Bool
 | [],[]=>true
 | x::xs,y::ys=>eqV x y&&Tp xs ys
 | _,_=>false
theorem WQ:∀(ms ns:List Int),Tp (ms.map V.int) (ns.map V.int)=decide (ms=ns)
 | [],[]=>rfl
 | [],_::_=>rfl
 | _::_,[]=>rfl
 | m::ms,n::ns=>by
  show((m==n)&&Tp (ms.map V.int) (ns.map V.int))=_;rw[WQ ms ns,kr];simp
theorem Tn:∀{xs ys:List V} {us ws:List Value},Vals xs us->Vals ys ws->xs.all Ho=true->ys.all Ho=true->
 ∃e:Nat->Bool,(∀(A:Around) (s:Shared) (j:Nat) (h1:j<us.toArray.size) (h2:j<ws.toArray.size),SeqAt.EqAt A s us.toArray[j] ws.toArray[j] (e j))/\
  ((List.range (min us.toArray.size ws.toArray.size)).all e&&us.toArray.size==ws.toArray.size)=Tp xs ys
 | [],[],_,_,.nil,.nil,_,_=>⟨fun _=>true,fun _ _ j h1 _=>absurd h1 (by simp),rfl⟩
 | [],y::ys,_,_,.nil,.cons _ _,_,_=>⟨fun _=>true,fun _ _ j h1 _=>absurd h1 (by simp),by simp[Tp]⟩
 | x::xs,[],_,_,.cons _ _,.nil,_,_=>⟨fun _=>true,fun _ _ j _ h2=>absurd h2 (by simp),by simp[Tp]⟩
 | x::xs,y::ys,u::us,w::ws,.cons r t,.cons r' t',f,f'=>by
  rw[jl7,Jn] at f f';obtain⟨e,h1,h2⟩:=Tn t t' f.2 f'.2;refine⟨fun j=>match j with | 0=>eqV x y | j+1=>e j,?_,?_⟩
  ·intro A s j k1 k2;cases j with
   | zero=>simpa using qZ r r' f.1 f'.1
   | succ j=>
    have k:=h1 A s j (by simpa using k1) (by simpa using k2);simp only[List.getElem_toArray,List.getElem_cons_succ] at k ⊢;exact k
  ·show _=(eqV x y&&Tp xs ys);rw[<-h2];have e1:min (u::us).toArray.size (w::ws).toArray.size=min us.toArray.size ws.toArray.size+1:=by simp
   rw[e1,List.range_succ_eq_map,jl7,jn7,Bool.and_assoc]
   congr 2
   simp
def zb(K:Fr):R2:=fun x y H Q=>∃a b xs ys,x=.ref a/\y=.ref b/\SqT K H a xs/\SqT K H b ys/\xs.all Ho=true/\ys.all Ho=true/\Q (.bl (Tp xs ys)) H
theorem Xk(hu:X.A.units<cLine):OpR X (compareOp .Eq) (zb X.K):=by
 intro pins s Z H x y v u Q I rx ry h;obtain⟨a,b,xs,ys,rfl,rfl,ha,hb,fx,fy,q⟩:=h;cases rx;cases ry;obtain⟨its,r,pl,_⟩:=I.tuple ha;obtain⟨its',r',pl',_⟩:=I.tuple hb;obtain⟨e,h1,h2⟩:=Tn r r' fx fy;exact SeqAt.eq_tupleAt (e:=e) pl pl' hu (fun j k1 k2=>h1 _ _ j k1 k2) (by rw[h2];exact⟨.bl _,H,I,rfl,q⟩)
structure Cal(P:Program)(w:World)(K:Fr)(mg:Str->Option Value)(base:Heap)(k:Nat)(x:Str)(ps:List Str)(sp:Sp):Prop where
 ex:∃(f:Addr) (fd:FuncData),Ei P w K mg base CX0 k f fd ps sp/\Binds K fd ps []/\PySem.W.keepIn K (.ref f)=true/\mg x=some (.ref f)
theorem Af{k:Nat}{x:Str}{ps:List Str}{sp:Sp}{e:Expr}{es:List Expr}{t:TA}{p:Pos}(C:Cal X.prog X.w X.K X.mg X.base k x ps sp)(ha:PA X (e::es) t)(hr:Cv k X.A:=by walk_at"hr")(hg:Gl X x:=by exact rfl)
 (hdb:(x==("__debug__":Str))=false:=by decide)(he:‹starEach (e::es) X.env=(false,eval e X.env)::starEach es X.env›)(hpl:‹(backTo pos (starEach es X.env)).any (·.1)=false›):
 PE X (.Call (.Name x p) (e::es) [] pos) (Vs sp [] E0 t):=by
 obtain⟨f,fd,F,b,kp,m⟩:=C.ex;exact uv F hr hg m kp b .nil NP ha hdb he hpl
def yS(t:TS):TS:=fun D Z H=>∃J:St->Hp->Prop,t { D with nx:=J } Z H/\∀Z' H',J Z' H'->D.nx Z' H'
theorem Dm{st:Stmt}{t:TS}(h:PS X st t):PS X st (yS t):=by
 intro pins s Z H D I hw;obtain⟨J,h1,h2⟩:=hw;refine thn (h s Z H { D with nx:=J } I h1) fun f s1 q=>?_;cases f with
 | next=>
  obtain⟨Z',H',I',q⟩:=q;exact⟨Z',H',I',h2 _ _ q⟩
 | ret v=>exact q
 | brk=>exact q
 | cont=>exact q
theorem De{t:TS}{D:Ends}{Z:St}(J:St->Hp->Prop)(h1:t { D with nx:=J } Z H)(h2:∀Z' H',J Z' H'->D.nx Z' H'):yS t D Z H:=⟨J,h1,h2⟩
theorem ACN{g:Int->Int->V}{i j:Int}(h:Q (g i j) H):rI0 g (.int i) (.int j) H Q:=⟨i,j,rfl,rfl,h⟩
theorem Dj{C:Int->Int->Prop}{g:Int->Int->V}{i j:Int}(c:C i j)(h:Q (g i j) H):rI C g (.int i) (.int j) H Q:=⟨i,j,rfl,rfl,c,h⟩
theorem ADZ{g:Int->V}{i:Int}(h:Q (g i) H):rU g (.int i) H Q:=⟨i,rfl,h⟩
theorem ACO{x y:V}(s:uH x y=true)(h:Q (.bl (decide (x=y))) H):rEq x y H Q:=⟨s,h⟩
theorem ACM{x y:V}(s:uH x y=true)(h:Q (.bl (!decide (x=y))) H):rNe x y H Q:=⟨s,h⟩
theorem Vz{k:Bool}{Q:Bool->Prop}(h:Q k):∃k',V.bl k=.bl k'/\Q k':=⟨k,rfl,h⟩
theorem bN(n:String):RelV (.ty n) (.type n):=rfl
theorem DW(i:Int)(t:Tok):RelV (.int i) (.int i t):=⟨t,rfl⟩
theorem GD{Z:St}{Q:List V->Hp->Prop}(h:Q [] H):Ly Z H Q:=h
theorem uU{K:Fr}{n:Nat}{t:TGs}{a:Addr}{xs:List V}{Z:St}{Q:St->Hp->Prop}(hs:SqT K H a xs)(hl:xs.length=n)(h:t xs Z H Q):qQ K n t (.ref a) Z H Q:=⟨a,xs,rfl,hs,hl,h⟩
theorem oA{t:TG}{u:TGs}{v:V}{r:List V}{Z:St}{Q:St->Hp->Prop}(h:t v Z H fun Z' H'=>u r Z' H' Q):WF t u (v::r) Z H Q:=⟨v,r,rfl,h⟩
theorem uV{Z:St}{Q:St->Hp->Prop}(h:Q Z H):vX [] Z H Q:=⟨rfl,h⟩
theorem An{K:Fr}{p:Addr}{xs:List V}{i:Int}{v:V}(hs:SqT K H p xs)(e:atI xs i=some v)(h:Q v H):uY K (.ref p) (.int i) H Q:=⟨p,xs,i,v,rfl,rfl,hs,e,h⟩
theorem BP{K:Fr}{p:Addr}{xs:List V}{i:Int}{v:V}(hs:SqL K H p xs)(e:atI xs i=some v)(h:Q v H):uZ K (.ref p) (.int i) H Q:=⟨p,xs,i,v,rfl,rfl,hs,e,h⟩
theorem Sg{K:Fr}{x:V}{c:String}{t:Value}{b:Bool}(ty:N6 K H x t)(e:PySem.W.kitOne K t (.type c)=some b)(h:Q (.bl b) H):za K [x,.ty c] H Q:=⟨x,c,t,b,rfl,ty,e,h⟩
theorem Hc{c A B:Prop}[Decidable c](hc:c)(h:A):if decide c=true then A else B:=by
 rw[decide_eq_true hc];exact Ej h
theorem CK{c A B:Prop}[Decidable c](hc:¬c)(h:B):if decide c=true then A else B:=by
 rw[decide_eq_false hc];exact Eg h
theorem qI{c A B:Prop}[Decidable c](hc:¬c)(h:A):if (!decide c)=true then A else B:=by
 rw[decide_eq_false hc];exact Ej h
theorem Bs{c A B:Prop}[Decidable c](h1:c->A)(h2:¬c->B):if decide c=true then A else B:=by
 by_cases h:c
 ·exact Hc h (h1 h)
 ·exact CK h (h2 h)
theorem Aw.tup{K:Fr}{H':Hp}{a:Addr}{xs:List V}(e:Aw H H')(h:SqT K H a xs):SqT K H' a xs:=by
 rcases h with (h | ⟨o,h⟩) | h
 ·exact .inl (.inl (e _ _ h))
 ·exact .inl (.inr ⟨o,e _ _ h⟩)
 ·exact .inr h
theorem Av{p:Addr}(h:H p=none)(o:HO):Aw H (upd H p o):=fun b u q=>by rw[Ax (Bj q h)];exact q
theorem En{i j:Int}(h0:0<j)(h1:j<18446744073709551616):rR i j:=⟨h0,Bt.mono (k:=64) (by unfold Bt;lia) nofun⟩
theorem Cu(x y:Nat):Builtin.bitAnd (x:Int) (y:Int)=((x &&& y:Nat):Int):=PyProof.Rows.bitAnd_pp (jl6 x) (jl6 y)
theorem Uu(x:Nat):decide ((0:Int)<=Builtin.bitNot (x:Int))=false:=decide_eq_false (by unfold Builtin.bitNot;lia)
theorem Gv(x y:Nat):Builtin.bitOr (x:Int) (y:Int)=((x ||| y:Nat):Int):=by
 have e:∀z:Int,Builtin.bitNot (Builtin.bitNot z)=z:=fun z=>by unfold Builtin.bitNot;lia
 unfold Builtin.bitOr Builtin.bitAnd;rw[Uu,Uu];dsimp only;rw[e,e,e,zh,zh]
theorem Ut(x y:Nat):Builtin.bitXor (x:Int) (y:Int)=((x ^^^ y:Nat):Int):=by
 show Builtin.bitOr (x:Int) (y:Int)-Builtin.bitAnd (x:Int) (y:Int)=_;rw[Gv,Cu];have h:x ||| y=(x ^^^ y)+(x &&& y):=by
  have a:(x ^^^ y) &&& (x &&& y)=0:=by
   refine vx fun i=>?_;rw[ja5,jq1,ja5,jc7];cases x.testBit i<;>cases y.testBit i<;>rfl
  have b:x ||| y=(x ^^^ y) ||| (x &&& y):=by
   refine vx fun i=>?_;rw[jd4,jd4,jq1,ja5];cases x.testBit i<;>cases y.testBit i<;>rfl
  have c:=PyProof.Rows.bitOr_and ((x ^^^ y:Nat):Int) ((x &&& y:Nat):Int);rw[Gv,Cu,a,<-b] at c;lia
 lia
end
end L2
namespace Att
open PySem PySem.W PySem.Calls PyProof.Rows
theorem Ph:∀{ns:List Int} {n:Int},n∈ns->Builtin.Int.intBits n<=WData.weightAll (ns.map WData.int)
 | m::ns,n,h=>by
  rw[zv];show _<=WData.weight (.int m)+1+WData.weightAll (ns.map WData.int);rcases qf.mp h with rfl | h
  ·have e:WData.weight (.int n)=Builtin.Int.intBits n:=by first | rfl | (unfold Builtin.Int.intBits;rfl) | simp[WData.weight,Builtin.Int.intBits]
   lia
  ·have:=Ph h;lia
theorem aG{ns:List Int}(h:WData.layableAll [WData.list (ns.map WData.int)]=true):∀n∈ns,L2.Bt 1048576 n:=fun n hn=>by
 have h1:WData.layable (WData.list (ns.map WData.int))=true:=(Bool.and_eq_true_iff.mp h).1;have h2:WData.weight (WData.list (ns.map WData.int))<=2^20:=of_decide_eq_true (Bool.and_eq_true_iff.mp h1).2;have h3:=Ph hn;have e:WData.weight (WData.list (ns.map WData.int))=WData.weightAll (ns.map WData.int):=by first | rfl | simp[WData.weight]
 refine PySem.intBits_le_iff.mp ?_;lia
theorem attach_callB{l:OpenLaw}{n:Nat}{q:Program}{loose:List Str}{XP:(Str->Option Value)->Heap->Prop}{YP:World->Heap->Prop}{d:DefRec}
 (hn:l.most=some n)(hdf:d.params.defaults=[])
 (call:∀(w:World) (s₀ s₁:Shared) (mg mb:Str->Option Value) (fa:Addr) (o:Obj) (pm cd doc:Value) (a:Addr) (vs:List Value) (ns:List Int),
  Ground q loose [] XP w s₀ mg mb s₁.heap->YP w s₁.heap->
  s₁.heap.get? fa=some o->o.data=.func (docDef d.name d.params d.body d.scope pm cd doc)->s₁.heap.CodeRec cd d.name->mg d.name=some (.ref fa)->
  s₁.heap.get? a=some { cls:=.type "list",data:=.seq vs.toArray }->IntsAre vs ns->ns.length<=n->(∀n∈ns,L2.Bt 1048576 n)->s₁.gens= #[]->
  codeAny (model l.prog w) callerA (.call (.ref fa) ⟨[.ref a],[]⟩) (fun r s'=>r=.ok (.ret (.bool true))/\OldK s₁.heap s'.heap/\s'.os=s₁.os/\AllBare s'.gens) s₁):
 WalkO q loose XP YP l.row.toRowW d [] (fun f vs=>PySem.call f vs):=by
 intro w s₀ s₁ mg mb G Y fa o pm cd doc dV kV ho hd hcd hD hmg hg args vals as hpre hlay hrd hwl hlo;obtain rfl:dV=.none:=Dflts.none hD hdf;obtain rfl:kV=.none:=Dflts.noKw hD;obtain⟨a,vs,ns,rfl,rfl,hobj,hints,hlen⟩:=iJ hn hpre hwl;refine enter_call (jj0 (call w s₀ s₁ mg mb fa o pm cd doc a vs ns G Y ho (fd_plain hd) hcd hmg hobj hints hlen (aG hlay) hg) fun r s' hq=>?_);obtain⟨rfl,h2,h3,h4⟩:=hq;exact⟨.inl ⟨.bool true,.bool true,[],rfl,fun _=>rfl,.bool true,iy l _,fun _=>⟨List.Pairwise.nil,fun _ hm=>(nomatch hm)⟩⟩,h2,h3,h4⟩
end Att
namespace L2
open PySem PySem.Spec PyProof.Rows
def dj(K:Fr):Sp:=fun vs H Q _=>∃(a:Addr) (ns:List Int),vs=[.ref a]/\SqL K H a (ns.map V.int)/\ns.length<=63/\(∀n∈ns,Bt 1048576 n)/\∀H',Q (.bl true) H'
theorem lK{l:PySem.W.OpenLaw}{k:Nat}{q:Program}{loose:List Str}{XP:(Str->Option Value)->Heap->Prop}{YP:World->Heap->Prop}{d:DefRec}{K:Params->Fr}
 (hn:l.most=some 63)(hdf:d.params.defaults=[])(hr:Cv k callerA)
 (hY:∀(w:World) (h:Heap),YP w h->(K w.params).In h)
 (F:∀(w:World) (mg:Str->Option Value) (fa:Addr) (h:Heap),(K w.params).In h->h.Ns mainGlobals mg->mg d.name=some (.ref fa)->
  ∃fd:FuncData,(∀(s:Shared) (u:Value),BindsTo s fd ⟨[u],[]⟩ [("_law_script",u)])/\
   ∀base:Heap,(K w.params).In base->base.Ns mainGlobals mg->Ei l.prog w (K w.params) mg base CX0 k fa fd ["_law_script"] (dj (K w.params))):
 PySem.W.WalkO q loose XP YP l.row.toRowW d [] (fun f vs=>PySem.call f vs):=by
 refine Att.attach_callB hn hdf fun w s₀ s₁ mg mb fa o pm cd doc a vs ns G Y ho hd hcd hmg hobj hints hlen hbits hg=>?_;have KX:=hY w _ Y;obtain⟨fd,hb,hF⟩:=F w mg fa _ KX G.T.g hmg;exact pX KX G.T.g G.T.b G.T.builtins G.T.nolimit hg hobj hints (qr hlen nofun) hr hF hb (fun H hO hS=>⟨a,ns,rfl,hS,hlen,hbits,fun _=>rfl⟩) fun H e s'=>fun z=>z
noncomputable def Kf(X:Cx)(M:List Str)(x:Str)(scope:Scope)(cl:List (Str×Addr))(C:Addr)(s₀:Shared)(H₀:Hp)(fp:List Addr):Cx:=
 { X with N:=x::M,s₀:=s₀,H₀:=H₀,env:=compEnvC scope cl C X.env,outer:=X.stack,ex:=fp,fn:=fun _=>false,pn:=[],xe:=fun _ _=>False }
noncomputable def DP(X:Cx)(M:List Str)(xs:List Str)(scope:Scope)(cl:List (Str×Addr))(C:Addr)(s₀:Shared)(H₀:Hp)(fp:List Addr):Cx:=
 { X with N:=xs++M,s₀:=s₀,H₀:=H₀,env:=compEnvC scope cl C X.env,outer:=X.stack,ex:=fp,fn:=fun _=>false,pn:=[],xe:=fun _ _=>False }
structure N8(X:Cx)(M:List Str)(xs:List Str)(scope:Scope)(cl:List (Str×Addr)):Prop where
 clos:closureFor scope X.env=pure cl
 cell:∀y∈scope.names,y.2≠.cell
 kind:scope.kind=.function
 names:∀y∈scope.names,y.2=.local->scope.names.lookup y.1=some .local
 xl:∀x∈xs,scope.names.lookup x=some .local
 nd:(xs++M).Nodup
 len:M.length=X.N.length
 sub:∀y c,cl.lookup y=some c->X.env.cells.lookup y=some c
 has:∀y,((relabel scope X.env).names.lookup y=some .cell\/(relabel scope X.env).names.lookup y=some .free)->∃c,cl.lookup y=some c
 vis:∀(i:Nat) (y:Str),M[i]?=some y->Vis (relabel scope X.env) y->X.N[i]?=some y/\((relabel scope X.env).names.lookup y=some .cell\/(relabel scope X.env).names.lookup y=some .free)/\(X.env.scope.names.lookup y=some .cell\/X.env.scope.names.lookup y=some .free)
abbrev YX(X:Cx)(M:List Str)(x:Str)(scope:Scope)(cl:List (Str×Addr)):Prop:=N8 X M [x] scope cl
def kZ(X:Cx)(ifs:List Expr)(t:TT):Prop:=
 ∀(pins:List (Addr×Obj)) (s:Shared) (Z:St) (H:Hp) (Q:Bool->Hp->Prop),Inv X pins Z H s->t Z H Q->
  wpAny (model X.prog X.w) X.A (forIn ifs true fun c r=>if r=true then do let ok <-isTrue c X.env (eval c X.env);pure (ForInStep.yield ok) else pure (ForInStep.yield r)) (TP X pins Z Q) X.xe s
def dR:TT:=fun _ H Q=>Q true H
variable{K:Fr}{Z:St}{H:Hp}{xs:List V}{scope:Scope}{elt iter:Expr}{pos:Pos}{tt:TT}{te:TE}{x:Str}{Q:VK}{ta:TA}
section
variable{X:Cx}
theorem FN:kZ X [] dR:=fun pins s Z H Q I h=>by
 rw[jr7];exact zt ⟨H,I,h⟩
theorem My{c:Expr}{t:TT}(hc:PT X c t):kZ X [c] t:=fun pins s Z H Q I h=>by
 rw[jl8];refine js ?_;rw[xz rfl];refine js (thn (hc s Z H Q I h) fun b s1 q=>zt ?_);dsimp only;rw[jr7];exact zt q
def dY(wi:TI)(tt:TT)(te:TE):TE:=fun Z H Q=>wi Z H fun J H1=>∀D,H1 D=none->∃W:Nat->Nat->List V->Hp->Prop,(∃m,W 0 m [] (upd H1 D (.lst [])))/\
 ∀i m ys H2,W i m ys H2->H2 D=some (.lst ys)/\((J.stop i H2/\Q (.ref D) H2)\/(J.go i H2/\ys.length<sizeLine/\∃m',m'<m/\∀x H3,J.yld i H2 x H3->
  tt (some x::Z) H3 fun b H4=>if b=true then te (some x::Z) H4 fun y H5=>H5 D=some (.lst ys)/\W (i+1) m' (ys++[y]) (upd H5 D (.lst (ys++[y]))) else W (i+1) m' ys H4))
def gU(tt:TT)(te:TE)(Z:St)(Q:VK):It->Hp->Prop:=fun J H1=>∀D,H1 D=none->∃W:Nat->Nat->List V->Hp->Prop,(∃m,W 0 m [] (upd H1 D (.lst [])))/\
 ∀i m ys H2,W i m ys H2->H2 D=some (.lst ys)/\((J.stop i H2/\Q (.ref D) H2)\/(J.go i H2/\ys.length<sizeLine/\∃m',m'<m/\∀x H3,J.yld i H2 x H3->
  tt (some x::Z) H3 fun b H4=>if b=true then te (some x::Z) H4 fun y H5=>H5 D=some (.lst ys)/\W (i+1) m' (ys++[y]) (upd H5 D (.lst (ys++[y]))) else W (i+1) m' ys H4))
theorem qt{M:List Str}{pins:List (Addr×Obj)}{s:Shared}{xs:List Str}{cl:List (Str×Addr)}{C:Addr}{fp:List Addr}(I:Inv X pins Z H s)(ok:N8 X M xs scope cl)(hC:s.heap.objs.size<=C)
 (hf:∀b∈fp,Jm X pins H b)(hb:∀b∈fp,b<s.heap.objs.size):(DP X M xs scope cl C s H fp).Ok where
 mod:=I.ok.mod
 kind:=ok.kind
 glob:=I.ok.glob
 blt:=I.ok.blt
 above:=hC
 inj:=fun y z c h1 h2=>I.ok.inj y z c (ok.sub y c h1) (ok.sub z c h2)
 has:=ok.has
 cab:=fun y c h=>by cases h
 hd:=I.ok.hd
 frames:=I.ok.frames
 stk:=.inl rfl
 exf:=fun b h=>⟨vv (xi (hb b h) hC),fun y c e=>(hf b h).2.2.2.2.1 y c (ok.sub y c e)⟩
 bs:=I.bs
 bsz:=qr I.ok.bsz I.sz
 noex:=fun b o e h=>by
  rcases(hf b h).2.2.2.1 with z | z
  ·exact I.ok.noex b o e z
  ·exact absurd (xi (xk (I.ok.bs b o e).1) z) (jf7 _)
 exfs:=fun b h z=>by
  rcases qf.mp (I.stkSub b z) with e | e
  ·exact(hf b h).2.1 e
  ·exact(hf b h).2.2.1 e
 funs:=I.stack
 frf:=I.stkFree
def Uy(k:Nat)(g:TG)(tt:TT)(te:TE)(Z:St)(Q:VK):It->Hp->Prop:=fun J H1=>∀D,H1 D=none->∃W:Nat->Nat->List V->Hp->Prop,(∃m,W 0 m [] (upd H1 D (.lst [])))/\
 ∀i m ys H2,W i m ys H2->H2 D=some (.lst ys)/\((J.stop i H2/\Q (.ref D) H2)\/(J.go i H2/\ys.length<sizeLine/\∃m',m'<m/\∀x H3,J.yld i H2 x H3->∀ρ:St,ρ.length=k->
  g x (ρ++Z) H3 fun σ2 H4=>∃ρ2:St,ρ2.length=k/\σ2=ρ2++Z/\tt σ2 H4 fun b H5=>if b=true then te σ2 H5 fun y H6=>H6 D=some (.lst ys)/\W (i+1) m' (ys++[y]) (upd H6 D (.lst (ys++[y]))) else W (i+1) m' ys H5))
def lZ(k:Nat)(wi:TI)(g:TG)(tt:TT)(te:TE):TE:=fun Z H Q=>wi Z H (Uy k g tt te Z Q)
section
variable{prog:Program}{w:World}{A:Around}{R:Result->Shared->Prop}
abbrev NB(prog:Program)(w:World)(A:Around)(env:Env)(R:Result->Shared->Prop):Value->Shared->Prop:=notedBy (model prog w) A env fun e s'=>R (.error e) s'
theorem cT{s:Shared}{tg:Expr}{ifs:List Expr}{it acc:Value}{env:Env}(I:Nat->Shared->Prop)
 (turn:∀n s,I n s->wpAny (model prog w) A (pyNext it)
  (fun r s1=>match r with
   | none=>R (.ok .next) s1
   | some v=>wpAny (model prog w) A (letOwnedTupleGo tg it v)
    (fun _ s2=>wpAny (model prog w) A (assign tg env v)
     (fun _ s3=>wpAny (model prog w) A (forIn ifs true fun c r=>if r=true then (isTrue c env (eval c env) >>= fun ok=>pure (ForInStep.yield ok)) else pure (ForInStep.yield r))
      (fun b s4=>if b=true then wpAny (model prog w) A (eval elt env)
       (fun x s5=>wpAny (model prog w) A (call (.builtin "list.append") [acc,x]) (fun _ s6=>∃m,m<n/\I m s6) (NB prog w A env R) s5) (NB prog w A env R) s4
       else ∃m,m<n/\I m s4) (NB prog w A env R) s3) (NB prog w A env R) s2) (NB prog w A env R) s1) (NB prog w A env R) s)
 (n:Nat)(h:I n s):codeAny (model prog w) A (.compLoop (.ListComp elt [⟨tg,iter,ifs,0⟩] scope pos) 0 it acc env) R s:=by
 refine codeAny_loop rfl I (fun n s hI=>?_) n h;refine(show wpAny _ A ((compTurn (.ListComp elt [⟨tg,iter,ifs,0⟩] scope pos) 0 it acc env).onRaise _) _ _ s from wpAny_noted ?_);rw[compTurn_list];refine js (jp0 (js (Qb (turn n s hI) (fun r s1 h1=>?_) fun _ _ z=>z)));cases r with
 | none=>exact zt h1
 | some v=>
  refine js (Qb h1 (fun _ s2 h2=>?_) fun _ _ z=>z);refine js (Qb h2 (fun _ s3 h3=>js (Qb h3 (fun b s4 h4=>?_) fun _ _ z=>z)) fun _ _ z=>z);cases b with
  | false=>exact zt ⟨rfl,h4⟩
  | true=>
   refine js (js (Qb h4 (fun x s5 h5=>?_) fun _ _ z=>z));exact js (Qb h5 (fun _ s6 h6=>zt (zt ⟨rfl,h6⟩)) fun _ _ z=>z)
end
theorem Tr{M:List Str}{tg:Expr}{xs:List Str}{ifs:List Expr}{cl:List (Str×Addr)}{g:TG}(hc:X.calm=true)(ok:N8 X M xs scope cl)
 (ht:∀C s₀ H₀ fp,kZ (DP X M xs scope cl C s₀ H₀ fp) ifs tt)(hg:∀C s₀ H₀ fp,PG (DP X M xs scope cl C s₀ H₀ fp) tg g)(he:∀C s₀ H₀ fp,PE (DP X M xs scope cl C s₀ H₀ fp) elt te)
 {pins:List (Addr×Obj)}{Z:St}{H2:Hp}{s2:Shared}{it:Addr}{fp:List Addr}{tn:Nat->Heap->Prop}{J:It}{Q:VK}(I2:Inv X pins Z H2 s2)(T:Turn X.prog X.w X.K tg J fp it tn)(st2:tn 0 s2.heap)(f2:∀b∈fp,Jm X pins H2 b)
 (hW:Uy xs.length g tt te Z Q J H2)(post:Value->Addr->Result->Shared->Prop)
 (fin:∀D C H3 s4,Inv X pins Z H3 s4->(∃m,s4.heap.Ns C m)->Jm X pins H3 C->Q (.ref D) H3->post (.ref D) C (.ok .next) s4):
 wpAny (model X.prog X.w) X.A (newList []) (fun acc s₃=>wpAny (model X.prog X.w) X.A (newFunctionEnv scope X.env.globals cl [] X.env.qual none .none (some X.env)) (fun cenv s₄=>
  codeAny (model X.prog X.w) X.A (.compStart (.ListComp elt [⟨tg,iter,ifs,0⟩] scope pos) 0 (.ref it) acc { cenv with scope:=relabel scope X.env }) (post acc cenv.locals) s₄) X.xe s₃) X.xe s2:=by
 refine jd3 (wpAny_newFunctionEnv ok.cell (by intro y hy;simp at hy) (fun h₁ hns₁ hsb₁=>?_) ok.kind);dsimp only at hns₁ hsb₁ ⊢;generalize hH2:s2.heap.push { cls:=.type "list",dict:=none,data:=.seq ([]:List Value).toArray }=G2 at hns₁ hsb₁ ⊢;have hC:G2.objs.size=s2.heap.objs.size+1:=by rw[<-hH2,jh6]
 have hDC:s2.heap.objs.size≠G2.objs.size:=by rw[hC];exact vv (jo6 _)
 have hCle:s2.heap.objs.size<=G2.objs.size:=by rw[hC];exact jw6 _
 have below:∀b,b<s2.heap.objs.size->b≠G2.objs.size/\b≠s2.heap.objs.size:=fun b hb=>⟨by rw[hC];exact vv (Nat.lt_succ_of_lt hb),vv hb⟩;have old:∀b o,s2.heap.get? b=some o->h₁.get? b=some o:=fun b o e=>hsb₁.extBut b o (below b (xk e)).1 (jv _ (hH2 ▸ jv _ e));have hacc:h₁.get? s2.heap.objs.size=some { cls:=.type "list",data:=.seq ([]:List Value).toArray }:=hsb₁.extBut _ _ hDC (jv _ (hH2 ▸ xa _ rfl));have fpb:∀b∈fp,b<s2.heap.objs.size:=fun b hb=>by
  obtain⟨o,e,_⟩:=T.obj _ _ st2 b hb;exact xk e
 have hD0:H2 s2.heap.objs.size=none:=I2.hok.fresh (qg _);have hC0:H2 G2.objs.size=none:=I2.hok.fresh hCle;generalize hDD:s2.heap.objs.size=D at*
 generalize hCC:G2.objs.size=C at*
 obtain⟨W,⟨m0,w0⟩,turn⟩:=hW D hD0;have okX:(DP X M xs scope cl C s2 H2 fp).Ok:=qt I2 ok (by rw[hDD];exact hCle) f2 (by rw[hDD];exact fpb);have lenN:(List.replicate xs.length none++Z:St).length=(DP X M xs scope cl C s2 H2 fp).N.length:=by
  show(List.replicate xs.length none++Z).length=(xs++M).length;rw[qc,qc,jc0,I2.len,ok.len]
 have locs:∀(h':Heap) (m:Str->Option Value),(∀y c,X.env.cells.lookup y=some c->∀v,s2.heap.IsCell c v->h'.IsCell c v)->
  ∀(j:Nat) (y:Str) (v:V),(xs++M)[j]?=some y->(List.replicate xs.length none++Z:St)[j]?=some (some v)->Vis (relabel scope X.env) y->∃u,RelV v u/\Look (compEnvC scope cl C X.env) h' m y u:=by
  intro h' m hcell j y v e1 e2 e3;rcases Nat.lt_or_ge j xs.length with jl | jl
  ·rw[jj7 (by rw[jc0];exact jl),jt4,xz jl] at e2;cases e2
  ·obtain⟨i,rfl⟩:∃i,j=xs.length+i:=⟨j-xs.length,⋯⟩;have e0:M[i]?=some y:=by
    rw[jf3 (Zp _ _),jt5] at e1;exact e1
   have e2':Z[i]?=some (some v):=by
    rw[jf3 (by rw[jc0];exact Zp _ _),jc0,jt5] at e2;exact e2
   obtain⟨e1',k1,k2⟩:=ok.vis i y e0 e3;obtain⟨m2,_,hl⟩:=I2.loc;obtain⟨u,r,l⟩:=hl i y v e1' e2' (k2.elim (fun z=>.inr (.inl z)) fun z=>.inr (.inr z));obtain⟨c',hc'⟩:=ok.has y k1;rcases l with ⟨z,_⟩ | ⟨_,c,hcc,z⟩
   ·have z':X.env.scope.names.lookup y=some .local:=z;rcases k2 with q | q<;>(rw [q] at z';cases z')
   ·have q:=ok.sub y c' hc';rw[hcc] at q;cases q;exact⟨u,r,.inr ⟨k1,c',hc',hcell y c' hcc _ z⟩⟩
 have I0:Inv (DP X M xs scope cl C s2 H2 fp) [] (List.replicate xs.length none++Z) (upd H2 D (.lst [])) { s2 with heap:=h₁,toks:=s2.toks+([]:List (Str×Value)).length }:=by
  refine⟨okX,rfl,I2.bare,?_,⟨_,hns₁,locs h₁ _ (fun y c e v z=>?_)⟩,fun y c e=>?_,?_,fun y c e=>?_,fun p hp=>?_,?_,lenN⟩
  ·exact Un.laid old (jl1 hDD) hD0
  ·obtain⟨o,ho,hd⟩:=z;exact⟨o,old c o ho,hd⟩
  ·obtain⟨v,o,ho,hd⟩:=I2.cell y c (ok.sub y c e);exact⟨v,o,old c o ho,hd⟩
  ·show upd H2 D (.lst []) C=none;rw[Ax (Ne.symm hDC)];exact hC0
  ·have hn:=I2.freeC y c (ok.sub y c e);obtain⟨v,o,ho,hd⟩:=I2.cell y c (ok.sub y c e);rw[Ax (fun z=>by have:=xk ho;rw[hDD,z] at this;exact jf7 _ this)];exact hn
  ·exact absurd hp (by show p∉([]++[]:List (Addr×Obj));simp)
  ·refine I2.hok.laid old (jl1 hDD) ⟨vt _,[],_,.nil,hacc⟩
 have fpk:∀{H':Hp},(∀b∈fp,H' b=none)->∀b∈fp,Jm (DP X M xs scope cl C s2 H2 fp) [] H' b:=fun hn b hb=>by
  refine⟨hn b hb,(below b (fpb b hb)).1,okX.exfs b hb,.inl hb,fun y c e=>(f2 b hb).2.2.2.2.1 y c (ok.sub y c e),fun p hp=>?_⟩;exact absurd hp (by show p∉([]++[]:List (Addr×Obj));simp)
 have loop:∀s₃:Shared,s₃={ s2 with heap:=h₁,toks:=s2.toks+([]:List (Str×Value)).length }->
  codeAny (model X.prog X.w) X.A (.compLoop (.ListComp elt [⟨tg,iter,ifs,0⟩] scope pos) 0 (.ref it) (.ref D) (compEnvC scope cl C X.env))
   (post (.ref D) C) s₃:=by
  rintro s₃ rfl;refine cT (fun n s'=>∃i ys w' H',w'.length=xs.length/\Inv (DP X M xs scope cl C s2 H2 fp) [] (w'++Z) H' s'/\tn i s'.heap/\(∀b∈fp,H' b=none)/\W i n ys H') ?_ m0
   ⟨0,[],List.replicate xs.length none,_,jc0,I0,T.keep _ _ _ st2 (fun b _ o e=>old b o e),fun b hb=>by rw[Ax (below b (fpb b hb)).2];exact(f2 b hb).1,w0⟩
  rintro n s3 ⟨i,ys,w3,H3,l3,I3,st3,fr3,wt⟩;obtain⟨hD3,hh⟩:=turn i n ys H3 wt;rcases hh with ⟨stop,q⟩ | ⟨go,hlen,m',hm,step⟩
  ·refine thn (T.done (DP X M xs scope cl C s2 H2 fp) rfl rfl rfl hc i [] s3 (w3++Z) H3 _ I3 (fpk fr3) st3 stop) fun r s4 ⟨hr,I4⟩=>?_;subst hr;obtain⟨m4,hn4,_⟩:=id I4.loc;have hC4:H3 C=none:=I4.free;exact fin D C H3 s4 (I2.call' (ch:=fp) I4.os I4.base I4.hok I4.bare fun b hb=>⟨(f2 b hb).2.2.2.1,(f2 b hb).2.1,(f2 b hb).2.2.2.2.1,(f2 b hb).2.2.2.2.2⟩) ⟨m4,hn4⟩ (I2.fpOk (by rw[hDD];exact hCle) hC4) q
  ·refine Qb (T.item (DP X M xs scope cl C s2 H2 fp) rfl rfl rfl hc i [] s3 (w3++Z) H3 (fun _ _=>False) I3 (fpk fr3) st3 go) (fun r s4 h4=>?_) (fun _ _ z=>z.elim);obtain⟨u,hr,h4⟩:=h4;subst hr;refine Qb h4 (fun _ s4 h4=>?_) (fun _ _ z=>z.elim);obtain⟨x',H5,I5,r5,y5,st5,fr5⟩:=h4;have I5':=I5.pinned (fpk fr5) (T.obj _ _ st5);refine Qb (hg C s2 H2 fp s4 _ H5 x' u _ I5' r5 (step x' H5 y5 w3 l3)) (fun _ s6 h6=>?_) (fun _ _ z=>z.elim);obtain⟨σ6,H6,I6,w6,l6,rfl,q6⟩:=h6;have back:∀{s7:Shared} {H7:Hp} {w7:St},Inv (DP X M xs scope cl C s2 H2 fp) ([]++Su fp s4.heap) (w7++Z) H7 s7->tn (i+1) s7.heap/\(∀b∈fp,H7 b=none)/\Inv (DP X M xs scope cl C s2 H2 fp) [] (w7++Z) H7 s7:=fun{s7 H7 w7} I7=>by
    refine⟨T.keep _ _ _ st5 fun b hb o e=>(I7.pin (b,o) (yv _ (yv _ (Gq hb e)))).1,fun b hb=>?_,I7.unpinned⟩;obtain⟨o,e,d⟩:=T.obj _ _ st5 b hb;exact(I7.pin (b,o) (yv _ (yv _ (Gq hb e)))).2.1
   refine Qb (ht C s2 H2 fp _ s6 _ H6 _ I6 q6) (fun ok' s7 h7=>?_) (fun _ _ z=>z.elim);obtain⟨H7,I7,q7⟩:=h7;cases ok' with
   | false=>
    have q7':W (i+1) m' ys H7:=by simpa using q7
    rw[yb zk];obtain⟨b1,b2,b3⟩:=back I7;exact⟨m',hm,i+1,ys,_,H7,l6,b3,b1,b2,q7'⟩
   | true=>
    rw[xz rfl] at q7 ⊢;refine Qb (he C s2 H2 fp s7 _ H7 _ I7 q7) (fun y s8 h8=>?_) (fun _ _ z=>z.elim);obtain⟨v8,H8,I8,r8,hD8,w8⟩:=h8;refine Qb (Hj (X:=DP X M xs scope cl C s2 H2 fp) _ s8 _ H8 (.ref D) [v8] (.ref D) [y] (fun _ H9=>H9=upd H8 D (.lst (ys++[v8]))) I8 rfl (.cons r8 .nil) ⟨D,ys,v8,rfl,rfl,hD8,hlen,rfl⟩) (fun _ s9 h9=>?_) (fun _ _ z=>z.elim);obtain⟨v9,H9,I9,_,e9⟩:=h9;subst e9;obtain⟨b1,b2,b3⟩:=back I9;exact⟨m',hm,i+1,_,_,_,l6,b3,b1,b2,w8⟩
 exact codeAny_compStart_list (loop _ rfl) (T.self _ 0 _ _ _ (T.keep _ _ _ st2 (fun b _ o e=>old b o e)) (loop _ rfl))
theorem ju{M:List Str}{px:Pos}{ifs:List Expr}{cl:List (Str×Addr)}(hc:X.calm=true)(ok:YX X M x scope cl)
 (ht:∀C s₀ H₀ fp,kZ (Kf X M x scope cl C s₀ H₀ fp) ifs tt)(he:∀C s₀ H₀ fp,PE (Kf X M x scope cl C s₀ H₀ fp) elt te)
 {pins:List (Addr×Obj)}{Z:St}{H2:Hp}{s2:Shared}{it:Addr}{fp:List Addr}{tn:Nat->Heap->Prop}{J:It}{Q:VK}(I2:Inv X pins Z H2 s2)(T:Turn X.prog X.w X.K (.Name x px) J fp it tn)(st2:tn 0 s2.heap)(f2:∀b∈fp,Jm X pins H2 b)
 (hW:gU tt te Z Q J H2)(post:Value->Addr->Result->Shared->Prop)
 (fin:∀D C H3 s4,Inv X pins Z H3 s4->(∃m,s4.heap.Ns C m)->Jm X pins H3 C->Q (.ref D) H3->post (.ref D) C (.ok .next) s4):
 wpAny (model X.prog X.w) X.A (newList []) (fun acc s₃=>wpAny (model X.prog X.w) X.A (newFunctionEnv scope X.env.globals cl [] X.env.qual none .none (some X.env)) (fun cenv s₄=>
  codeAny (model X.prog X.w) X.A (.compStart (.ListComp elt [⟨.Name x px,iter,ifs,0⟩] scope pos) 0 (.ref it) acc { cenv with scope:=relabel scope X.env }) (post acc cenv.locals) s₄) X.xe s₃) X.xe s2:=
 Tr (g:=HR 0) hc ok ht (fun C s₀ H₀ fp=>DX ok.nd rfl (.inl (lookup_relabel_local (ok.xl _ (.head _)))) (.inr (lookup_relabel_local (ok.xl _ (.head _))))) he I2 T st2 f2 (fun D hD=>by
  obtain⟨W,w0,turn⟩:=hW D hD;refine⟨W,w0,fun i m ys H3 wt=>?_⟩;obtain⟨hD3,hh⟩:=turn i m ys H3 wt;refine⟨hD3,hh.imp id fun h=>?_⟩;obtain⟨go,hlen,m',hm,step⟩:=h;refine⟨go,hlen,m',hm,fun x' H5 y5 ρ hρ=>?_⟩
  match ρ,hρ with
  | [a],_=>exact⟨[some x'],rfl,rfl,step x' H5 y5⟩) post fin
theorem FZ{M:List Str}{px:Pos}{ifs:List Expr}{cl:List (Str×Addr)}{wi:TI}(hc:X.calm=true)(ok:YX X M x scope cl)(hi:PI X (.Name x px) iter wi)
 (ht:∀C s₀ H₀ fp,kZ (Kf X M x scope cl C s₀ H₀ fp) ifs tt)(he:∀C s₀ H₀ fp,PE (Kf X M x scope cl C s₀ H₀ fp) elt te)
 (hs:∀x,foldedSetIterable iter X.env x=pure x:=by intro _;rfl):
 PE X (.ListComp elt [⟨.Name x px,iter,ifs,0⟩] scope pos) (dY wi tt te):=by
 intro pins s Z H Q I h;rw[eval_ListComp];refine wpAny_comprehension_free (use:=none) rfl hs ok.clos ok.kind ok.names (thn (hi s Z H _ I h) fun xv s1 h1=>thn h1 fun itv s2 h2=>?_);obtain⟨it,fp,tn,J,H2,e,I2,T,st2,f2,hW⟩:=h2;subst e;refine ju hc ok ht he I2 T st2 f2 hW (compPost (model X.prog X.w) X.A X.xe none (EP X pins Z Q)) fun D C H3 s4 I4 hm fC q=>?_;obtain⟨m,hn⟩:=hm;exact⟨m,hn,fun h' hsb=>⟨.ref D,H3,I4.turned (t':=s4.toks) (fun b o hb e=>hsb.extBut b o hb e) fC.1 fC.2.1 fC.2.2.2.1 fC.2.2.2.2.1 fC.2.2.2.2.2,rfl,q⟩⟩
theorem Yc:∀{bs:List Bool} {us:List Value},Vals (bs.map V.bl) us->us=bs.map Value.bool
 | [],_,.nil=>rfl
 | b::bs,u::us,.cons r t=>by
  cases (show u=Value.bool b from r);rw[Yc t];rfl
theorem bT(bs:List Bool):((List.range bs.length).all fun i=>(bs[i]?).getD true)=bs.all id:=by
 induction bs with
 | nil=>rfl
 | cons b bs ih=>
  rw[qh,List.range_succ_eq_map,jl7,jn7,jl7,<-ih];rfl
theorem vP{s:Shared}{h':Heap}{o:Obj}(hk:∀b x,b∉[s.heap.objs.size]->(s.heap.push o).get? b=some x->h'.get? b=some x):∀b x,s.heap.get? b=some x->h'.get? b=some x:=
 fun b x e=>hk b x (fun hm=>by rw[zw.mp hm] at e;exact jf7 _ (xk e)) (jv _ e)
theorem UL(hc:X.calm=true):HS X (.builtin "all") (fun xs H Q=>∃(p:Addr) (bs:List Bool),xs=[.ref p]/\SqL X.K H p (bs.map V.bl)/\Q (.bl (bs.all id)) H):=by
 intro pins s Z H xs us Q I r h;obtain⟨p,bs,rfl,hq,q⟩:=h;obtain⟨u,rfl,ru⟩:=vals1 r;cases (show u=Value.ref p from ru);obtain⟨its,rv,pl,_⟩:=I.list hq;obtain rfl:=Yc rv;have hl:=pl.isList;have hlt:p<s.heap.objs.size:=by obtain⟨_,e,_⟩:=id hl;exact xk e
 refine call_all_walk (je8 hl ?_);refine⟨s.heap.objs.size,[s.heap.objs.size,p],[s.heap.objs.size],(bs.map Value.bool).toArray.size,_,_,fun i=>(bs[i]?).getD true,rfl,Walks.list (A:=X.A.in1) (I.ok.hd hc) _ p (vv hlt) (bs.map Value.bool).toArray,
  ⟨⟨_,xa _ rfl,rfl,rfl⟩,hl.push _⟩,fun i v s' Q' E' hP hQ=>?_,fun h' tk hk=>?_⟩
 ·have hP':(bs.map Value.bool)[i]?=some v:=by simpa using hP
  rw[qq] at hP';cases e:bs[i]? with
  | none=>rw[e] at hP';cases hP'
  | some b=>
   rw[e] at hP';cases hP';simp only[e,Option.getD_some] at hQ;exact jc1 hQ
 ·have e:((List.range (bs.map Value.bool).toArray.size).all fun i=>(bs[i]?).getD true)=bs.all id:=by
   rw[xc,jp];exact bT bs
  rw[e];exact⟨.bl _,H,I.kept (vP hk),rfl,q⟩
theorem lookup_mem{κ β:Type}[BEq κ][LawfulBEq κ]{k:κ}{v:β}:∀{l:List (κ×β)},l.lookup k=some v->(k,v)∈l
 | (a,b)::r,h=>by
  rw[List.lookup_cons] at h;cases e:k==a with
  | true=>
   rw[e] at h;cases h;rw[eq_of_beq e];exact qm
  | false=>
   rw[e] at h;exact qv _ (lookup_mem h)
theorem Vc{env:Env}(h:∀y∈scope.names,y.2≠.free):(relabel scope env).names=scope.names:=
 map_eq_self fun x hx=>by
  obtain⟨n,k⟩:=x;have:(k==NameKind.free)=false:=by simpa using h _ hx
  simp[this]
theorem Gu(N:List Str)(hN:X.N=N)(hf:∀y∈scope.names,y.2≠.free/\y.2≠.cell)(hk:scope.kind=.function)(hn:∀y∈scope.names,y.2=.local->scope.names.lookup y.1=some .local)
 (hx:scope.names.lookup x=some .local)(nd:(x::N).Nodup)(vis:∀y∈N,scope.names.lookup y≠some .local):YX X N x scope []:=by
 have e:=Vc (env:=X.env) fun y hy=>(hf y hy).1;refine⟨closureFor_none fun y hy=>(hf y hy).1,fun y hy=>(hf y hy).2,hk,hn,fun y h=>zw.mp h ▸ hx,nd,by rw[hN],fun y c h=>(by cases h),fun y h=>?_,fun i y hy h=>?_⟩
 ·rw[e] at h;rcases h with h | h
  ·exact absurd rfl (hf _ (lookup_mem h)).2
  ·exact absurd rfl (hf _ (lookup_mem h)).1
 ·rcases h with h | h | h
  ·rw[e] at h;exact absurd h (vis y (xb hy))
  ·rw[e] at h;exact absurd rfl (hf _ (lookup_mem h)).2
  ·rw[e] at h;exact absurd rfl (hf _ (lookup_mem h)).1
structure Walk(J:It)(ok:Hp->Prop)(xs:List V):Prop where
 go:∀i H,ok H->i<xs.length->J.go i H
 yld:∀i H x H',ok H->J.yld i H x H'->i<xs.length->H'=H/\xs[i]?=some x
 stop:∀i H,ok H->xs.length<=i->J.stop i H
theorem OJ{a:Addr}:Walk (Itl K a) (fun H=>SqL K H a xs) xs:=
 ⟨fun i H h hi=>⟨xs,xs[i],h,by simp[hi]⟩,fun i H x H' h y hi=>⟨y.1,y.2 xs h⟩,fun i H h hi=>⟨xs,h,hi⟩⟩
theorem lJ{a:Addr}:Walk (Itt K a) (fun H=>SqT K H a xs) xs:=
 ⟨fun i H h hi=>⟨xs,xs[i],h,by simp[hi]⟩,fun i H x H' h y hi=>⟨y.1,y.2 xs h⟩,fun i H h hi=>⟨xs,h,hi⟩⟩
theorem yH{lo:Int}{n:Nat}:Walk (Itr lo n) (fun _=>True) ((List.range n).map fun i=>V.int (lo+(i:Nat))):=
 ⟨fun i H _ hi=>(by show i<n;simpa using hi),fun i H x H' _ y hi=>⟨y.1,by
  have hi':i<n:=by simpa using hi
  rw[y.2];simp[hi']⟩,fun i H _ hi=>(by show n<=i;simpa using hi)⟩
theorem gF{J:It}{ok:Hp->Prop}(Wk:Walk J ok xs)(hz:xs.length<sizeLine)(hok:∀D ys,H D=none->ok (upd H D (.lst ys)))(p:V->Bool)(f:V->V)
 (ht:∀x∈xs,∀D ys (Q':Bool->Hp->Prop),H D=none->Q' (p x) (upd H D (.lst ys))->tt (some x::Z) (upd H D (.lst ys)) Q')
 (he:∀x∈xs,p x=true->∀D ys (Q':VK),H D=none->Q' (f x) (upd H D (.lst ys))->te (some x::Z) (upd H D (.lst ys)) Q')
 (h:∀D,H D=none->Q (.ref D) (upd H D (.lst ((xs.filter p).map f)))):
 ∀D,H D=none->∃W:Nat->Nat->List V->Hp->Prop,(∃m,W 0 m [] (upd H D (.lst [])))/\
  ∀i m ys H2,W i m ys H2->H2 D=some (.lst ys)/\((J.stop i H2/\Q (.ref D) H2)\/(J.go i H2/\ys.length<sizeLine/\∃m',m'<m/\∀x H3,J.yld i H2 x H3->
   tt (some x::Z) H3 fun b H4=>if b=true then te (some x::Z) H4 fun y H5=>H5 D=some (.lst ys)/\W (i+1) m' (ys++[y]) (upd H5 D (.lst (ys++[y]))) else W (i+1) m' ys H4)):=by
 intro D hD;refine⟨fun i m ys H2=>i<=xs.length/\m=xs.length-i/\ys=((xs.take i).filter p).map f/\H2=upd H D (.lst ys),⟨_,vt _,rfl,by simp,rfl⟩,?_⟩;rintro i m ys H2 ⟨hi,rfl,hys,rfl⟩;refine⟨Am,?_⟩;by_cases hlt:i<xs.length
 ·have hl:ys.length<=i:=by
   rw[hys,jp];exact qr (jb9 _ _) (by rw[jb6];lia)
  refine .inr ⟨Wk.go i _ (hok D ys hD) hlt,⋯,xs.length-(i+1),⋯,fun x H3 hy=>?_⟩;obtain⟨e3,ex⟩:=Wk.yld i _ x H3 (hok D ys hD) hy hlt;subst e3;have hm:x∈xs:=xb ex;have et:xs.take (i+1)=xs.take i++[x]:=by rw[ja0,ex];rfl
  refine ht x hm D ys _ hD ?_;cases hp:p x with
  | false=>
   rw[yb zk];refine⟨hlt,rfl,?_,rfl⟩;rw[et,jd7,hys];simp[hp]
  | true=>
   rw[xz rfl];refine he x hm hp D ys _ hD ⟨Am,hlt,rfl,?_,by rw[rm]⟩;rw[et,jd7,hys];simp[hp]
 ·have e:i=xs.length:=⋯
  subst e;refine .inl ⟨Wk.stop _ _ (hok D ys hD) (qg _),?_⟩;rw[hys,jb7];exact h D hD
theorem XX{R:It->Hp->Prop}(h:ta Z H fun vs H1=>∃j:Int,vs=[.int j]/\ -(2^62)<=j/\j<2^62/\R (Itr 0 j.toNat) H1):xg ta Z H R:=h
theorem Gd{wi:TI}(h:wi Z H (gU tt te Z Q)):dY wi tt te Z H Q:=h
theorem Ig{J:It}{ok:Hp->Prop}(Wk:Walk J ok xs)(hz:xs.length<sizeLine)(hok:∀D ys,H D=none->ok (upd H D (.lst ys)))(p:V->Bool)(f:V->V)
 (ht:∀x∈xs,∀D ys (Q':Bool->Hp->Prop),H D=none->Q' (p x) (upd H D (.lst ys))->tt (some x::Z) (upd H D (.lst ys)) Q')
 (he:∀x∈xs,p x=true->∀D ys (Q':VK),H D=none->Q' (f x) (upd H D (.lst ys))->te (some x::Z) (upd H D (.lst ys)) Q')
 (h:∀D,H D=none->Q (.ref D) (upd H D (.lst ((xs.filter p).map f)))):gU tt te Z Q J H:=gF Wk hz hok p f ht he h
theorem cU{i:Nat}{a:Addr}(ei:Z[i]?=some (some (.ref a)))(hS:SqT K H a xs)(hz:xs.length<sizeLine)(p:V->Bool)(f:V->V)
 (ht:∀x∈xs,∀D ys (Q':Bool->Hp->Prop),H D=none->Q' (p x) (upd H D (.lst ys))->tt (some x::Z) (upd H D (.lst ys)) Q')
 (he:∀x∈xs,p x=true->∀D ys (Q':VK),H D=none->Q' (f x) (upd H D (.lst ys))->te (some x::Z) (upd H D (.lst ys)) Q')
 (h:∀D,H D=none->Q (.ref D) (upd H D (.lst ((xs.filter p).map f)))):dY (vV K (Ju i)) tt te Z H Q:=
 by unfold dY vV;exact MK ei ⟨a,rfl,⟨_,hS⟩,gF lJ hz (fun D ys hD=>(Av hD _).tup hS) p f ht he h⟩
theorem RD{Q:Bool->Hp->Prop}(h:Q true H):dR Z H Q:=h
theorem Io{cl:List (Str×Addr)}(xs M N:List Str)(hl:M.length=N.length)(hN:X.N=N)(clos:closureFor scope X.env=pure cl)(hc:(scope.names.all fun y=>y.2 != .cell)=true)(hk:scope.kind=.function)
 (hn:(scope.names.all fun y=>y.2 != .local||scope.names.lookup y.1==some .local)=true)(hx:(xs.all fun x=>scope.names.lookup x==some .local)=true)(nd:(xs++M).Nodup)
 (hs:∀p∈cl,X.env.cells.lookup p.1=some p.2)
 (hh:((relabel scope X.env).names.all fun p=>(p.2 != .cell&&p.2 != .free)||(cl.lookup p.1).isSome)=true)
 (hv:((M.zip N).all fun q=>match (relabel scope X.env).names.lookup q.1 with
  | some .local=>false
  | some .cell=>q.1==q.2&&(X.env.scope.names.lookup q.1==some .cell||X.env.scope.names.lookup q.1==some .free)
  | some .free=>q.1==q.2&&(X.env.scope.names.lookup q.1==some .cell||X.env.scope.names.lookup q.1==some .free)
  | _=>true)=true):N8 X M xs scope cl:=by
 refine⟨clos,fun y hy=>?_,hk,fun y hy hl=>?_,(fun x hm=>by simpa using ja6.mp hx x hm),nd,by rw[hN];exact hl,fun y c h=>hs _ (lookup_mem h),fun y h=>?_,fun i y hy h=>?_⟩
 ·have:=ja6.mp hc y hy;simpa using this
 ·have:=ja6.mp hn y hy;simpa [hl] using this
 ·rcases h with h | h
  ·have:=ja6.mp hh _ (lookup_mem h);exact jg6.mp (by simpa using this)
  ·have:=ja6.mp hh _ (lookup_mem h);exact jg6.mp (by simpa using this)
 ·have hi:i<N.length:=by
   have:=(xp.mp hy).1;lia
  have hz:(y,N[i])∈M.zip N:=by
   have:(M.zip N)[i]?=some (y,N[i]):=jr8.mpr ⟨hy,by simp[hi]⟩;exact xb this
  have z:=ja6.mp hv _ hz;have fin:y=N[i]->X.N[i]?=some y:=fun e=>by rw[hN,e];simp[hi]
  rcases h with h | h | h
  ·dsimp only at z;rw[h] at z;cases z
  ·dsimp only at z;rw[h] at z;simp only[Jn,jb2,jp1] at z;exact⟨fin z.1,.inl h,z.2⟩
  ·dsimp only at z;rw[h] at z;simp only[Jn,jb2,jp1] at z;exact⟨fin z.1,.inr h,z.2⟩
theorem Em{cl:List (Str×Addr)}(M N:List Str)(hl:M.length=N.length)(hN:X.N=N)(clos:closureFor scope X.env=pure cl)(hc:(scope.names.all fun y=>y.2 != .cell)=true)(hk:scope.kind=.function)
 (hn:(scope.names.all fun y=>y.2 != .local||scope.names.lookup y.1==some .local)=true)(hx:scope.names.lookup x=some .local)(nd:(x::M).Nodup)
 (hs:∀p∈cl,X.env.cells.lookup p.1=some p.2)
 (hh:((relabel scope X.env).names.all fun p=>(p.2 != .cell&&p.2 != .free)||(cl.lookup p.1).isSome)=true)
 (hv:((M.zip N).all fun q=>match (relabel scope X.env).names.lookup q.1 with
  | some .local=>false
  | some .cell=>q.1==q.2&&(X.env.scope.names.lookup q.1==some .cell||X.env.scope.names.lookup q.1==some .free)
  | some .free=>q.1==q.2&&(X.env.scope.names.lookup q.1==some .cell||X.env.scope.names.lookup q.1==some .free)
  | _=>true)=true):YX X M x scope cl:=Io [x] M N hl hN clos hc hk hn (by simp[hx]) nd hs hh hv
noncomputable def lA(lo c:Int)(n:Nat):It:=⟨fun i _=>i<n,fun i H x H'=>H'=H/\x=.int (lo+i*c),fun i _=>n<=i⟩
theorem Yg{P:Program}{w:World}{tg:Expr}(it:Addr)(lo c:Int)(n:Nat):Turn P w K tg (lA lo c n) [it] it (fun i h=>IsRangeIter h it (lo+(i:Nat)*c) ((n:Int)-(i:Nat)) c) where
 mem:=by simp
 obj:=fun i h st b hb=>by
  have e:b=it:=by simpa using hb
  subst e;exact⟨_,st,fun v z=>by
   have z':Data.fields _=Data.cell v:=z;cases z'⟩
 keep:=fun i h h' st k=>k it (by simp) _ st
 item:=by
  intro X hP hw hK hc i pins s Z H E I hf st hg;subst hP hw hK;obtain⟨f0,f1,f2,f3,f4,f5⟩:=hf it (by simp);have W:=Walks.range (prog:=X.prog) (w:=X.w) (I.ok.hd hc) it lo c n;refine W.item i s _ _ hg st fun v h' tk hv st' kk=>?_;obtain⟨t,rfl⟩:=hv;have I1:Inv X pins Z H { s with heap:=h',toks:=tk }:=I.turned (fun b o hb e=>kk b o (by simpa using hb) e) f0 f1 f3 f4 f5;exact⟨_,rfl,Zh (s:={ s with heap:=h',toks:=tk }) (n:="range_iterator") st' rfl rfl nofun ⟨.int (lo+i*c),H,I1,⟨t,rfl⟩,⟨rfl,rfl⟩,st',fun b hb=>(hf b hb).1⟩⟩
 done:=by
  intro X hP hw hK hc i pins s Z H E I hf st hg;subst hP hw hK;obtain⟨f0,f1,f2,f3,f4,f5⟩:=hf it (by simp);exact wpAny_pyNext_range_end (I.ok.hd hc) st (by have:n<=i:=hg;lia) fun h' eb=>⟨rfl,I.turned (t':=s.toks) (fun b o hb e=>eb b o hb e) f0 f1 f3 f4 f5⟩
 self:=fun _ _ _ _ _ st h=>wpAny_pyIter_rangeiter st h
def xf(ta:TA):TI:=fun Z H R=>ta Z H fun vs H1=>∃i j c:Int,vs=[.int i,.int j,.int c]/\0<c/\c<1073741824/\Builtin.Range.small i j c=true/\∃n:Nat,(n:Int)=Builtin.Range.rangeSize i j c/\R (lA i c n) H1
theorem O1{tg:Expr}{a b d:Expr}{p:Pos}(hg:Gl X "range")(hm:X.mg "range"=none)(ha:PA X [a,b,d] ta)(hs:‹starEach [a,b,d] X.env=(false,eval a X.env)::starEach [b,d] X.env›)
 (hpl:‹(backTo pos (starEach [b,d] X.env)).any (·.1)=false›):PI X tg (.Call (.Name "range" p) [a,b,d] [] pos) (xf ta):=by
 intro pins s Z H R I h;refine Call_ (Hm I hg hm boot_range (ki (thn (ha (pos:=pos) pins s Z H _ I h) fun us s1 hZ=>?_) hs hpl));obtain⟨vs,H1,I1,r1,q1⟩:=hZ;obtain⟨lo,hi,c,e,c0,c1,sm,n,hn,q⟩:=q1;subst e;cases r1 with
 | cons r rr=>
  cases rr with
  | cons r' rr=>
   cases rr with
   | cons r'' rr=>
    cases rr;obtain⟨t,rfl⟩:=r;obtain⟨t',rfl⟩:=r';obtain⟨t'',rfl⟩:=r'';refine PySem.call_range_3 ⋯ ?_ (Or.inl (PyProof.noPylong_small ⋯));refine wpAny_pyIter_range (IsRange.new ..) sm ?_;have I2:Inv X pins Z H1 { s1 with heap:=s1.heap.push { cls:=.type "range",data:=.fields #[.int lo t,.int hi t',.int c t''] },toks:=s1.toks }:=I1.kept fun b o e=>jv _ e;refine⟨(s1.heap.push { cls:=.type "range",data:=.fields #[.int lo t,.int hi t',.int c t''] }).objs.size,[(s1.heap.push { cls:=.type "range",data:=.fields #[.int lo t,.int hi t',.int c t''] }).objs.size],_,_,H1,rfl,
     I2.kept (t':=s1.toks) fun b o e=>jv _ e,Yg _ lo c n,?_,fun b hb=>?_,q⟩
    ·have e1:lo+((0:Nat):Int)*c=lo:=by simp
     have e2:(n:Int)-((0:Nat):Int)=Builtin.Range.rangeSize lo hi c:=by rw[<-hn];simp
     show IsRangeIter _ _ (lo+((0:Nat):Int)*c) ((n:Int)-((0:Nat):Int)) c;rw[e1,e2];exact xa _ rfl
    ·have e:b=(s1.heap.push { cls:=.type "range",data:=.fields #[.int lo t,.int hi t',.int c t''] }).objs.size:=by simpa using hb
     subst e;exact I2.fpOk (qg _) (I2.hok.fresh (qg _))
theorem XS{R:It->Hp->Prop}(h:ta Z H fun vs H1=>∃i j c:Int,vs=[.int i,.int j,.int c]/\0<c/\c<1073741824/\Builtin.Range.small i j c=true/\∃n:Nat,(n:Int)=Builtin.Range.rangeSize i j c/\R (lA i c n) H1):xf ta Z H R:=h
theorem qi{a b:Int}:decide (V.int a=V.int b)=decide (a=b):=by
 rw[kr];simp
theorem JL{i j c:Int}(i0:0<=i)(i1:i<4294967296)(j0:0<=j)(j1:j<4294967296)(c0:0<c)(c1:c<4294967296):Builtin.Range.small i j c=true:=by
 have e:Builtin.Range.rangeSize i j c=if i<j then (j-i-1)/c+1 else 0:=by
  unfold Builtin.Range.rangeSize;rw[xz c0]
 have b1:∀x:Int,0<=x->x/c<=x:=fun x hx=>jj9 _ hx;have b2:∀x:Int,0<=x->0<=x/c:=fun x hx=>jl3 hx (by omega);unfold Builtin.Range.small;rw[e];simp only[Builtin.Range.rangeFitsLong,Jn,jp1,decide_eq_true_eq,jb2,xz c0];split
 ·have:=b1 (j-i-1) (by omega);have:=b2 (j-i-1) (by omega);omega
 ·omega
theorem Iw{i:Nat}{t:TA}{l:Addr}(e:Z[i]?=some (some (.ref l)))(h:H l=some (.lst xs))
 (g:t Z H fun ys H2=>RK (.ref l) ys H2 Q):tBM K "list" RK (Ju i) t Z H Q:=by unfold tBM;exact MK e ⟨.inl ⟨rfl,_,SqL.of h⟩,g⟩
theorem Sq{l:Addr}{y:V}(h:H l=some (.lst xs))(hz:xs.length<sizeLine)(q:Q .non (upd H l (.lst (xs++[y])))):RK (.ref l) [y] H Q:=⟨l,xs,y,rfl,rfl,h,hz,q⟩
theorem JS{wi:TI}{g:TG}{tb:TS}{D:Ends}(h:wi Z H fun J H1=>∃W:Nat->Nat->St->Hp->Prop,(∃m,W 0 m Z H1)/\∀i m Z H,W i m Z H->
 (J.stop i H/\D.nx Z H)\/(J.go i H/\∃N:St->Hp->Prop,(∀Z' H',N Z' H'->∃m',m'<m/\W (i+1) m' Z' H')/\∀x H',J.yld i H x H'->g x Z H' fun σ2 H2=>tb { D with nx:=N,ct:=N,bk:=D.nx } σ2 H2)):ABj wi g tb D Z H:=h
theorem J4{tl:TE}{R:It->Hp->Prop}(h:tl Z H fun x H1=>∃a,x=.ref a/\(∃xs,SqL K H1 a xs)/\R (Itl K a) H1):xj K tl Z H R:=h
theorem xP{tl:TE}{R:It->Hp->Prop}(h:tl Z H fun x H1=>∃a,x=.ref a/\(∃xs,SqT K H1 a xs)/\R (Itt K a) H1):vV K tl Z H R:=h
theorem vy{a b:Nat}:decide (V.int (a:Int)=V.int (b:Int))=decide (a=b):=by
 rw[kr,decide_eq_true_eq,decide_eq_true_eq,V.int.injEq];lia
theorem gZ{l f:Nat}:V.int ((l:Int)%(f:Int))=V.int 0<->f∣l:=by
 rw[<-jo5,V.int.injEq,Nat.dvd_iff_mod_eq_zero];lia
theorem Eo{H':Hp}{l:Addr}{o:HO}(h:H l=none)(s:Aw H H'):Aw H (upd H' l o):=fun b u e=>by
 rw[Ax (Bj e h)];exact s b u e
end
section
variable{M:Model}{A:Around}{E:Value->Shared->Prop}{s:Shared}{base:Heap}{env:Env}{outer l:List Env}{L e:Addr}{cls:Value}{dd:Option Addr}
end
section
variable{P:Program}{w:World}{fs:List Addr}{H H':Hp}{h h1 h2 B:Heap}
end
section
variable{X:Cx}{pins:List (Addr×Obj)}{Z:St}{H H':Hp}{s:Shared}
end
section
variable{P:Program}{w:World}{K:Fr}{mg:Str->Option Value}{base:Heap}
end
section
variable{X:Cx}{EE:Value->Option Addr->St->Hp->Prop}
noncomputable abbrev bmV:List Value:=[.type "ValueError",.type "Exception",.type "BaseException",.type "object"]
end
section
variable{X:Cx}{pins:List (Addr×Obj)}{Z:St}{H:Hp}{s:Shared}{ea:Addr}{cls:Value}{dx:Option Addr}
end
section
variable{X:Cx}{pins:List (Addr×Obj)}{Z:St}{H:Hp}{s:Shared}
end
section
variable{X:Cx}
end
section
variable{prog:Program}{w:World}{A:Around}{E:Value->Shared->Prop}{s:Shared}{K:Fr}{x D:Addr}{ox:Obj}{odo:Option Obj}{name:Str}
end
section
variable{X:Cx}
end
structure Wi(k:Nat)(A:Around):Prop where
 dp:A.depth+3*k+5<recursionLimit
 un:A.units+16*k+200<cLine
 gd:A.guards=some []
theorem Cv.toN{k:Nat}{A:Around}(r:Cv k A):Wi k A:=⟨r.dp,r.un,r.gd⟩
section
variable{P:Program}{w:World}{K:Fr}{mg:Str->Option Value}{base:Heap}
end
section
variable{X:Cx}
end
theorem Gz(a:Addr):RelV (.ref a) (.ref a):=rfl
section
variable{X:Cx}
end
section
variable{prog:Program}{w:World}{A:Around}{E:Value->Shared->Prop}{h:Heap}{g:Array GenState}{d:Drawn}{t:Nat}{os:OsState}{K:Fr}{f:Addr}
variable{nm q:Str}{C N:Addr}{bs bm:List Value}{hdct:Bool}{sn:List Str}{sub:List Value}{ab:Bool}{col:Option Bool}{dd:Option Addr}{k0 k1 k2 k3 k5:Option Value}
end
section
variable{prog:Program}{w:World}{A:Around}{E:Value->Shared->Prop}{h:Heap}{g:Array GenState}{d:Drawn}{t:Nat}{os:OsState}{K:Fr}{e:Addr}
variable{nm q:Str}{C N:Addr}{bs bm:List Value}{hdct:Bool}{sn:List Str}{sub:List Value}{ab:Bool}{col:Option Bool}{dd:Option Addr}{k0 k1 k2 k3 k5:Option Value}{newId:String}
variable{x CF:Addr}{cd:ClassData}{name:Str}{v:Value}{vs:Array Value}{sl:Array (Option Value)}
end
structure ACr(K:Fr)(C CF:Addr):Prop where
 obj:∃dd cd k0 k1 k2 k3 k5,K.lookup C=some ⟨.type "type",dd,.cls cd,#[k0,k1,k2,k3,some (.builtin "ValueError.__new__"),k5]⟩/\cd.mro=.ref C::.ref CF::bmV/\cd.hasDel=false/\cd.hasDict=true
 base:PySem.W.excIn K CF bmV "ValueError.__new__"=true
 sa:PySem.W.findIn K (.ref C) "__setattr__"=some (some (.builtin "object.__setattr__"))
section
variable{K:Fr}{C CF:Addr}{h:Heap}
end
section
variable{X:Cx}{pins:List (Addr×Obj)}{Z:St}{H:Hp}{s:Shared}{h':Heap}
variable{o value:Expr}{f:Str}{pos pos':Pos}{ta tv:TE}
end
section
variable{M:Model}{A:Around}{E:Value->Shared->Prop}
end
section
variable{X:Cx}{EE:Value->Option Addr->St->Hp->Prop}
end
noncomputable def Cr(i:Int):Str:=Str.ofString (toString i)
noncomputable def shI(is:List Int):Str:=tupleText (is.map Cr)
inductive rO(K:Fr)(H:Hp):V->Str->Prop
 | int {i:Int}:i.natAbs.log2<1920->rO K H (.int i) (Cr i)
 | str {z:Str}:z.length<=sizeLine->rO K H (.str z) z
 | tup {a:Addr} {is:List Int}:SqT K H a (is.map V.int)->(∀i∈is,i.natAbs.log2<1920)->(shI is).length<=sizeLine->rO K H (.ref a) (shI is)
theorem shownAll_ints:∀is:List Int,PyData.shownAll (is.map PyData.int)=is.map Cr
 | []=>by simp[PyData.shownAll]
 | i::is=>by simp only[zv,PyData.shownAll,PyData.shown,shownAll_ints is];rfl
theorem showableAll_ints:∀is:List Int,(∀i∈is,i.natAbs.log2<1920)->PyData.showableAll (is.map PyData.int)=true
 | [],_=>by simp[PyData.showableAll]
 | i::is,h=>by
  simp only[zv,PyData.showableAll,PyData.showable,showableAll_ints is fun j hj=>h j (qv _ hj),Bool.and_true,decide_eq_true_eq];exact h i (qm ..)
theorem Jq:∀is:List Int,PyData.hasDictAll (is.map PyData.int)=false
 | []=>by simp[PyData.hasDictAll]
 | i::is=>by simp only[zv,PyData.hasDictAll,PyData.hasDict,Jq is,Bool.or_self]
theorem depthAll_ints:∀is:List Int,PyData.depthAll (is.map PyData.int)<=1
 | []=>by simp[PyData.depthAll]
 | i::is=>by
  have:=depthAll_ints is;simp only[zv,PyData.depthAll,PyData.depth];lia
theorem readsAll_ints{h:Heap}:∀{is:List Int} {us:List Value},Vals (is.map V.int) us->ReadsAll h us (is.map PyData.int) []
 | [],_,.nil=>.nil
 | i::is,_,.cons r t=>by
  obtain⟨tk,rfl⟩:=(show ∃tk,_=Value.int i tk from r);exact .cons (as:=[]) (bs:=[]) (.int i tk) (readsAll_ints t)
section
variable{X:Cx}{pins:List (Addr×Obj)}{Z:St}{H:Hp}{s:Shared}
theorem AAm{k:Nat}{x:V}{u:Value}{y:Str}(hr:Wi k X.A)(I:Inv X pins Z H s)(r:RelV x u)(f:rO X.K H x y)(q:Q (.str y) H):wpAny (model X.prog X.w) X.A (formatField u Str.empty) (EP X pins Z Q) X.xe s:=by
 cases f with
 | int h=>
  obtain⟨t,rfl⟩:=(show ∃t,u=Value.int _ t from r);exact wpAny_formatField_int h ⟨.str (Cr _),H,I.tok _,⟨_,rfl⟩,q⟩
 | str h=>
  obtain⟨t,rfl⟩:=(show ∃t,u=Value.str y t from r);exact wpAny_formatField_str ⟨.str y,H,I,⟨_,rfl⟩,q⟩ ⟨.str y,H,I.tok _,⟨_,rfl⟩,q⟩ h
 | @tup a is hs hi hz=>
  cases (show u=Value.ref a from r);obtain⟨its,vr,⟨o,ho,hc,n,hd⟩,hl⟩:=I.tuple hs;have rd:Reads s.heap (.ref a) (.tuple (is.map PyData.int)) []:=.tuple ho hc hd (readsAll_ints vr);have e:(PyData.tuple (is.map PyData.int)).shown=shI is:=by simp only[PyData.shown,shownAll_ints];rfl
  have hdp:(PyData.tuple (is.map PyData.int)).depth<=3:=by
   have:=depthAll_ints is;simp only[PyData.depth];lia
  refine formatField_of_reads rd (by simp only[PyData.showable];exact showableAll_ints is hi) (PyData.noDict_hsm (by simp only[PyData.hasDict];exact Jq is)) hr.gd (by have:=hr.un;lia) (fun _ _ z=>z) (fun h' u tk hk=>?_) (by rw[e];exact hz);rw[e];exact⟨.str (shI is),H,I.kept hk,⟨_,rfl⟩,q⟩
end
def yQ(K:Fr)(tv:TE):TE:=fun Z H Q=>tv Z H fun x H1=>∃y,rO K H1 x y/\Q (.str y) H1
noncomputable abbrev TJ:=Str->St->Hp->VK->Prop
def PJ(X:Cx)(es:List Expr)(t:TJ):Prop:=∀ ⦃pins:List (Addr×Obj)⦄ (s:Shared) (Z:St) (H:Hp) (out:Str) (Q:VK),Inv X pins Z H s->t out Z H Q->wpAny (model X.prog X.w) X.A (joinParts out (evalEach es X.env)) (EP X pins Z Q) X.xe s
def ACe:TJ:=fun out _ H Q=>out.length<=sizeLine/\Q (.str out) H
def fV(te:TE)(t:TJ):TJ:=fun out Z H Q=>te Z H fun x H1=>∃y,x=.str y/\(out++y).length<=sizeLine/\t (out++y) Z H1 Q
def xH(t:TJ):TE:=fun Z H Q=>t Str.empty Z H Q
section
variable{X:Cx}{k:Nat}{e e₂:Expr}{es:List Expr}{te:TE}{t:TJ}{pos:Pos}
theorem MN(hr:Wi k X.A)(h:PE X e te):PE X (.FormattedValue e (-1) none pos) (yQ X.K te):=by
 intro pins s Z H Q I hw;refine FormattedValue_plain (thn (h s Z H _ I hw) fun u s1 hZ=>?_);obtain⟨x,H1,I1,r,y,f,q⟩:=hZ;exact AAm hr I1 r f q
theorem Ox:PJ X [] ACe:=fun pins s Z H out Q I h=>joinParts_nil ⟨.str out,H,I.tok _,⟨_,rfl⟩,h.2⟩ h.1
theorem Ds(h1:PE X e te)(h2:PJ X es t):PJ X (e::es) (fV te t):=by
 intro pins s Z H out Q I h;show wpAny _ _ (joinParts out (eval e X.env::evalEach es X.env)) _ _ _;refine joinParts_cons (thn (h1 s Z H _ I h) fun u s1 hZ=>?_);obtain⟨x,H1,I1,r,y,ex,hz,q⟩:=hZ;subst ex;obtain⟨tk,rfl⟩:=(show ∃tk,u=Value.str y tk from r);exact⟨hz,h2 s1 Z H1 (out++y) Q I1 q⟩
theorem K5(h:PJ X (e::e₂::es) t):PE X (.JoinedStr (e::e₂::es) pos) (xH t):=fun pins s Z H Q I hw=>JoinedStr_many (h s Z H Str.empty Q I hw)
end
section
variable{X:Cx}{e:Expr}{f:Str}{pos:Pos}{ta:TE}
end
section
variable{X:Cx}{EE:Value->Option Addr->St->Hp->Prop}
structure rP(P:Program)(w:World)(K:Fr)(mg:Str->Option Value)(base:Heap)(CX:CXT)(k:Nat)(C:Addr)(m:Str)(ps:List Str)(sp:Sp):Prop where
 ex:∃(f:Addr) (fd:FuncData),Ei P w K mg base CX k f fd ps sp/\Binds K fd ps []/\Meth K C m f
structure lC(P:Program)(w:World)(K:Fr)(mg:Str->Option Value)(base:Heap)(CX:CXT)(k:Nat)(x:Str)(C:Addr)(ps:List Str)(sp:Sp):Prop where
 ex:∃(f:Addr) (fd:FuncData),Ei P w K mg base CX k f fd ps sp/\Binds K fd ps []/\Mk K C f/\mg x=some (.ref C)
variable{C:Addr}{m x:Str}{k:Nat}{ps:List Str}{sp:Sp}{o e:Expr}{es:List Expr}{ta:TE}{t:TA}{apos pos p:Pos}
theorem Cq{pl:Sem Bool}(O:rP X.prog X.w X.K X.mg X.base CX0 k C m ps sp)(c:Cls X.K C)(he:PE X o ta)(ha:PA X (e::es) t)(hr:Cv k X.A:=by walk_at"hr")
 (hst:‹starEach (e::es) X.env=(false,eval e X.env)::starEach es X.env›)(hpl:‹(backTo pos (starEach es X.env)).any (·.1)=false›)
 (ht:‹eval (.Call (.Attribute o m apos) (e::es) [] pos) X.env=(do
  let ov <-eval o X.env
  standAt apos.atName
  let (f,first) <-holding [ov] (getMethod ov m pl)
  callWith pos f first (backTo pos (starEach (e::es) X.env)) (backToKw pos (keywordEach [] X.env)))›):
 PE X (.Call (.Attribute o m apos) (e::es) [] pos) (Yj C m sp [] E0 ta t):=by
 obtain⟨f,fd,F,hb,M⟩:=O.ex;exact ut (pl:=pl) he c M F hr hb .nil NP ha hst hpl ht
theorem DR{pl:Sem Bool}(O:rP X.prog X.w X.K X.mg X.base CX0 k C m ps sp)(c:Cls X.K C)(he:PE X o ta)(hr:Cv k X.A:=by walk_at"hr")
 (ht:‹eval (.Call (.Attribute o m apos) [] [] pos) X.env=(do
  let ov <-eval o X.env
  standAt apos.atName
  let (f,first) <-holding [ov] (getMethod ov m pl)
  callWith pos f first (backTo pos (starEach [] X.env)) (backToKw pos (keywordEach [] X.env)))›):
 PE X (.Call (.Attribute o m apos) [] [] pos) (Yj C m sp [] E0 ta Ly):=by
 obtain⟨f,fd,F,hb,M⟩:=O.ex;exact oh (pl:=pl) he c M F hr hb .nil NP ht
theorem Gf(O:lC X.prog X.w X.K X.mg X.base CX0 k x C ps sp)(ha:PA X (e::es) t)(hr:Cv (k+1) X.A:=by walk_at"hr")(hg:Gl X x:=by exact rfl)
 (hdb:(x==("__debug__":Str))=false:=by decide)(he:‹starEach (e::es) X.env=(false,eval e X.env)::starEach es X.env›)(hpl:‹(backTo pos (starEach es X.env)).any (·.1)=false›):
 PE X (.Call (.Name x p) (e::es) [] pos) (Vr C sp [] E0 t):=by
 obtain⟨f,fd,F,hb,M,hm⟩:=O.ex;exact eV M F hr hg hm hb .nil NP ha hdb he hpl
end
theorem KZ{i:Int}(h:i.natAbs.log2<1920):(Cr i).length<=1921:=by
 have e:=int_text_length_le (k:=1920) nofun h;unfold Cr;rw[PySem.ofString_length];lia
theorem fits{s:Str}{n:Nat}(h:s.length<=n)(hn:n<=100000):s.length<=sizeLine:=qr h (qr hn nofun)
theorem K1{out:Str}(h:out.length<=sizeLine)(q:Q (.str out) H):ACe out Z H Q:=⟨h,q⟩
theorem J3{t:TJ}{out:Str}(n:Nat)(hn:out.length<=n)(hz:n+x.length<=100000)(h:(out++x).length<=n+x.length->t (out++x) Z H Q):fV (tC (.str x)) t out Z H Q:=by
 have e:(out++x).length<=n+x.length:=by rw[strLen_append];lia
 exact⟨x,rfl,fits e hz,h e⟩
theorem Sd{j:Nat}{i:Int}{t:TJ}{out:Str}(n:Nat)(hn:out.length<=n)(hz:n+1921<=100000)(hv:Z[j]?=some (some (.int i)))(hi:i.natAbs.log2<1920)(h:(out++Cr i).length<=n+1921->t (out++Cr i) Z H Q):
 fV (yQ K (Ju j)) t out Z H Q:=by
 have e:(out++Cr i).length<=n+1921:=by have:=KZ hi;rw[strLen_append];lia
 unfold fV yQ;exact MK hv ⟨Cr i,.int hi,Cr i,rfl,fits e hz,h e⟩
section
variable{X:Cx}
theorem bR{a b:Addr}{ys:List V}(ha:SqT K H a xs)(hb:SqT K H b ys)(fx:xs.all Ho=true)(fy:ys.all Ho=true)(q:Q (.bl (Tp xs ys)) H):zb K (.ref a) (.ref b) H Q:=⟨a,b,xs,ys,rfl,rfl,ha,hb,fx,fy,q⟩
theorem Ow{t:TT}{ta tb:TE}(h:t Z H fun c H1=>if c=true then ta Z H1 Q else tb Z H1 Q):tIf t ta tb Z H Q:=h
def ADa(K:Fr):List V->Hp->VK->Prop:=fun xs H Q=>∃(p:Addr) (ns:List Int),xs=[.ref p]/\SqL K H p (ns.map V.int)/\Q (.int ns.sum) H
theorem Tz(hc:X.calm=true):HS X (.builtin "sum") (ADa X.K):=by
 intro pins s Z H xs us Q I r h;obtain⟨p,ns,rfl,hq,q⟩:=h;obtain⟨u,rfl,ru⟩:=vals1 r;cases (show u=Value.ref p from ru);obtain⟨its,rv,pl,_⟩:=I.list hq;have hi:=intsAre_of rv;obtain⟨xs,hx⟩:=hi.allInts.items;have hl':s.heap.IsList p (intItems xs):=hx ▸ pl.isList;refine sum_intListG (I.ok.hd hc) hl' fun h' tk t' hk=>?_;have e1:ns=xs.toList.map (·.1):=by
  rw[<-nums_intItems,<-hx];exact(show numsOf its.toArray.toList=ns from hi.numsOf).symm
 have e2:preSum (numAt xs) xs.size=ns.sum:=by
  rw[preSum_eq,vn (by simp),e1]
 rw[e2];exact⟨.int ns.sum,H,I.kept hk,⟨_,rfl⟩,q⟩
def ACR(K:Fr):List V->Hp->VK->Prop:=fun xs H Q=>∃(p:Addr) (ns:List Int),xs=[.ref p]/\SqL K H p (ns.map V.int)/\ns≠[]/\∀m,m∈ns->(∀a∈ns,m<=a)->Q (.int m) H
def ACS(K:Fr):List V->Hp->VK->Prop:=fun xs H Q=>∃(p:Addr) (ns:List Int),xs=[.ref p]/\SqL K H p (ns.map V.int)/\ns≠[]/\∀m,m∈ns->(∀a∈ns,a<=m)->Q (.int m) H
theorem jz(hc:X.calm=true):HS X (.builtin "min") (ACR X.K):=by
 intro pins s Z H xs us Q I r h;obtain⟨p,ns,rfl,hq,hne,q⟩:=h;obtain⟨u,rfl,ru⟩:=vals1 r;cases (show u=Value.ref p from ru);obtain⟨its,rv,pl,_⟩:=I.list hq;have hi:=intsAre_of rv;obtain⟨xs,e⟩:=hi.allInts.items;have hns:ns=xs.toList.map (·.1):=by
  rw[<-nums_intItems,<-e];exact(show numsOf its.toArray.toList=ns from hi.numsOf).symm
 have hsz:0<xs.size:=by
  have h3:=List.length_pos_iff.mpr hne;rw[hns,jp,kg] at h3;exact h3
 have hl':s.heap.IsList p (intItems xs):=e ▸ pl.isList;refine min_intList (I.ok.hd hc) hl' hsz fun v h' tk hv hk=>?_;obtain⟨t,rfl⟩:=intItems_at hv;obtain⟨h1,h2⟩:=argBest_lt (numAt xs) (xs.size-1);refine⟨.int _,H,I.kept hk,⟨_,rfl⟩,q _ ?_ fun a ha=>?_⟩
 ·rw[hns,numAt_eq];exact getD_mem (by rw[jp,kg];lia)
 ·rw[hns] at ha;obtain⟨j,hj,rfl⟩:=mem_getD ha;rw[jp,kg] at hj;rw[<-numAt_eq];exact h2 j ⋯
theorem j5(hc:X.calm=true):HS X (.builtin "max") (ACS X.K):=by
 intro pins s Z H xs us Q I r h;obtain⟨p,ns,rfl,hq,hne,q⟩:=h;obtain⟨u,rfl,ru⟩:=vals1 r;cases (show u=Value.ref p from ru);obtain⟨its,rv,pl,_⟩:=I.list hq;have hi:=intsAre_of rv;obtain⟨xs,e⟩:=hi.allInts.items;have hns:ns=xs.toList.map (·.1):=by
  rw[<-nums_intItems,<-e];exact(show numsOf its.toArray.toList=ns from hi.numsOf).symm
 have hsz:0<xs.size:=by
  have h3:=List.length_pos_iff.mpr hne;rw[hns,jp,kg] at h3;exact h3
 have hl':s.heap.IsList p (intItems xs):=e ▸ pl.isList;refine max_intList (I.ok.hd hc) hl' hsz fun v h' tk hv hk=>?_;obtain⟨t,rfl⟩:=intItems_at hv;obtain⟨h1,h2⟩:=argBest_gt (numAt xs) (xs.size-1);refine⟨.int _,H,I.kept hk,⟨_,rfl⟩,q _ ?_ fun a ha=>?_⟩
 ·rw[hns,numAt_eq];exact getD_mem (by rw[jp,kg];lia)
 ·rw[hns] at ha;obtain⟨j,hj,rfl⟩:=mem_getD ha;rw[jp,kg] at hj;rw[<-numAt_eq];exact h2 j ⋯
end
section
variable{X:Cx}{M:List Str}{x:Str}{scope:Scope}{cl:List (Str×Addr)}{C:Addr}{s₀:Shared}{H₀:Hp}{fp:List Addr}
theorem jW:IxR (Kf X M x scope cl C s₀ H₀ fp) (uZ X.K):=Ce
theorem G6:IxR (Kf X M x scope cl C s₀ H₀ fp) (uY X.K):=Hn
end
section
variable{X:Cx}{tg:Expr}
end
section
variable{X:Cx}
def xR:V->List V->Hp->VK->Prop:=fun x vs H Q=>∃n:Int,x=.int n/\vs=[]/\Q (.int ((Builtin.Int.intBits n:Nat):Int)) H
theorem RL:MtR X "int.bit_length" xR:=by
 intro pins s Z H x vs v us Q I rx rv h;obtain⟨n,rfl,rfl,q⟩:=h;obtain⟨t,rfl⟩:=rx;cases rv.zero;exact call_int_bit_length ⟨.int _,H,I.tok _,⟨_,rfl⟩,q⟩
end
theorem oG{n:Int}(h:Q (.int ((Builtin.Int.intBits n:Nat):Int)) H):tyV K "int" (.int n) H/\xR (.int n) [] H Q:=⟨rfl,n,rfl,rfl,h⟩
theorem Mx{T:String}{r:V->List V->Hp->VK->Prop}{to:TE}{t:TA}(h:to Z H fun x H1=>tyV K T x H1/\t Z H1 fun xs H2=>r x xs H2 Q):tBM K T r to t Z H Q:=h
theorem J5{i:Nat}{t:TA}{l:Addr}(e:Z[i]?=some (some (.ref l)))(h:H l=some (.lst xs))
 (g:t Z H fun ys H2=>RJ (.ref l) ys H2 Q):tBM K "list" RJ (Ju i) t Z H Q:=by unfold tBM;exact MK e ⟨.inl ⟨rfl,_,SqL.of h⟩,g⟩
theorem IV{b:Nat}(h:b≠0):Builtin.Int.intBits (b:Int)=b.log2+1:=by
 unfold Builtin.Int.intBits;rw[yb (by simp;lia),Int.natAbs_natCast]
theorem dF{b:Nat}(h:b≠0):Builtin.bitAnd (b:Int) (-(b:Int))=(b:Int)-((b &&& (b-1):Nat):Int):=by
 unfold Builtin.bitAnd;rw[decide_eq_true (jl6 b),decide_eq_false ⋯];show(b:Int)-(((b:Int).toNat &&& (Builtin.bitNot (-(b:Int))).toNat:Nat):Int)=_;unfold Builtin.bitNot;rw[zh,show(-(-(b:Int))-1).toNat=b-1 by lia]
theorem vR{m k:Nat}(h:k<m):ixN m (k:Int)=some k:=by
 unfold ixN;rw[xz ⋯,xz ⋯,zh]
theorem eE{p:Addr}{k:Nat}{v:V}{Q:Hp->Prop}(h:H p=some (.lst xs))(hk:k<xs.length)(q:Q (upd H p (.lst (xs.set k v)))):xQ (.ref p) (.int (k:Int)) v H Q:=
 ⟨p,xs,k,k,rfl,rfl,h,vR hk,q⟩
theorem bO{l:Addr}{k:Int}(h:H l=some (.lst xs))(h0:0<=k)(h1:k<2^60)(hz:xs.length*k.toNat<=sizeLine)(q:∀p,H p=none->Q (.ref p) (upd H p (.lst (List.replicate k.toNat xs).flatten))):ACQ (.ref l) (.int k) H Q:=
 ⟨l,k,xs,rfl,rfl,h,⋯,⋯,hz,q⟩
theorem zY{l b:Addr}{zs:List V}(h:H l=some (.lst xs))(g:H b=some (.lst zs))(hz:xs.length+zs.length<=sizeLine)(q:∀p,H p=none->Q (.ref p) (upd H p (.lst (xs++zs)))):ACT (.ref l) (.ref b) H Q:=
 ⟨l,b,xs,zs,rfl,rfl,h,g,hz,q⟩
theorem Ma{lo c:Int}{n:Nat}{g:TG}{tb:TS}{D:Ends}(Pv:Nat->St->Hp->Prop)(h0:Pv 0 Z H)
 (hs:∀i Z H,i<n->Pv i Z H->g (.int (lo+i*c)) Z H fun σ2 H2=>tb { D with nx:=Pv (i+1),ct:=Pv (i+1),bk:=D.nx } σ2 H2)(hd:∀Z H,Pv n Z H->D.nx Z H):
 ∃W:Nat->Nat->St->Hp->Prop,(∃m,W 0 m Z H)/\∀i m Z H,W i m Z H->
  ((lA lo c n).stop i H/\D.nx Z H)\/((lA lo c n).go i H/\∃N:St->Hp->Prop,(∀Z' H',N Z' H'->∃m',m'<m/\W (i+1) m' Z' H')/\∀x H',(lA lo c n).yld i H x H'->g x Z H' fun σ2 H2=>tb { D with nx:=N,ct:=N,bk:=D.nx } σ2 H2):=by
 refine⟨fun i m Z H=>m=n-i/\i<=n/\Pv i Z H,⟨n,by simp,vt _,h0⟩,?_⟩;rintro i m Z H ⟨rfl,hi,p⟩;by_cases hlt:i<n
 ·refine .inr ⟨hlt,Pv (i+1),fun Z' H' p'=>⟨n-(i+1),⋯,rfl,hlt,p'⟩,fun x H' y=>?_⟩;obtain⟨e,y⟩:=y;subst e y;exact hs i Z _ hlt p
 ·have e:i=n:=⋯
  subst e;exact .inl ⟨qg _,hd Z H p⟩
theorem HW{i j c:Int}(c0:0<c):Builtin.Range.rangeSize i j c=if i<j then (j-i-1)/c+1 else 0:=by
 unfold Builtin.Range.rangeSize;rw[xz c0]
def ww(ta:TE):TT:=fun Z H Q=>ta Z H fun x H'=>∃i:Int,x=.int i/\Q (i != 0) H'
theorem zj{X:Cx}{a:Expr}{ta:TE}(ha:PE X a ta)(he:∀whole,isTrue a X.env whole=(do let v <-whole;standAt a.pos;holding [v] (truthy v))):PT X a (ww ta):=by
 intro pins s Z H Q I h;refine isTrue_plain (thn (ha s Z H _ I h) fun v s1 hZ=>?_) (he _);obtain⟨x,H1,I1,r1,q1⟩:=hZ;obtain⟨i,rfl,q⟩:=q1;exact yL pins s1 Z H1 _ v Q I1 r1 ⟨_,rfl,q⟩
section
variable{X:Cx}{M:List Str}{x:Str}{scope:Scope}{cl:List (Str×Addr)}{C:Addr}{s₀:Shared}{H₀:Hp}{fp:List Addr}
theorem UG:HS (Kf X M x scope cl C s₀ H₀ fp) (.builtin "len") (fun xs H Q=>∃p ys,xs=[.ref p]/\(SqL X.K H p ys\/SqT X.K H p ys)/\Q (.int ys.length) H):=BR
end
variable{α:Type}
theorem rB{xs:List α}{v:α}(h:xs[xs.length-1]?=some v):atI xs (-1)=some v:=by
 have hl:0<xs.length:=Nat.pos_of_ne_zero fun z=>by
  rw[ji7 ⋯] at h;cases h
 unfold atI ixN;rw[yb nofun,xz ⋯,show(-1+(xs.length:Int)).toNat=xs.length-1 by lia];exact h
theorem ABJ{xs:List Int}{k:Nat}{x:Int}(h:xs[k]?=some x):(xs.map V.int)[k]?=some (V.int x):=by rw[qq,h];rfl
theorem Ov{a:Addr}{lo hi:Option Int}(h:SqL K H a xs)(q:∀p,H p=none->Q (.ref p) (upd H p (.lst (Im xs lo hi)))):ACP K (.ref a) lo hi H Q:=⟨a,xs,rfl,h,q⟩
theorem jr(xs:List Int)(k:Nat):Im (xs.map V.int) (some (k:Int)) none=(xs.drop k).map V.int:=by
 unfold Im;rw[HT.sIx_nat,HT.sIx_none,jp,List.map_drop];by_cases h:k<=xs.length
 ·rw[jv8 h,vn (by rw[ja7,jp];lia)]
 ·rw[ju3 ⋯,vj (by rw[jp];lia),vj (by rw[jp];lia),jw9]
theorem zX{i:Int}{P:Int->Prop}(h:P i):∃j,V.int i=.int j/\P j:=⟨i,rfl,h⟩
section
variable{X:Cx}
def tLR(ta:TA):TE:=fun Z H Q=>ta Z H fun vs H1=>∃(i j c:Int) (n:Nat),(vs=[.int i,.int j,.int c]\/(vs=[.int i,.int j]/\c=1))/\0<c/\c<1073741824/\Builtin.Range.small i j c=true/\Builtin.Range.rangeSize i j c=(n:Int)/\n<=1000000/\
 ∀l,H1 l=none->Q (.ref l) (upd H1 l (.lst ((List.range n).map fun(k:Nat)=>V.int (i+(k:Int)*c))))
theorem Hk{lo c:Int}:∀(acc:List Value) (k:Nat),(∀(j:Nat) (v:Value),acc[j]?=some v->∃t,v=.int (lo+((k+j:Nat):Int)*c) t)->Vals ((List.range' k acc.length).map fun(i:Nat)=>V.int (lo+(i:Int)*c)) acc
 | [],k,_=>.nil
 | v::acc,k,h=>by
  rw[qh,jt9,zv];refine .cons ?_ (Hk acc (k+1) fun j u hu=>?_)
  ·obtain⟨t,ht⟩:=h 0 v (by simp);exact⟨t,by rw[ht];simp⟩
  ·obtain⟨t,ht⟩:=h (j+1) u (by simpa using hu);exact⟨t,by rw[ht,show k+(j+1)=k+1+j by lia]⟩
theorem Lk{pins:List (Addr×Obj)}{s:Shared}{r:Addr}{i j c:Int}{t u v:Tok}{n:Nat}(hc:X.calm=true)(I:Inv X pins Z H s)(hr:IsRange s.heap r i j c t u v)(sm:Builtin.Range.small i j c=true)(hn:Builtin.Range.rangeSize i j c=(n:Int))(hz:n<=1000000)
 (q:∀l,H l=none->Q (.ref l) (upd H l (.lst ((List.range n).map fun(k:Nat)=>V.int (i+(k:Int)*c))))):wpAny (model X.prog X.w) X.A (call (.type "list") [.ref r]) (EP X pins Z Q) X.xe s:=by
 refine call_list_range (I.ok.hd hc) hr sm hn ⋯ fun h' tk acc' c' hk hS' hacc=>?_;have ha:acc'.toList.length=n:=by simpa using hacc.1
 refine⟨.ref _,_,I.laid (a:=s.heap.objs.size) (o:=.lst ((List.range n).map fun(k:Nat)=>V.int (i+(k:Int)*c))) hk (qg _) ⟨?_,acc'.toList,c',?_,by simpa using hS'⟩,rfl,q _ I.fresh⟩
 ·rw[jp,je7,sizeLine_eq];lia
 ·have:=Hk (lo:=i) (c:=c) acc'.toList 0 fun j v hv=>by rw[jf9];exact hacc.2 j v (by simpa using hv)
  rw[ha,<-List.range_eq_range'] at this;exact this
theorem bY{a b d:Expr}{p p2 pos2:Pos}(hc:X.calm=true)(hgl:Gl X "list")(hml:X.mg "list"=none)(hgr:Gl X "range")(hmr:X.mg "range"=none)(ha:PA X [a,b,d] ta)
 (hs:‹starEach [a,b,d] X.env=(false,eval a X.env)::starEach [b,d] X.env›)(hpl:‹(backTo pos2 (starEach [b,d] X.env)).any (·.1)=false›)
 (hs1:‹starEach [.Call (.Name "range" p2) [a,b,d] [] pos2] X.env=(false,eval (.Call (.Name "range" p2) [a,b,d] [] pos2) X.env)::starEach [] X.env›):
 PE X (.Call (.Name "list" p) [.Call (.Name "range" p2) [a,b,d] [] pos2] [] pos) (tLR ta):=by
 intro pins s Z H Q I h;refine ja1 (Hm I hgl hml boot_list ?_ nofun nofun);refine ki ?_ hs1 rfl;rw[hs1];show wpAny _ _ (spliced ((false,eval _ X.env)::backTo pos (starEach [] X.env))) _ _ s;refine Calls.spliced_cons ?_;refine Call_ (Hm I hgr hmr boot_range (ki (thn (ha (pos:=pos2) pins s Z H _ I h) fun us s1 hZ=>?_) hs hpl));obtain⟨vs,H1,I1,r1,q1⟩:=hZ;obtain⟨i,j,c,n,e,c0,c1,sm,hn,hz,q⟩:=q1;rcases e with e | ⟨e,rfl⟩
 ·subst e;cases r1 with
  | cons r rr=>
   cases rr with
   | cons r' rr=>
    cases rr with
    | cons r'' rr=>
     cases rr;obtain⟨t,rfl⟩:=r;obtain⟨t',rfl⟩:=r';obtain⟨t'',rfl⟩:=r'';refine PySem.call_range_3 ⋯ ?_ (Or.inl (PyProof.noPylong_small ⋯));refine Calls.spliced_nil ?_;have I2:Inv X pins Z H1 { s1 with heap:=s1.heap.push { cls:=.type "range",data:=.fields #[.int i t,.int j t',.int c t''] },toks:=s1.toks }:=I1.kept fun b o e=>jv _ e;exact Lk hc I2 (IsRange.new ..) sm hn hz q
 ·subst e;cases r1 with
  | cons r rr=>
   cases rr with
   | cons r' rr=>
    cases rr;obtain⟨t,rfl⟩:=r;obtain⟨t',rfl⟩:=r';refine call_range_2 ?_;refine Calls.spliced_nil ?_;have I2:Inv X pins Z H1 { s1 with heap:=s1.heap.push { cls:=.type "range",data:=.fields #[.int i t,.int j t',.int 1 s1.toks] },toks:=s1.toks+1 }:=I1.kept fun b o e=>jv _ e;exact Lk hc I2 (IsRange.new ..) sm hn hz q
end
theorem Tq{J:It}{ok:Hp->Prop}(Wk:Walk J ok xs)(hz:xs.length<sizeLine)(Pv:Addr->Nat->List V->Hp->Prop)
 (h0:∀D,H D=none->Pv D 0 [] (upd H D (.lst [])))
 (hD:∀D i ys H2,H D=none->Pv D i ys H2->H2 D=some (.lst ys)/\ys.length<=i/\ok H2)
 (hs:∀D i x ys H2,H D=none->xs[i]?=some x->Pv D i ys H2->tt (some x::Z) H2 fun b H4=>if b=true then te (some x::Z) H4 fun y H5=>H5 D=some (.lst ys)/\Pv D (i+1) (ys++[y]) (upd H5 D (.lst (ys++[y]))) else Pv D (i+1) ys H4)
 (h:∀D ys H2,H D=none->Pv D xs.length ys H2->Q (.ref D) H2):gU tt te Z Q J H:=by
 intro D hD0;refine⟨fun i m ys H2=>i<=xs.length/\m=xs.length-i/\Pv D i ys H2,⟨_,vt _,rfl,h0 D hD0⟩,?_⟩;rintro i m ys H2 ⟨hi,rfl,p⟩;obtain⟨d1,d2,d3⟩:=hD D i ys H2 hD0 p;refine⟨d1,?_⟩;by_cases hlt:i<xs.length
 ·refine .inr ⟨Wk.go i _ d3 hlt,⋯,xs.length-(i+1),⋯,fun x H3 hy=>?_⟩;obtain⟨e3,ex⟩:=Wk.yld i _ x H3 d3 hy hlt;subst e3;have:=hs D i x ys H3 hD0 ex p;refine cast ?_ this
  congr 1
  funext b H4
  cases b with
  | false=>simp only[jq8,if_false];exact propext ⟨fun z=>⟨hlt,trivial,z⟩,fun z=>z.2.2⟩
  | true=>
   simp only[if_true]
   congr 1
   funext y H5
   exact propext ⟨fun z=>⟨z.1,hlt,trivial,z.2⟩,fun z=>⟨z.1,z.2.2.2⟩⟩
 ·have e:i=xs.length:=⋯
  subst e;exact .inl ⟨Wk.stop _ _ d3 (qg _),h D ys H2 hD0 p⟩
section
variable{X:Cx}
end
theorem ZQ{k:Nat}{wi:TI}{g:TG}(h:wi Z H (Uy k g tt te Z Q)):lZ k wi g tt te Z H Q:=h
section
variable{X:Cx}{M xs:List Str}{scope:Scope}{cl:List (Str×Addr)}{C:Addr}{s₀:Shared}{H₀:Hp}{fp:List Addr}
theorem ZW{es:List Expr}{k:Nat}{t:TGs}{n:Nat}(hc:X.calm=true)(h:PGs (DP X M xs scope cl C s₀ H₀ fp) es t)
 (hn:‹(assignEach es (DP X M xs scope cl C s₀ H₀ fp).env).length=n›)(hst:‹(assignEach es (DP X M xs scope cl C s₀ H₀ fp).env).findIdx? (·.1)=none›):PG (DP X M xs scope cl C s₀ H₀ fp) (.Tuple es k pos) (qQ X.K n t):=
 oV hc h hn hst
end
structure Kw(K:Fr)(x qual:Str)(st:Stmt)(f:Addr)(fd:FuncData)(ds:Array Value):Prop where
 ex:∃(oc:Value) (od:Option Addr) (T:Addr) (to:Obj) (tn:Nat) (kV doc pm:Value) (an:Option Addr) (cdv ct:Value) (osl:Array (Option Value)),
  fd=PySem.W.fnOf x qual (El st) (Cz st) (Az st) (.ref T) kV doc pm an cdv ct/\K.lookup f=some ⟨oc,od,.func fd,osl⟩/\PySem.W.codeIn K cdv qual=true/\K.lookup T=some to/\to.data=.seq ds tn
 kp:PySem.W.keepIn K (.ref f)=true
section
variable{P:Program}{w:World}{K:Fr}{mg:Str->Option Value}{base:Heap}{x qual:Str}{st:Stmt}{f:Addr}{fd:FuncData}{N ps:List Str}{k:Nat}{sp:Sp}{ds:Array Value}
theorem Kw.ok(F:Kw K x qual st f fd ds)(S:CZ N ps (Az st))(len:∀{vs H Q E},sp vs H Q E->vs.length=ps.length)
 (hbody:∀{cdv:Value} {A:Around} {outer:List Env} {s:Shared} (nd:N.Nodup) (H:Hp) (vs:List V) (Q:VK) (E:XK),Cv k (A.deeper (envOfC qual (Az st) s.heap.objs.size f cdv))->sp vs H Q E->
  ∃t,PSs (Qs CX0 P w K mg base N qual (Az st) f cdv A outer s H E).nox (Cz st) t/\t { nx:=fun _ H'=>Q .non H',rt:=Q } (start N vs) H):Ei P w K mg base CX0 (k+1) f fd ps sp:=by
 obtain⟨oc,od,T,to,tn,kV,doc,pm,an,cdv,ct,osl,rfl,lk,hcd,_⟩:=F.ex;refine xq lk hcd S (fun _ _ _ _=>len) fun A outer s H vs Q E hr hsp=>?_;obtain⟨t,h,q⟩:=hbody S.nd H vs Q E hr hsp;exact⟨t,h.nox,q⟩
theorem Kw.bindsD{dv:List Value}(n:Nat)(hn:n+dv.length=ps.length)(F:Kw K x qual st f fd ds)
 (h:∀(T:Addr) (kV doc pm:Value) (an:Option Addr) (cdv ct:Value) (us:List Value),us.length=n->
  ∃k:Option (Array Value)->Sem (List (Str×Value)),bindArgs (PySem.W.fnOf x qual (El st) (Cz st) (Az st) (.ref T) kV doc pm an cdv ct) ⟨us,[]⟩=seqItems? (.ref T) >>= k/\k (some ds)=pure (ps.zip (us++dv))):Binds K fd ps dv:=by
 obtain⟨oc,od,T,to,tn,kV,doc,pm,an,cdv,ct,osl,rfl,lk,hcd,ht,hs⟩:=F.ex;intro s us KX hl;obtain⟨k,h1,h2⟩:=h T kV doc pm an cdv ct us (by rw[qc] at hl;lia);exact PySem.W.binds_K KX rfl ht hs h1 h2
theorem X4{oc:Value}{od an:Option Addr}{osl:Array (Option Value)}{kV doc pm cdv ct:Value}{T:Addr}{to:Obj}{tn:Nat}(l:K.lookup f=some ⟨oc,od,.func (PySem.W.fnOf x qual (El st) (Cz st) (Az st) (.ref T) kV doc pm an cdv ct),osl⟩)
 (c:PySem.W.codeIn K cdv qual=true)(k:PySem.W.keepIn K (.ref f)=true)(t:K.lookup T=some to)(d:to.data=.seq ds tn):Kw K x qual st f (PySem.W.fnOf x qual (El st) (Cz st) (Az st) (.ref T) kV doc pm an cdv ct) ds:=
 ⟨⟨oc,od,T,to,tn,kV,doc,pm,an,cdv,ct,osl,rfl,l,c,t,d⟩,k⟩
end
structure Bg(P:Program)(w:World)(K:Fr)(mg:Str->Option Value)(base:Heap)(CX:CXT)(k:Nat)(x:Str)(ps:List Str)(dvs:List V)(sp:Sp):Prop where
 ex:∃(f:Addr) (fd:FuncData) (ds:List Value),Ei P w K mg base CX k f fd ps sp/\Binds K fd ps ds/\Vals dvs ds/\PySem.W.keepIn K (.ref f)=true/\mg x=some (.ref f)
structure rQ(P:Program)(w:World)(K:Fr)(mg:Str->Option Value)(base:Heap)(CX:CXT)(k:Nat)(x:Str)(C:Addr)(ps:List Str)(dvs:List V)(sp:Sp):Prop where
 ex:∃(f:Addr) (fd:FuncData) (ds:List Value),Ei P w K mg base CX k f fd ps sp/\Binds K fd ps ds/\Vals dvs ds/\Mk K C f/\mg x=some (.ref C)
section
variable{X:Cx}{EE:Value->Option Addr->St->Hp->Prop}{C:Addr}{m x:Str}{k:Nat}{ps:List Str}{dvs:List V}{sp:Sp}{o e:Expr}{es:List Expr}{ta:TE}{t:TA}{apos pos p:Pos}
theorem zx(O:rQ X.prog X.w X.K X.mg X.base CX0 k x C ps dvs sp)(hr:Cv (k+1) X.A)(hg:Gl X x)(ha:PA X (e::es) t)
 (hdb:(x==("__debug__":Str))=false:=by decide)(he:‹starEach (e::es) X.env=(false,eval e X.env)::starEach es X.env›)(hpl:‹(backTo pos (starEach es X.env)).any (·.1)=false›):
 PE X (.Call (.Name x p) (e::es) [] pos) (Vr C sp dvs E0 t):=by
 obtain⟨f,fd,ds,F,hb,hv,M,hm⟩:=O.ex;exact eV M F hr hg hm hb hv NP ha hdb he hpl
end
section
variable{X:Cx}
end
section
variable{X:Cx}{pins:List (Addr×Obj)}{Z:St}{H:Hp}{s:Shared}
end
structure Q6(P:Program)(w:World)(K:Fr)(mg:Str->Option Value)(base:Heap)(CX:CXT)(k:Nat)(m:Str)(ps:List Str)(L:List (Addr×Sp)):Prop where
 ex:∀p∈L,Cls K p.1/\∃(f:Addr) (fd:FuncData),Ei P w K mg base CX k f fd ps p.2/\Binds K fd ps []/\Meth K p.1 m f
def RW(L:List (Addr×Sp))(m:Str)(ta:TE)(t:TA):TE:=fun Z H Q=>ta Z H fun x H1=>∃a C dx fs sp,(C,sp)∈L/\x=.ref a/\H1 a=some (.ins C dx fs)/\fs.lookup m=none/\
 t Z H1 fun vs H2=>sp (x::(vs++[])) H2 Q E0
section
variable{X:Cx}{EE:Value->Option Addr->St->Hp->Prop}{L:List (Addr×Sp)}{m:Str}{k:Nat}{ps:List Str}{o e:Expr}{es:List Expr}{ta:TE}{t:TA}{apos pos:Pos}
theorem ou{pl:Sem Bool}(O:Q6 X.prog X.w X.K X.mg X.base CX0 k m ps L)(hr:Cv k X.A)(he:PE X o ta)(ha:PA X (e::es) t)
 (hst:‹starEach (e::es) X.env=(false,eval e X.env)::starEach es X.env›)(hpl:‹(backTo pos (starEach es X.env)).any (·.1)=false›)
 (ht:‹eval (.Call (.Attribute o m apos) (e::es) [] pos) X.env=(do
  let ov <-eval o X.env
  standAt apos.atName
  let (f,first) <-holding [ov] (getMethod ov m pl)
  callWith pos f first (backTo pos (starEach (e::es) X.env)) (backToKw pos (keywordEach [] X.env)))›):
 PE X (.Call (.Attribute o m apos) (e::es) [] pos) (RW L m ta t):=by
 intro pins s Z H Q I h;refine jg0 (pl:=pl) (thn (he s Z H _ I h) fun u s1 hZ=>?_) ht;obtain⟨x,H1,I1,rx,a,C,dx,fs,sp,mem,ex,ea,l,q⟩:=hZ;subst ex;obtain rfl:u=Value.ref a:=rx;obtain⟨c,f,fd,F,hb,hm⟩:=O.ex _ mem;refine Ja I1 ea c hm l ?_;refine jc5 (first:=[.ref a]) (h₀:=X.base) I.ok.mod.kin hm.kp (thn (ha (pos:=pos) pins s1 Z H1 _ I1 q) fun us s2 ⟨vs,H2,I2,r,q2⟩=>⟨I2.kIn,?_⟩) hst hpl
 exact Ou (us:=.ref a::us) (vs:=.ref a::vs) F hr hb .nil NP I2 (.cons rfl r) q2
theorem BX{pl:Sem Bool}(O:Q6 X.prog X.w X.K X.mg X.base CX0 k m ps L)(he:PE X o ta)(hr:Cv k X.A:=by walk_at"hr")
 (ht:‹eval (.Call (.Attribute o m apos) [] [] pos) X.env=(do
  let ov <-eval o X.env
  standAt apos.atName
  let (f,first) <-holding [ov] (getMethod ov m pl)
  callWith pos f first (backTo pos (starEach [] X.env)) (backToKw pos (keywordEach [] X.env)))›):
 PE X (.Call (.Attribute o m apos) [] [] pos) (RW L m ta Ly):=by
 intro pins s Z H Q I h;refine jg0 (pl:=pl) (thn (he s Z H _ I h) fun u s1 hZ=>?_) ht;obtain⟨x,H1,I1,rx,a,C,dx,fs,sp,mem,ex,ea,l,q⟩:=hZ;subst ex;obtain rfl:u=Value.ref a:=rx;obtain⟨c,f,fd,F,hb,hm⟩:=O.ex _ mem;refine Ja I1 ea c hm l ?_;exact jq3 (first:=[.ref a]) I1.kIn hm.kp (Ou (us:=[.ref a]) (vs:=[.ref a]) F hr hb .nil NP I1 (.cons rfl .nil) q)
end
theorem ADi{us:List α}(h:us.length=1):∃a0,us=[a0]:=by
 match us,h with
 | [a0],_=>exact⟨a0,rfl⟩
theorem ADh{us:List α}(h:us.length=2):∃a0 a1,us=[a0,a1]:=by
 match us,h with
 | [a0,a1],_=>exact⟨a0,a1,rfl⟩
theorem AAZ{us:List α}(h:us.length=3):∃a0 a1 a2,us=[a0,a1,a2]:=by
 match us,h with
 | [a0,a1,a2],_=>exact⟨a0,a1,a2,rfl⟩
theorem ACb{us:List α}(h:us.length=4):∃a0 a1 a2 a3,us=[a0,a1,a2,a3]:=by
 match us,h with
 | [a0,a1,a2,a3],_=>exact⟨a0,a1,a2,a3,rfl⟩
theorem AAX{us:List α}(h:us.length=5):∃a0 a1 a2 a3 a4,us=[a0,a1,a2,a3,a4]:=by
 match us,h with
 | [a0,a1,a2,a3,a4],_=>exact⟨a0,a1,a2,a3,a4,rfl⟩
theorem ADg{us:List α}(h:us.length=6):∃a0 a1 a2 a3 a4 a5,us=[a0,a1,a2,a3,a4,a5]:=by
 match us,h with
 | [a0,a1,a2,a3,a4,a5],_=>exact⟨a0,a1,a2,a3,a4,a5,rfl⟩
theorem ACa{us:List α}(h:us.length=7):∃a0 a1 a2 a3 a4 a5 a6,us=[a0,a1,a2,a3,a4,a5,a6]:=by
 match us,h with
 | [a0,a1,a2,a3,a4,a5,a6],_=>exact⟨a0,a1,a2,a3,a4,a5,a6,rfl⟩
theorem ADf{us:List α}(h:us.length=8):∃a0 a1 a2 a3 a4 a5 a6 a7,us=[a0,a1,a2,a3,a4,a5,a6,a7]:=by
 match us,h with
 | [a0,a1,a2,a3,a4,a5,a6,a7],_=>exact⟨a0,a1,a2,a3,a4,a5,a6,a7,rfl⟩
section
variable{X:Cx}
end
section
variable{X:Cx}
end
theorem ql(xs:List V)(k:Nat):Im xs none (some (k:Int))=xs.take k:=by
 unfold Im;rw[HT.sIx_none,HT.sIx_nat,jn5,Nat.sub_zero];by_cases h:k<=xs.length
 ·rw[jv8 h]
 ·rw[ju3 ⋯,vn (qg _),vn ⋯]
section
variable{X:Cx}
end
section
variable{X:Cx}
end
noncomputable def Vy(c:Nat):V:=.str ⟨#[c]⟩
noncomputable def Its(z:Str):It:=⟨fun i _=>i<z.cps.size,fun i H x H'=>H'=H/\∃c,z.cps[i]?=some c/\x=Vy c,fun i _=>z.cps.size<=i⟩
theorem lN{P:Program}{w:World}{tg:Expr}(z:Str)(t:Tok)(it:Addr):Turn P w K tg (Its z) [it] it (fun i h=>h.IsStrIter it "str_ascii_iterator" z t i) where
 mem:=by simp
 obj:=fun i h st b hb=>by
  have e:b=it:=by simpa using hb
  subst e;obtain⟨o,e,c,d⟩:=st;exact⟨o,e,fun v z=>by rw[d] at z;cases z⟩
 keep:=fun i h h' st k=>by
  obtain⟨o,e,r⟩:=st;exact⟨o,k it (by simp) o e,r⟩
 item:=by
  intro X hP hw hK hc i pins s Z H E I hf st hg;subst hP hw hK;have hg':i<z.cps.size:=hg;obtain⟨f0,f1,f2,f3,f4,f5⟩:=hf it (by simp);refine wpAny_pyNext_ascii_item st (c:=z.cps[i]) (by simp[hg']) fun h' st' sb=>?_;have I1:Inv X pins Z H { s with heap:=h',toks:=s.toks+1 }:=I.turned (t':=s.toks+1) (fun b o hb e=>(sb.2 b hb).trans e) f0 f1 f3 f4 f5;obtain⟨o,e,c,d⟩:=id st';exact⟨_,rfl,Zh (s:={ s with heap:=h',toks:=s.toks+1 }) e c d nofun ⟨Vy z.cps[i],H,I1,⟨_,rfl⟩,⟨rfl,_,by simp[hg'],rfl⟩,st',fun b hb=>(hf b hb).1⟩⟩
 done:=by
  intro X hP hw hK hc i pins s Z H E I hf st hg;subst hP hw hK;have hg':z.cps.size<=i:=hg;obtain⟨f0,f1,f2,f3,f4,f5⟩:=hf it (by simp);exact wpAny_pyNext_ascii_end (I.ok.hd hc) st (by simp[hg']) fun h' eb=>⟨rfl,I.turned (t':=s.toks) (fun b o hb e=>eb b o hb e) f0 f1 f3 f4 f5⟩
 self:=fun _ _ _ _ _ st h=>wpAny_pyIter_striter_ascii st h
noncomputable def asc(z:Str):Bool:=z.cps.all (· <128)
def ACf(tl:TE):TI:=fun Z H R=>tl Z H fun x H1=>∃z,x=.str z/\asc z=true/\R (Its z) H1
section
variable{X:Cx}{tg:Expr}
theorem oU{l:Expr}{tl:TE}(hl:PE X l tl):PI X tg l (ACf tl):=by
 intro pins s Z H R I h;refine thn (hl s Z H _ I h) fun v s1 hZ=>?_;obtain⟨x,H1,I1,r1,q1⟩:=hZ;obtain⟨z,e,ha,q⟩:=q1;subst e;obtain⟨t,rfl⟩:=(show ∃t,v=Value.str z t from r1);refine wpAny_pyIter_ascii ha ?_;refine⟨s1.heap.objs.size,[s1.heap.objs.size],_,_,H1,rfl,I1.kept (t':=s1.toks) fun b o e=>jv _ e,lN z t _,⟨_,xa _ rfl,rfl,rfl⟩,fun b hb=>?_,q⟩;have e:b=s1.heap.objs.size:=by simpa using hb
 subst e;exact I1.fpOk (qg _) (I1.hok.fresh (qg _))
def ADc:V->Option Int->Option Int->Hp->VK->Prop:=fun x lo hi H Q=>∃z,x=.str z/\z.length<=sizeLine/\Q (.str (Txt.slice z lo hi)) H
theorem Za{v:Value}{o:Option Int}(h:IsPart v o):∃l:Option (Int×Tok),v=partValue l/\l.map (·.1)=o:=by
 cases h with
 | none=>exact⟨none,rfl,rfl⟩
 | int i t=>exact⟨some (i,t),rfl,rfl⟩
theorem W3:SlR X ADc:=by
 intro pins s Z H x v vl vu lo hi sl Q I rx hs pl pu h;obtain⟨z,rfl,hz,q⟩:=h;obtain⟨t,rfl⟩:=(show ∃t,v=Value.str z t from rx);obtain⟨l,rfl,rfl⟩:=Za pl;obtain⟨u,rfl,rfl⟩:=Za pu;refine⟨"str",_,F.slot_str_getitem.lookup,typeIs_str _ _ _,wpAny_getItem_str_slice (l:=l) (u:=u) (st:=none) hs rfl ?_⟩;refine post_val_or_str ⟨qr (Txt.slice_le z _ _) hz,fun t' k=>?_⟩;exact⟨.str _,H,I.kept (t':=k) fun b o e=>e,⟨_,rfl⟩,q⟩
theorem Vg:MtR X "str.startswith" (fun x xs H Q=>∃z y,x=.str z/\xs=[.str y]/\Q (.bl (Txt.startswith z y)) H):=by
 intro pins s Z H x xs v us Q I rx rs h;obtain⟨z,y,rfl,rfl,q⟩:=h;obtain⟨t,rfl⟩:=(show ∃t,v=Value.str z t from rx);obtain⟨u,rfl,ru⟩:=vals1 rs;obtain⟨t',rfl⟩:=(show ∃t,u=Value.str y t from ru);exact call_gives F.slot_str_startswith (typeIs_str _ _ _) F.entry_str_startswith (F.args_str_startswith_2 _ _) (gives_str_startswith z y t t') ⟨.bl _,H,I,rfl,q⟩
theorem Lp:HS X (.type "int") (fun xs H Q=>∃z n,xs=[.str z]/\z.length<=640/\PySem.intText? z=some n/\Q (.int n) H):=by
 intro pins s Z H xs us Q I r h;obtain⟨z,n,rfl,hl,hn,q⟩:=h;obtain⟨u,rfl,ru⟩:=vals1 r;obtain⟨t,rfl⟩:=(show ∃t,u=Value.str z t from ru);exact PySem.W.KIN.call_text hn hl ⟨.int n,H,I.tok _,⟨_,rfl⟩,q⟩
end
theorem aN{z:Str}:Walk (Its z) (fun _=>True) (z.cps.toList.map Vy):=
 ⟨fun i H _ hi=>(by show i<z.cps.size;simpa using hi),fun i H x H' _ y hi=>⟨y.1,by
  obtain⟨c,hc,rfl⟩:=y.2;rw[qq,Array.getElem?_toList,hc];rfl⟩,fun i H _ hi=>(by show z.cps.size<=i;simpa using hi)⟩
theorem nq{tl:TE}{R:It->Hp->Prop}(h:tl Z H fun x H1=>∃z,x=.str z/\asc z=true/\R (Its z) H1):ACf tl Z H R:=h
theorem dw(x:Str)(t:Tok):RelV (.str x) (.str x t):=⟨t,rfl⟩
noncomputable def constStr?:Expr->Option Str
 | .Constant (.str x) _ _=>some x
 | _=>none
def dU(ss:List Str):TA:=fun _ H Q=>Q (ss.map V.str) H
theorem eZ{X:Cx}:∀{es:List Expr} {ss:List Str},es.map constStr?=ss.map some->PA X es (dU ss)
 | [],[],_=>Ab
 | [],_::_,h=>nomatch h
 | _::_,[],h=>nomatch h
 | e::es,x::ss,h=>by
  rw[zv,zv] at h;injection h with h1 h2;have ih:=eZ (X:=X) (es:=es) (ss:=ss) h2;unfold constStr? at h1;split at h1
  ·injection h1 with h1;subst h1;exact Aa Ah ih rfl
  ·cases h1
theorem eU{X:Cx}{es:List Expr}{ss:List Str}(h:es.map constStr?=ss.map some):PE X (.List es pos) (sU (dU ss)):=Eb (eZ h)
theorem RG{ss:List Str}{Q:List V->Hp->Prop}(h:Q (ss.map V.str) H):dU ss Z H Q:=h
structure BE(X:Cx)(e:Expr)(te:TE):Prop where
 out:PE X e te
structure BS(X:Cx)(st:Stmt)(t:TS):Prop where
 out:PS X st t
structure BSs(X:Cx)(st:List Stmt)(t:TS):Prop where
 out:PSs X st t
section
variable{X:Cx}
theorem be{e:Expr}(h:PE X e te):BE X e te:=⟨h⟩
theorem YQ{es:List Expr}{ss:List Str}(h:es.map constStr?=ss.map some):BE X (.List es pos) (sU (dU ss)):=⟨eU h⟩
theorem ACq{op:Operator}{r:R2}{a b:Expr}{ta tb:TE}(ho:OpR X (binaryOp op) r)(ha:BE X a ta)(hb:BE X b tb):BE X (.BinOp a op b pos) (tOp r ta tb):=⟨Ag ho ha.out hb.out⟩
theorem bs{st:Stmt}{t:TS}(h:PS X st t):BS X st t:=⟨h⟩
theorem dD{i:Nat}{e:Expr}{pos':Pos}(hN:X.N.Nodup)(hi:X.N[i]?=some x)(hx:Loc X.env.scope x)(he:BE X e te)(hs:‹swapsWith e (some (.Name x pos')) pos.line X.env=pure false›)(hf:X.fn x=true\/X.env.scope.names.lookup x=some .local:=by first | exact .inl rfl | exact .inr rfl | assumption):
 BS X (.Assign [.Name x pos'] e pos) (aZ te (HR i)):=⟨Ai _ he.out hN hi hx hs hf⟩
theorem JF{st:Stmt}{rest:List Stmt}{t u:TS}(h1:BS X st t)(h2:BSs X rest u):BSs X (st::rest) (lV t u):=⟨Ac h1.out h2.out⟩
theorem wK{st:Stmt}{t:TS}(h1:BS X st t):BSs X [st] t:=⟨Ad h1.out⟩
theorem ABG{ss:List Stmt}{R:TS->Prop}(h:∃t,BSs X ss t/\R t):∃t,PSs X ss t/\R t:=by
 obtain⟨t,h1,h2⟩:=h;exact⟨t,h1.out,h2⟩
end
inductive GQ(P:Program)(w:World)(K:Fr)(mg:Str->Option Value)(base:Heap)(k:Nat):List (Str×Sp)->Prop
 | nil:GQ P w K mg base k []
 | cons {x:Str} {ps:List Str} {sp:Sp} {L:List (Str×Sp)}:Cal P w K mg base k x ps sp->GQ P w K mg base k L->GQ P w K mg base k ((x,sp)::L)
theorem GQ.get{P:Program}{w:World}{mg:Str->Option Value}{base:Heap}{k:Nat}{L:List (Str×Sp)}(h:GQ P w K mg base k L){x:Str}{sp:Sp}(hm:(x,sp)∈L):∃ps,Cal P w K mg base k x ps sp:=by
 induction h with
 | nil=>cases hm
 | cons C _ ih=>
  rcases qf.mp hm with e | e
  ·injection e with e1 e2;subst e1;subst e2;exact⟨_,C⟩
  ·exact ih e
def mC(mg:Str->Option Value)(i:Nat)(L:List (Str×Sp))(t:TA):TE:=fun Z H Q=>∃f x sp,Z[i]?=some (some (.ref f))/\(x,sp)∈L/\mg x=some (.ref f)/\t Z H fun vs H1=>sp vs H1 Q E0
section
variable{X:Cx}{pos:Pos}
theorem uw{k i:Nat}{L:List (Str×Sp)}{e:Expr}{es:List Expr}{t:TA}{p:Pos}(CV:GQ X.prog X.w X.K X.mg X.base k L)(hr:Cv k X.A)(hN:X.N[i]?=some x)(hv:Vis X.env.scope x)(ha:PA X (e::es) t)
 (hdb:(x==("__debug__":Str))=false:=by decide)(hcd:(x==("__classdict__":Str))=false:=by decide)(he:‹starEach (e::es) X.env=(false,eval e X.env)::starEach es X.env›)(hpl:‹(backTo pos (starEach es X.env)).any (·.1)=false›):
 PE X (.Call (.Name x p) (e::es) [] pos) (mC X.mg i L t):=by
 intro pins s Z H Q I h;obtain⟨f,y,sp,hf,hm,hmg,h⟩:=h;obtain⟨ps,C⟩:=CV.get hm;obtain⟨f',fd,F,b,kp,m⟩:=C.ex;have ef:f'=f:=by
  rw[hmg] at m;injection m with m;injection m with m;exact m.symm
 subst ef;refine ja1 ?_;refine thn (oY hN hv hdb hcd s Z H (fun v H1=>v=.ref f'/\H1=H) I (MK hf ⟨rfl,rfl⟩)) fun v s1 hZ=>?_;obtain⟨y,H1,I1,r1,q1⟩:=hZ;obtain⟨rfl,rfl⟩:=q1;cases r1;refine jc5 (h₀:=X.base) I1.ok.mod.kin kp (thn (ha (pos:=pos) pins s1 Z _ _ I1 h) fun us s2 ⟨vs,H2,I2,r,q⟩=>⟨I2.kIn,?_⟩) he hpl;dsimp only at q;have hl:us.length=ps.length:=by rw[<-r.length];exact F.len _ _ _ _ q
 have hb:=b s2 us I2.kIn (by rw[ya];exact hl);rw[ya] at hb;show wpAny _ _ (call (.ref f') us) _ _ _;refine js8 (jj0 (F.run X.A X.stack s2 H2 ⟨us,[]⟩ us vs Q _ hr I2.env0 hb r q) fun z s' hq=>?_);cases z with
 | error e=>exact False.elim hq
 | ok fl=>
  cases fl with
  | ret u=>exact I2.after hq
  | next=>exact False.elim hq
  | brk=>exact False.elim hq
  | cont=>exact False.elim hq
theorem oE{mg:Str->Option Value}{i:Nat}{L:List (Str×Sp)}{t:TA}{f:Addr}{sp:Sp}(h1:Z[i]?=some (some (.ref f)))(h2:(x,sp)∈L)(h3:mg x=some (.ref f))(h:t Z H fun vs H1=>sp vs H1 Q E0):mC mg i L t Z H Q:=⟨f,x,sp,h1,h2,h3,h⟩
end
section
variable{X:Cx}{pins:List (Addr×Obj)}{Z:St}{H:Hp}{s:Shared}{h':Heap}
theorem Inv.turnedNew{t':Nat}{ch:List Addr}{T:Addr}{o:HO}(I:Inv X pins Z H s)(k:∀b u,b∉ch->s.heap.get? b=some u->h'.get? b=some u)(hf:∀b∈ch,Jm X pins H b)
 (hp:s.heap.objs.size<=T)(new:Ef X.prog X.w (upd H T o) h' T o):Inv X pins Z (upd H T o) { s with heap:=h',toks:=t' }:=by
 have hn:H T=none:=I.hok.fresh hp;have nit:∀b u,H b=some u->b∉ch:=fun b u e z=>by rw[(hf b z).1] at e;cases e
 refine I.step (g':=s.gens) (d':=s.drawn) (ch:=ch) (fun b hb=>⟨(hf b hb).2.2.2.1,(hf b hb).2.1,(hf b hb).2.2.2.2.1,(hf b hb).2.2.2.2.2⟩) (fun b u _ _ hc e _=>k b u hc e) (fun b u _ _ hc e _=>⟨u.slots,k b u hc e⟩)
  (fun b u _ e n=>by rw[Ax (vv (xi (xk e) hp))];exact n)
  (fun b u hc e=>⟨u,k b u hc e⟩) (fun b xs q=>by rw[Ax (Bj q hn)];exact q) (fun b u xs q=>by rw[Ax (Bj q hn)];exact q) (fun b ps q=>⟨#[],by rw[Ax (Bj q hn),q];simp⟩) (fun m hm=>?_) (fun b u e=>?_) I.bare
 ·obtain⟨u,es,ep,ho,r⟩:=hm;exact⟨u,es,ep,k _ u (fun z=>(hf _ z).2.1 rfl) ho,r⟩
 ·by_cases hb:b=T
  ·subst hb;rw[Am] at e;cases e;exact new
  ·rw[Ax hb] at e;refine(I.hok b u e).stay (fun c v hc q=>k c v ?_ q) (fun c q=>by rw[Ax (Bj q hn)];exact q) fun c xs q=>by rw[Ax (Bj q hn)];exact q
   rcases hc with z | z
   ·rw[z];exact nit b u e
   ·exact nit c _ z
theorem Inv.turnedL{t':Nat}{ch:List Addr}(I:Inv X pins Z H s)(k:∀b u,b∉ch->s.heap.get? b=some u->h'.get? b=some u)(hf:∀b∈ch,Jm X pins H b):Inv X pins Z H { s with heap:=h',toks:=t' }:=by
 have nit:∀b u,H b=some u->b∉ch:=fun b u e z=>by rw[(hf b z).1] at e;cases e
 refine I.step (g':=s.gens) (d':=s.drawn) (ch:=ch) (fun b hb=>⟨(hf b hb).2.2.2.1,(hf b hb).2.1,(hf b hb).2.2.2.2.1,(hf b hb).2.2.2.2.2⟩) (fun b u _ _ hc e _=>k b u hc e) (fun b u _ _ hc e _=>⟨u.slots,k b u hc e⟩)
  (fun _ _ _ _ n=>n) (fun b u hc e=>⟨u,k b u hc e⟩) (fun b xs q=>q) (fun b u xs q=>q) (fun b ps q=>⟨#[],by rw[q];simp⟩) (fun m hm=>?_) (fun b u e=>?_) I.bare
 ·obtain⟨u,es,ep,ho,r⟩:=hm;exact⟨u,es,ep,k _ u (fun z=>(hf _ z).2.1 rfl) ho,r⟩
 ·refine(I.hok b u e).stay (fun c v hc q=>k c v ?_ q) (fun c q=>q) fun c xs q=>q;rcases hc with z | z
  ·rw[z];exact nit b u e
  ·exact nit c _ z
end
theorem yE{n a b:Nat}(ha:a<n)(hb:b<n):ZipApart (n+4) (n+2) (n+3) n (n+1) a b:=
 ⟨show n+2≠n+4 by lia,show n+3≠n+4 by lia,show n≠n+4 by lia,show n+1≠n+4 by lia,show n+2≠n+3 by lia,show n+2≠n by lia,show n+2≠n+1 by lia,show n+3≠n by lia,show n+3≠n+1 by lia,show n≠n+1 by lia,
  show a≠n+4 by lia,show a≠n+3 by lia,show a≠n by lia,show a≠n+1 by lia,show b≠n+4 by lia,show b≠n+3 by lia,show b≠n by lia,show b≠n+1 by lia⟩
section
variable{X:Cx}
theorem Pq{M:List Str}{tg:Expr}{xs:List Str}{y:Str}{py spos:Pos}{ifs:List Expr}{cl:List (Str×Addr)}{wi:TI}{g:TG}{i:Nat}(hN:X.N.Nodup)(hiy:X.N[i]?=some y)(hy:Loc X.env.scope y)
 (hc:X.calm=true)(ok:N8 X M xs scope cl)(hi:PI X tg iter wi)
 (ht:∀C s₀ H₀ fp,kZ (DP X M xs scope cl C s₀ H₀ fp) ifs tt)(hg:∀C s₀ H₀ fp,PG (DP X M xs scope cl C s₀ H₀ fp) tg g)(he:∀C s₀ H₀ fp,PE (DP X M xs scope cl C s₀ H₀ fp) elt te)
 (hsw:swapsWith (.ListComp elt [⟨tg,iter,ifs,0⟩] scope pos) (some (.Name y py)) spos.line X.env=pure true:=by with_unfolding_all rfl)
 (hf:X.fn y=true\/X.env.scope.names.lookup y=some .local:=by first | exact .inl rfl | exact .inr rfl | assumption)
 (hs:∀x,foldedSetIterable iter X.env x=pure x:=by intro _;rfl):
 PS X (.Assign [.Name y py] (.ListComp elt [⟨tg,iter,ifs,0⟩] scope pos) spos) (aZ (lZ xs.length wi g tt te) (HR i)):=by
 intro pins s Z H D I h;rw[exec_Assign_Name_used _ _ _ _ hsw];refine js (jp0 (js ?_));show wpAny _ X.A (do let _ <-comprehension (.ListComp elt [⟨tg,iter,ifs,0⟩] scope pos) scope X.env _ (newList []) false (eval iter X.env) (some (assign (.Name y py) X.env))) _ _ s;refine js (Qb (wpAny_comprehension_free (use:=some (assign (.Name y py) X.env)) (Q:=fun _ s'=>SP X pins D .next s') rfl hs ok.clos ok.kind ok.names
  (thn (hi s Z H _ I h) fun xv s1 h1=>thn h1 fun itv s2 h2=>?_)) (fun _ s' hq=>zt (zt hq)) fun _ _ e=>e)
 obtain⟨it,fp,tn,J,H2,e,I2,T,st2,f2,hW⟩:=h2;subst e;refine Tr (Q:=fun x H1=>HR i x Z H1 D.nx) hc ok ht hg he I2 T st2 f2 hW (compPost (model X.prog X.w) X.A X.xe (some (assign (.Name y py) X.env)) (fun _ s'=>SP X pins D .next s')) fun Dd C H3 s4 I4 hm fC q=>?_
 obtain⟨m,hn⟩:=hm;show wpAny _ X.A (assign (.Name y py) X.env (.ref Dd)) _ _ _;refine wpAny_assign_Name (Vt I4 hN hiy hy (v:=.ref Dd) rfl (fun s5 I5 hsb=>?_) hf);obtain⟨a,sb,ha⟩:=hsb;have hCa:C≠a:=by
  rcases ha with rfl | ha
  ·exact fC.2.1
  ·exact(fC.2.2.2.2.1 _ _ ha).symm
 exact⟨m,hn.sameBut sb hCa,fun h' hsb'=>⟨_,H3,I5.turned (t':=s5.toks) (fun b o hb e=>hsb'.extBut b o hb e) fC.1 fC.2.1 fC.2.2.2.1 fC.2.2.2.2.1 fC.2.2.2.2.2,q⟩⟩
end
structure ADN(K:Fr)(mg:Str->Option Value)(x:Str)(CB f:Addr):Prop where
 bound:mg x=some (.ref CB)
 sp:PySem.W.specialIn K (.ref CB) "__getattribute__"=some (some (.builtin "type.__getattribute__"))
 rd:PySem.W.readsIn K CB (.type "type")=true
 fc:PySem.W.findCls K (.ref CB) (.type "type") "__init__"=some (.val (.ref f))
 kp:PySem.W.keepIn K (.ref f)=true
structure ABW(P:Program)(w:World)(K:Fr)(mg:Str->Option Value)(base:Heap)(k:Nat)(x:Str)(ps:List Str)(sp:Sp):Prop where
 ex:∃(f CB:Addr) (fd:FuncData),Ei P w K mg base CX0 k f fd ps sp/\Binds K fd ps []/\ADN K mg x CB f
section
variable{X:Cx}
theorem Df{k:Nat}{ps:List Str}{sp:Sp}{e:Expr}{es:List Expr}{t:TA}{p apos:Pos}{pl:Sem Bool}(O:ABW X.prog X.w X.K X.mg X.base k x ps sp)(ha:PA X (e::es) t)(hr:Cv k X.A:=by walk_at"hr")(hg:Gl X x:=by exact rfl)
 (hdb:(x==("__debug__":Str))=false:=by decide)(hst:‹starEach (e::es) X.env=(false,eval e X.env)::starEach es X.env›)(hpl:‹(backTo pos (starEach es X.env)).any (·.1)=false›)
 (ht:‹eval (.Call (.Attribute (.Name x p) "__init__" apos) (e::es) [] pos) X.env=(do
  let ov <-eval (.Name x p) X.env
  standAt apos.atName
  let (f,first) <-holding [ov] (getMethod ov "__init__" pl)
  callWith pos f first (backTo pos (starEach (e::es) X.env)) (backToKw pos (keywordEach [] X.env)))›):
 PE X (.Call (.Attribute (.Name x p) "__init__" apos) (e::es) [] pos) (Vs sp [] E0 t):=by
 intro pins s Z H Q I h;obtain⟨f,CB,fd,F,hb,N⟩:=O.ex;refine jg0 (pl:=pl) (JX I hg N.bound ?_ hdb) ht;refine PySem.W.method_cls I.kIn N.sp (PySem.W.cls_value I.kIn N.rd N.fc rfl ?_);have I1:Inv X pins Z H { s with toks:=s.toks+1 }:=I.tok _;refine jc5 (first:=[]) (h₀:=X.base) I.ok.mod.kin N.kp (thn (ha pins _ Z H _ I1 h) fun us s2 ⟨vs,H2,I2,r,q2⟩=>⟨I2.kIn,?_⟩) hst hpl
 exact Ou (us:=us) (vs:=vs) F hr hb .nil NP I2 r q2
theorem Sv{k:Nat}{C:Addr}{ps:List Str}{sp:Sp}{p:Pos}(O:lC X.prog X.w X.K X.mg X.base CX0 k x C ps sp)(hr:Cv (k+1) X.A)(hg:Gl X x)
 (hdb:(x==("__debug__":Str))=false:=by decide):PE X (.Call (.Name x p) [] [] pos) (Vr C sp [] E0 Ly):=by
 obtain⟨f,fd,F,hb,M,hm⟩:=O.ex;exact o6 M F hr hg hm hb .nil NP hdb
end
section
variable{X:Cx}
end
section
variable{X:Cx}
end
end L2
namespace L2
open PySem PySem.Spec PyProof.Rows PySem.Builtin PySem.Builtin.Str
noncomputable def plc(c:Nat):Nat->List Nat->List Nat
 | _,[]=>[]
 | k,a::l=>if a=c then k::plc c (k+1) l else plc c (k+1) l
noncomputable def spl(c:Nat):List Nat->List (List Nat)
 | []=>[[]]
 | a::l=>if a=c then []::spl c l else ((a::(spl c l).headD [])::(spl c l).drop 1)
theorem Wt(c:Nat)(l:List Nat):spl c (c::l)=[]::spl c l:=by
 conv=>lhs;unfold spl
 rw[xz rfl]
theorem Mj{c a:Nat}(l:List Nat)(h:a≠c):spl c (a::l)=(a::(spl c l).headD [])::(spl c l).drop 1:=by
 conv=>lhs;unfold spl
 rw[yb h]
theorem RZ{a b:Str}(h:a.cps=b.cps):a=b:=by
 cases a;cases b;exact xy Str.mk h
theorem yV(c:Nat):∀l,spl c l≠[]
 | []=>fun h=>nomatch h
 | a::l=>by
  unfold spl;split
  ·exact fun h=>nomatch h
  ·exact fun h=>nomatch h
theorem Ky(c:Nat)(l:List Nat):spl c l=(spl c l).headD []::(spl c l).drop 1:=by
 have:=yV c l;cases h:spl c l with
 | nil=>exact absurd h this
 | cons p ps=>rfl
theorem eG(c:Nat):∀(l:List Nat) (k:Nat),(plc c k l).length+1=(spl c l).length
 | [],_=>rfl
 | a::l,k=>by
  have ih:=eG c l (k+1);unfold plc spl;split
  ·rw[qh,qh,ih]
  ·rw[ih,Ky c l];rfl
theorem K4(c:Nat):∀(l:List Nat) (k:Nat),(plc c k l).length=l.count c
 | [],_=>rfl
 | a::l,k=>by
  have ih:=K4 c l (k+1);unfold plc;rw[jv2];split
  ·rename_i h
   rw[qh,ih,xz (by simpa using h)]
  ·rename_i h
   rw[ih,yb (by simpa using h)];rfl
theorem Q8(c:Nat):∀(p l:List Nat),c∉p->spl c (p++c::l)=p::spl c l
 | [],l,_=>Wt c l
 | a::p,l,h=>by
  have ih:=Q8 c p l fun z=>h (qv _ z);show spl c (a::(p++c::l))=_;rw[Mj _ (fun z=>h (by rw[z];exact qm)),ih];rfl
theorem Ws(c:Nat):∀(p:List Nat),c∉p->spl c p=[p]
 | [],_=>rfl
 | a::p,h=>by
  rw[Mj _ (fun z=>h (by rw[z];exact qm)),Ws c p fun z=>h (qv _ z)];rfl
theorem O3(c:Nat)(L:List Nat):∀(l:List Nat) (k s0:Nat),L.drop k=l->s0<=k->k<=L.length->
 ((s0::(plc c k l).map (· +1)).zip (plc c k l++[L.length])).map (fun (ij:Nat×Nat)=>(L.drop ij.1).take (ij.2-ij.1))=((L.drop s0).take (k-s0)++(spl c l).headD [])::(spl c l).drop 1
 | [],k,s0,h,h1,h2=>by
  have e:k=L.length:=by
   have:=xy List.length h;rw[ja7] at this;simp at this;lia
  subst e;show[(L.drop s0).take (L.length-s0)]=[(L.drop s0).take (L.length-s0)++[]];rw[ya]
 | a::l,k,s0,h,h1,h2=>by
  have kl:k<L.length:=by
   have:=xy List.length h;rw[ja7,qh] at this;lia
  have hd:L.drop (k+1)=l:=by
   rw[<-List.drop_drop,h];rfl
  unfold plc spl;split
  ·have ih:=O3 c L l (k+1) (k+1) hd (qg _) kl;rw[zv,jf5,List.zip_cons_cons,zv,ih,Nat.sub_self,jr9,ji9,<-Ky];show _=((L.drop s0).take (k-s0)++[])::spl c l;rw[ya]
  ·have ih:=O3 c L l (k+1) s0 hd ⋯ kl;rw[ih];have e:(L.drop s0).take (k+1-s0)=(L.drop s0).take (k-s0)++[a]:=by
    have hk:(L.drop s0)[k-s0]?=some a:=by
     rw[List.getElem?_drop,show s0+(k-s0)=k by lia];have:=xy (fun z=>z[0]?) h;simpa [List.getElem?_drop] using this
    rw[show k+1-s0=(k-s0)+1 by lia,ja0,hk];rfl
   rw[e,Zs];rfl
noncomputable def cps(z:Str):List Nat:=z.cps.toList
theorem LR(z:Str):(cps z).length=z.length:=kg
theorem Xq(x:Str)(c:Nat):∀(n k free:Nat) (acc:Array Nat),k+n=x.length+1->free<=k->acc.size<=k->
 (forIn (List.range' k n) (acc,free) (StrLaws.occBody x ⟨#[c]⟩ x.length (x.length+1))).run.fst.toList=acc.toList++plc c k ((cps x).drop k)
 | 0,k,free,acc,h,_,_=>by
  rw[vj (by rw[LR];lia)];show acc.toList=acc.toList++[];rw[ya]
 | n+1,k,free,acc,h,hf,ha=>by
  rw[jt9,jl8];have one:(⟨#[c]⟩:Str).length=1:=rfl;by_cases z:(cps x)[k]?=some c
  ·have kl:k<(cps x).length:=(xp.mp z).1;have hs:=(StrLaws.subAt_one x c k).mpr z;have ed:(cps x).drop k=c::(cps x).drop (k+1):=by
    rw[Xs kl,(xp.mp z).2]
   have ih:=Xq x c n (k+1) (k+1) (acc.push k) ⋯ (qg _) (by rw[ju5];lia);unfold StrLaws.occBody;rw[xz ⟨⟨⟨by show acc.size<x.length+1;lia,hf⟩,hs.1⟩,hs.2⟩,ed];unfold plc;rw[xz rfl];have e2:acc.toList++k::plc c (k+1) ((cps x).drop (k+1))=(acc.push k).toList++plc c (k+1) ((cps x).drop (k+1)):=by
    rw[Array.toList_push,Zs];rfl
   rw[e2];exact ih
  ·have hs:¬(k+(⟨#[c]⟩:Str).length<=x.length/\subAt x ⟨#[c]⟩ k=true):=fun y=>z ((StrLaws.subAt_one x c k).mp y);have ih:=Xq x c n (k+1) free acc ⋯ ⋯ ⋯;have ep:plc c k ((cps x).drop k)=plc c (k+1) ((cps x).drop (k+1)):=by
    by_cases kl:k<(cps x).length
    ·rw[Xs kl];have:(cps x)[k]≠c:=fun y=>z (by rw[zo kl,y]);show(if (cps x)[k]=c then _ else _)=_;rw[yb this]
    ·rw[vj ⋯,vj ⋯];rfl
   unfold StrLaws.occBody;rw[yb fun y=>hs ⟨y.1.2,y.2⟩,ep];exact ih
theorem Ng(x:Str)(c:Nat):occurrences x ⟨#[c]⟩ 0 x.length (x.length+1)=plc c 0 (cps x):=by
 rw[StrLaws.occ_eq];have:=Xq x c (x.length+1) 0 0 #[] ⋯ (qg _) (qg _);simpa using this
theorem parts_eq(x:Str)(c:Nat):partsBetween x (plc c 0 (cps x)) 1=(spl c (cps x)).map fun p=>(⟨p.toArray⟩:Str):=by
 have h:=O3 c (cps x) (cps x) 0 0 rfl (qg _) (vt _);rw[jr9,ji9,<-Ky] at h;rw[<-h,va];unfold partsBetween;rw[<-LR];refine jk7 fun ij _=>?_;refine RZ (jf4.mp ?_);rw[StrLaws.strSub_toList];rfl
section
variable{X:Cx}
theorem Wq:∀(ps:List Str) (tk:Nat),Vals (ps.map V.str) (strsFrom tk ps)
 | [],_=>.nil
 | p::ps,tk=>.cons ⟨tk,rfl⟩ (Wq ps (tk+1))
theorem RX:∀{zs:List Str} {us:List Value},Vals (zs.map V.str) us->StrsAre us zs
 | [],_,.nil=>.nil
 | z::zs,_,.cons r rs=>by
  obtain⟨t,rfl⟩:=(show ∃t,_=Value.str z t from r);exact .cons z t (RX rs)
noncomputable def MF(c:Nat)(z:Str):List Str:=(spl c (cps z)).map fun p=>(⟨p.toArray⟩:Str)
theorem Rf(c:Nat)(z:Str):(MF c z).length<=z.length+1:=by
 unfold MF;rw[jp,<-eG c (cps z) 0,K4,<-LR];exact ju4 List.count_le_length
theorem Pj{c:Nat}{z:Str}(h:plc c 0 (cps z)=[]):MF c z=[z]:=by
 have e:=parts_eq z c;rw[h] at e;unfold MF;rw[<-e];show[strSub z 0 z.length]=[z];refine xy (fun y=>[y]) (RZ (jf4.mp ?_));rw[StrLaws.strSub_toList,jn5,Nat.sub_zero];exact vn (by show z.cps.toList.length<=z.cps.size;rw[kg];exact qg _)
def zZ:V->List V->Hp->VK->Prop:=fun x xs H Q=>∃z c,x=.str z/\xs=[.str ⟨#[c]⟩]/\c<256/\z.length<=1000000/\∀l,H l=none->Q (.ref l) (upd H l (.lst ((MF c z).map V.str)))
theorem KJ:MtR X "str.split" zZ:=by
 intro pins s Z H x xs v us Q I rx rs h;obtain⟨z,c,rfl,rfl,hc,hz,q⟩:=h;obtain⟨t,rfl⟩:=(show ∃t,v=Value.str z t from rx);obtain⟨u,rfl,ru⟩:=vals1 rs;obtain⟨t',rfl⟩:=(show ∃t,u=Value.str ⟨#[c]⟩ t from ru);have sl:z.length+1<=sizeLine:=qr (ju4 hz) nofun;have one:(⟨#[c]⟩:Str).length=1:=rfl;have itself:MF c z=[z]->EP X pins Z Q (.ref s.heap.objs.size) { s with heap:=s.heap.push { cls:=.type "list",data:=.seq [Value.str z t].toArray } }:=fun e=>by
  refine⟨.ref _,_,I.laid (a:=s.heap.objs.size) (o:=.lst ((MF c z).map V.str)) (fun _ _ e=>jv _ e) (qg _) ⟨by rw[e];show 1<=sizeLine;decide,[Value.str z t],0,by rw[e];exact .cons ⟨t,rfl⟩ .nil,xa _ rfl⟩,rfl,q _ I.fresh⟩
 by_cases h1:(decide (z.length<(⟨#[c]⟩:Str).length)||decide (PySem.Builtin.Str.strKind z<PySem.Builtin.Str.strKind ⟨#[c]⟩))=true
 ·have e:MF c z=[z]:=by
   have k1:PySem.Builtin.Str.strKind (⟨#[c]⟩:Str)=1:=by
    unfold PySem.Builtin.Str.strKind;simp[hc]
   have k0:1<=PySem.Builtin.Str.strKind z:=by
    unfold PySem.Builtin.Str.strKind
    repeat' split
    all_goals lia
   rw[k1,one,decide_eq_false (show ¬PySem.Builtin.Str.strKind z<1 by lia),jo8,decide_eq_true_eq] at h1;refine Pj ?_;have:cps z=[]:=jc2.mp (by rw[LR];lia);rw[this];rfl
  exact call_meets F.slot_str_split (typeIs_str _ _ _) F.entry_str_split (F.args_str_split_2 _ _) (meets_str_split_cannot_occur z ⟨#[c]⟩ t t' h1) (itself e)
 ·have h1':=(Bool.not_eq_true _).mp h1;by_cases h2:(occurrences z ⟨#[c]⟩ 0 z.length (z.length+1)).isEmpty=true
  ·have e:MF c z=[z]:=by
    rw[Ng,List.isEmpty_iff] at h2;exact Pj h2
   exact call_meets F.slot_str_split (typeIs_str _ _ _) F.entry_str_split (F.args_str_split_2 _ _) (meets_str_split_not_found z ⟨#[c]⟩ t t' h1' rfl h2) (itself e)
  ·have h2':=(Bool.not_eq_true _).mp h2;have ep:partsBetween z (occurrences z ⟨#[c]⟩ 0 z.length (z.length+1)) (⟨#[c]⟩:Str).length=MF c z:=by rw[Ng];exact parts_eq z c
   refine call_meets F.slot_str_split (typeIs_str _ _ _) F.entry_str_split (F.args_str_split_2 _ _) (meets_str_split_sep z ⟨#[c]⟩ t t' h1' rfl h2' ⋯ (by rw[ep];exact qr (Rf c z) sl)) ?_;rw[ep];exact⟨.ref _,_,I.laid (a:=s.heap.objs.size) (o:=.lst ((MF c z).map V.str)) (fun _ _ e=>jv _ e) (qg _) ⟨by rw[jp];exact qr (Rf c z) sl,strsFrom s.toks (MF c z),0,Wq _ _,xa _ rfl⟩,rfl,q _ I.fresh⟩
theorem pN:MtR X "str.count" (fun x xs H Q=>∃z c,x=.str z/\xs=[.str ⟨#[c]⟩]/\Q (.int (((cps z).count c:Nat):Int)) H):=by
 intro pins s Z H x xs v us Q I rx rs h;obtain⟨z,c,rfl,rfl,q⟩:=h;obtain⟨t,rfl⟩:=(show ∃t,v=Value.str z t from rx);obtain⟨u,rfl,ru⟩:=vals1 rs;obtain⟨t',rfl⟩:=(show ∃t,u=Value.str ⟨#[c]⟩ t from ru);have e:=Ng z c;refine call_gives F.slot_str_count (typeIs_str _ _ _) F.entry_str_count (F.args_str_count_2 _ _) (gives_str_count z ⟨#[c]⟩ t t') ?_;rw[e,K4];exact⟨.int _,H,I.tok _,⟨_,rfl⟩,q⟩
def rJoin(K:Fr):V->List V->Hp->VK->Prop:=fun x xs H Q=>∃z l zs,x=.str z/\xs=[.ref l]/\SqL K H l (zs.map V.str)/\(zs.map (·.length)).sum+zs.length*z.length<=16777216/\Q (.str (Txt.join z zs)) H
theorem fJ:MtR X "str.join" (rJoin X.K):=by
 intro pins s Z H x xs v us Q I rx rs h;obtain⟨z,l,zs,rfl,rfl,hl,hz,q⟩:=h;obtain⟨t,rfl⟩:=(show ∃t,v=Value.str z t from rx);obtain⟨u,rfl,ru⟩:=vals1 rs;obtain rfl:u=Value.ref l:=ru;obtain⟨its,r,pl,_⟩:=I.list hl;exact join_list pl.isList (by simpa using RX r) hz fun t' k=>⟨.str _,H,I.tok _,⟨_,rfl⟩,q⟩
end
end L2
namespace L2
open PySem PySem.Spec PyProof.Rows
section
variable{s:Shared}{A:Around}{w:World}{prog:Program}
theorem AAR{R:Result->Shared->Prop}{g:Addr}{x y d:Int}{t1 t2 t3:Tok}{k:Nat}(ha:A.handled=none)(hg:IsRange s.heap g x y d t1 t2 t3)(big:Builtin.Range.small x y d=false)(ek:Builtin.Range.rangeSize x y d=k)(fits:k<=2^24)(L:Addr)(res:Value)(m0:Nat)
 (hL:s.heap.get? L=some { cls:=.type "list",data:=.seq #[] m0 })
 (fin:∀hp tk ys m,(∀e o,e≠L->s.heap.get? e=some o->hp.get? e=some o)->hp.get? L=some { cls:=.type "list",dict:=none,data:=.seq ys m,slots:= #[] }->ItemsOf (fun i v=>∃t,v=.int (x+i*d) t) ys k->R (.ok (.ret res)) { s with heap:=hp,toks:=tk }):
 wpAny (model prog w) A.in1 (Builtin.List.listExtendWith (.ref L) (.ref g) res)
  (fun z s'=>match z with | .done f=>R (.ok f) s' | .again m=>m.quiet=true/\codeAny (model prog w) A m R s') (fun e s'=>R (.error e) s') s:=by
 have Lg:L≠g:=fun z=>by rw[z,hg] at hL;simp at hL
 have Ll:L<s.heap.objs.size:=xk hL;have Ln:L≠s.heap.objs.size:=vv Ll;have Lm:L∉[s.heap.objs.size]:=fun z=>Ln (zw.mp z);have Wl:=(Walks.longrange (prog:=prog) (w:=w) (A:=A.in1) ha s.heap.objs.size x d k).toS;have loop:∀(hp:Heap) (m tk:Nat),IsLongIter hp s.heap.objs.size (x+((0:Nat):Int)*d) ((k:Int)-((0:Nat):Int)) d->(∀e o,e≠L->s.heap.get? e=some o->hp.get? e=some o)->hp.get? L=some { cls:=.type "list",data:=.seq #[] m }->
  codeAny (model prog w) A (.builtin "list.extend.loop" ⟨[.ref L,.ref s.heap.objs.size,res],[]⟩) R { s with heap:=hp,toks:=tk }:=fun hp m tk it keep hL1=>by
  refine codeAny_extend_loopS Wl (by rw[sizeLine_eq];lia) L Lm res k 0 _ #[] m rfl (vt _) it hL1 (ItemsOf.nil _) fun s2 ys m2 mv hL2 hy=>?_;rw[Moved.eq_with mv];refine fin s2.heap s2.toks ys m2 (fun e o ne he=>mv.heap e o (fun z=>?_) (keep e o ne he)) hL2 hy;have el:=xk he;rcases qf.mp z with z1 | z1
  ·exact ne z1
  ·exact absurd el (by rw[zw.mp z1];exact jf7 _)
 unfold Builtin.List.listExtendWith;refine js (wpAny_typeOf (T:="range") ⟨_,hg,rfl⟩ ?_);have q1:Builtin.List.listSameRef (.ref L) (.ref g)=false:=by unfold Builtin.List.listSameRef;simp[Lg]
 simp only[q1,show(Value.type "range"==Value.type "list")=false by decide,show(Value.type "range"==Value.type "tuple")=false by decide,jo8,jq8,if_false];refine js (wpAny_pyIter_longrange hg big ?_);refine js (je5 (wpAny_hint_range (n:=k) (jv _ hg) ek fits ?_));have it1:IsLongIter (s.heap.push { cls:=.type "longrange_iterator",data:=.fields #[rawInt x,rawInt (Builtin.Range.rangeSize x y d),rawInt d] }) s.heap.objs.size (x+((0:Nat):Int)*d) ((k:Int)-((0:Nat):Int)) d:=by
  rw[ek];show Heap.get? _ _=_;simpa using xa s.heap rfl
 have L1:=jv { cls:=.type "longrange_iterator",data:=.fields #[rawInt x,rawInt (Builtin.Range.rangeSize x y d),rawInt d] } hL;refine wpAny_ite_split (fun _=>?_) (fun _=>zt ⟨plainId_quiet F.plain_extend_loop _,loop _ m0 _ it1 (fun e o _ he=>jv _ he) L1⟩);refine js (jw2 (js ?_));show wpAny _ _ (updateSeq L (·.push .none) >>= fun _=>updateSeq L (·.pop)) _ _ _;refine js (jm3 L1 rfl ?_);have L2':=jf6 (Obj.mapSeq (·.push Value.none)) L1 rfl;refine jm3 (hz:=by seq_fits) L2' rfl ?_;have L3:=jf6 (Obj.mapSeq (·.pop)) L2' rfl;refine zt ⟨plainId_quiet F.plain_extend_loop _,loop _ _ _ ?_ (fun e o ne he=>?_) L3⟩
 ·exact(ko _ _ Ln).trans ((ko _ _ Ln).trans it1)
 ·rw[ko _ _ (Ne.symm ne),ko _ _ (Ne.symm ne)];exact jv _ he
theorem vI{R:Result->Shared->Prop}{g:Addr}{x y d:Int}{t1 t2 t3:Tok}{k:Nat}(ha:A.handled=none)(hg:IsRange s.heap g x y d t1 t2 t3)(big:Builtin.Range.small x y d=false)(ek:Builtin.Range.rangeSize x y d=k)(fits:k<=2^24)(L:Addr)
 (hL:s.heap.get? L=some { cls:=.type "list",data:=.seq #[] })
 (fin:∀hp tk ys m,(∀e o,e≠L->s.heap.get? e=some o->hp.get? e=some o)->hp.get? L=some { cls:=.type "list",dict:=none,data:=.seq ys m,slots:= #[] }->ItemsOf (fun i v=>∃t,v=.int (x+i*d) t) ys k->R (.ok (.ret .none)) { s with heap:=hp,toks:=tk }):
 wpAny (model prog w) A.in1 (Builtin.«list.__init__» ⟨[.ref L,.ref g],[]⟩)
  (fun z s'=>match z with | .done f=>R (.ok f) s' | .again m=>m.quiet=true/\codeAny (model prog w) A m R s') (fun e s'=>R (.error e) s') s:=by
 have Lg:L≠g:=fun z=>by rw[z,hg] at hL;simp at hL
 show wpAny _ _ (Builtin.List.listItems (.ref L) >>= fun old=>Builtin.List.listUpdate (.ref L) (fun _=> #[]) >>= fun _=>letGo old.toList.reverse >>= fun _=>Builtin.List.listExtendWith (.ref L) (.ref g) .none) _ _ s;refine js ?_;unfold Builtin.List.listItems;refine js (jb4 hL rfl (zt ?_));show wpAny _ _ (updateSeq L (fun _=> #[]) >>= fun _=>letGo (#[]:Array Value).toList.reverse >>= fun _=>Builtin.List.listExtendWith (.ref L) (.ref g) .none) _ _ s;refine js (jm3 hL rfl ?_);have L1:=jf6 (Obj.mapSeq (fun _=>(#[]:Array Value))) hL rfl;have keep:∀e o,e≠L->s.heap.get? e=some o->(s.heap.update L (Obj.mapSeq (fun _=>(#[]:Array Value)))).get? e=some o:=fun e o ne he=>by
  rw[ko _ _ (Ne.symm ne)];exact he
 refine js (jl0 (AAR ha (keep g _ (Ne.symm Lg) hg) big ek fits L .none _ L1 fun hp tk ys m k1 k2 k3=>?_));exact fin hp tk ys m (fun e o ne he=>k1 e o ne (keep e o ne he)) k2 k3
theorem vJ{E:Value->Shared->Prop}{Q:Value->Shared->Prop}{g:Addr}{x y d:Int}{t1 t2 t3:Tok}{k:Nat}(ha:A.handled=none)(hg:IsRange s.heap g x y d t1 t2 t3)(ek:Builtin.Range.rangeSize x y d=k)(fits:k<=2^24)
 (fin:∀hp tk ys m,(∀e o,s.heap.get? e=some o->hp.get? e=some o)->hp.get? s.heap.objs.size=some { cls:=.type "list",dict:=none,data:=.seq ys m,slots:= #[] }->ItemsOf (fun i v=>∃t,v=.int (x+i*d) t) ys k->Q (.ref s.heap.objs.size) { s with heap:=hp,toks:=tk }):
 wpAny (model prog w) A (call (.type "list") [.ref g]) Q E s:=by
 by_cases sm:Builtin.Range.small x y d=true
 ·exact call_list_range ha hg sm ek fits fin
 have big:Builtin.Range.small x y d=false:=by simpa using sm
 refine callType_codes (Q₁:=fun u s2=>u=.ref s.heap.objs.size/\s2={ s with heap:=s.heap.push { cls:=.type "list",data:=.seq #[] } }) F.called_list (F.typeCall_list_1 _) F.entry_list_init (code_list_new _ ⟨rfl,rfl⟩) fun u s2 z=>?_;obtain⟨rfl,rfl⟩:=z;have L0:(s.heap.push { cls:=.type "list",data:=.seq #[] }).get? s.heap.objs.size=some { cls:=.type "list",data:=.seq #[] }:=xa _ rfl;refine⟨⟨_,L0,rfl⟩,F.args_list_init_2 _ _,vI (A:=A.in1) ha (jv _ hg) big ek fits _ L0 fun hp tk ys m k1 k2 k3=>⟨rfl,?_⟩⟩;refine fin hp tk ys m (fun e o he=>k1 e o ?_ (jv _ he)) k2 k3;exact vv (xk he)
end
section
variable{X:Cx}
def ABi(ta:TA):TE:=fun Z H Q=>ta Z H fun vs H1=>∃(i j:Int),vs=[.int i,.int j]/\i<=j/\j-i<=1000000/\
 ∀l,H1 l=none->Q (.ref l) (upd H1 l (.lst ((List.range (j-i).toNat).map fun(k:Nat)=>V.int (i+(k:Int)))))
theorem bW{a b:Expr}{ta:TA}{p p2 pos pos2:Pos}(hc:X.calm=true)(hgl:Gl X "list")(hml:X.mg "list"=none)(hgr:Gl X "range")(hmr:X.mg "range"=none)(ha:PA X [a,b] ta)
 (hs:‹starEach [a,b] X.env=(false,eval a X.env)::starEach [b] X.env›)(hpl:‹(backTo pos2 (starEach [b] X.env)).any (·.1)=false›)
 (hs1:‹starEach [.Call (.Name "range" p2) [a,b] [] pos2] X.env=(false,eval (.Call (.Name "range" p2) [a,b] [] pos2) X.env)::starEach [] X.env›):
 PE X (.Call (.Name "list" p) [.Call (.Name "range" p2) [a,b] [] pos2] [] pos) (ABi ta):=by
 intro pins s Z H Q I h;refine ja1 (Hm I hgl hml boot_list ?_ nofun nofun);refine ki ?_ hs1 rfl;rw[hs1];show wpAny _ _ (spliced ((false,eval _ X.env)::backTo pos (starEach [] X.env))) _ _ s;refine Calls.spliced_cons ?_;refine Call_ (Hm I hgr hmr boot_range (ki (thn (ha (pos:=pos2) pins s Z H _ I h) fun us s1 hZ=>?_) hs hpl));obtain⟨vs,H1,I1,r1,q1⟩:=hZ;obtain⟨i,j,rfl,ij,hz,q⟩:=q1;cases r1 with
 | cons r rr=>
  cases rr with
  | cons r' rr=>
   cases rr;obtain⟨t,rfl⟩:=r;obtain⟨t',rfl⟩:=r';refine call_range_2 (Calls.spliced_nil ?_);have I2:Inv X pins Z H1 { s1 with heap:=s1.heap.push { cls:=.type "range",data:=.fields #[.int i t,.int j t',.int 1 s1.toks] },toks:=s1.toks+1 }:=I1.kept fun b o e=>jv _ e;have en:Builtin.Range.rangeSize i j 1=(((j-i).toNat:Nat):Int):=by rw[rangeSize_one];split<;>lia
   refine vJ (I2.ok.hd hc) (IsRange.new ..) en ⋯ fun h' tk acc' c' hk hS' hacc=>?_;have hl:acc'.toList.length=(j-i).toNat:=by simpa using hacc.1
   have ef:(fun (k:Nat)=>V.int (i+(k:Int)))=fun(k:Nat)=>V.int (i+(k:Int)*1):=by funext k;rw[jg9]
   rw[ef] at q;refine⟨.ref _,_,I2.laid (o:=.lst ((List.range (j-i).toNat).map fun(k:Nat)=>V.int (i+(k:Int)*1))) hk (qg _) ⟨?_,acc'.toList,c',?_,by simpa using hS'⟩,rfl,q _ I2.fresh⟩
   ·rw[jp,je7,sizeLine_eq];lia
   ·have:=Hk (lo:=i) (c:=1) acc'.toList 0 fun j v hv=>by rw[jf9];exact hacc.2 j v (by simpa using hv)
    rw[hl,<-List.range_eq_range'] at this;exact this
end
section
variable{X:Cx}
end
section
variable{M:Model}{A:Around}{E:Value->Shared->Prop}{s:Shared}{base:Heap}{env:Env}{outer l:List Env}{L e:Addr}{cls:Value}{dd:Option Addr}{fl:Value}
end
section
variable{X:Cx}{pins:List (Addr×Obj)}{Z:St}{H H':Hp}{s:Shared}{C ea:Addr}{cls:Value}{dx:Option Addr}{B h1 h2 h3:Heap}{fl:Value}
end
section
variable{X:Cx}{pins:List (Addr×Obj)}{Z:St}{H2:Hp}{s2:Shared}{M:List Str}{x:Str}{scope:Scope}{cl:List (Str×Addr)}{C:Addr}{fp:List Addr}{E:XK}{Qe:Value->Shared->Prop}{acc:Value}
end
section
variable{X:Cx}
end
end L2
namespace L2
open PySem PySem.Spec PyProof.Rows Builtin.Str
section
variable{X:Cx}
theorem jJ:MtR X "str.rstrip" (fun x xs H Q=>∃z y,x=.str z/\xs=[.str y]/\z.length<=sizeLine/\Q (.str (if stripSame y.cps.contains false true z then z else stripped y.cps.contains false true z)) H):=by
 intro pins s Z H x xs v us Q I rx rs h;obtain⟨z,y,rfl,rfl,hz,q⟩:=h;obtain⟨t,rfl⟩:=(show ∃t,v=Value.str z t from rx);obtain⟨u,rfl,ru⟩:=vals1 rs;obtain⟨t',rfl⟩:=(show ∃t,u=Value.str y t from ru);refine call_gives F.slot_str_rstrip (typeIs_str _ _ _) F.entry_str_rstrip (F.args_str_rstrip_2 _ _) (gives_str_rstrip_chars z y t t') ?_;by_cases c:stripSame y.cps.contains false true z=true
 ·rw[xz c] at q ⊢;exact⟨.str _,H,I,⟨_,rfl⟩,q⟩
 ·rw[yb c] at q ⊢;exact⟨fits_stripped _ _ _ hz,.str _,H,I.tok _,⟨_,rfl⟩,q⟩
end
end L2
namespace L2
open PySem PySem.Spec PyProof.Rows
section
variable{prog:Program}{w:World}{A:Around}{R:Result->Shared->Prop}{I:Addr}{fp wr:List Addr}{n:Nat}{P:Nat->Value->Prop}{St:Nat->Heap->Prop}
end
section
variable{prog:Program}{w:World}{A:Around}{E:Value->Shared->Prop}{s:Shared}
end
section
variable{X:Cx}
end
end L2
namespace L2
open PySem
@[elab_as_elim] theorem fresh{P:Hp->Prop}{H:Hp}{l:Addr}{o:HO}(h:H l=none)(q:∀H',Aw H H'->H' l=some o->P H'):P (upd H l o):=q _ (Av h o) Am
example {Q:V->Hp->Prop} {H:Hp} (q:∀l H',Aw H H'->H' l=some (.lst [.int 1])->Q (.ref l) H'):∀l,H l=none->Q (.ref l) (upd H l (.lst [.int 1])):=fun l hl=>by
 refine fresh hl fun H1 s1 t1=>?_;exact q l H1 s1 t1
end L2
namespace L2
open PySem PySem.Spec PyProof.Rows
section
variable{X:Cx}
end
section
variable{X:Cx}{M:List Str}{x:Str}{scope:Scope}{cl:List (Str×Addr)}{C:Addr}{s₀:Shared}{H₀:Hp}{fp:List Addr}
end
def FnG(K:Fr)(g n q:Str)(st:Stmt):Prop:=∃f fd,PySem.W.nsIn K mainGlobals g=some (some (.ref f))/\Fun K n q st f fd
def FnM(K:Fr)(C:Addr)(x n q:Str)(st:Stmt):Prop:=∃f fd,PySem.W.findIn K (.ref C) x=some (some (.ref f))/\Fun K n q st f fd/\PySem.W.typeIn K (.ref f)=some (.type "function")
def Gw(n q:Str)(st:Stmt)(ps:List Str):Prop:=∀(kV doc pm:Value) (an:Option Addr) (cdv ct:Value) (us:List Value),us.length=ps.length->bindArgs (PySem.W.fnOf n q (El st) (Cz st) (Az st) .none kV doc pm an cdv ct) ⟨us,[]⟩=pure (ps.zip us)
theorem qW{K:Fr}{g n q:Str}{st:Stmt}{f:Addr}{oc:Value}{od an:Option Addr}{osl:Array (Option Value)}{kV doc pm cdv ct:Value}(a:PySem.W.nsIn K mainGlobals g=some (some (.ref f)))(l:K.lookup f=some ⟨oc,od,.func (PySem.W.fnOf n q (El st) (Cz st) (Az st) .none kV doc pm an cdv ct),osl⟩)
 (c:PySem.W.codeIn K cdv q=true)(k:PySem.W.keepIn K (.ref f)=true):FnG K g n q st:=⟨f,_,a,qR l c k⟩
theorem AAl{K:Fr}{C:Addr}{x n q:Str}{st:Stmt}{f:Addr}{oc:Value}{od an:Option Addr}{osl:Array (Option Value)}{kV doc pm cdv ct:Value}(a:PySem.W.findIn K (.ref C) x=some (some (.ref f)))(l:K.lookup f=some ⟨oc,od,.func (PySem.W.fnOf n q (El st) (Cz st) (Az st) .none kV doc pm an cdv ct),osl⟩)
 (c:PySem.W.codeIn K cdv q=true)(k:PySem.W.keepIn K (.ref f)=true)(u:PySem.W.typeIn K (.ref f)=some (.type "function")):FnM K C x n q st:=⟨f,_,a,qR l c k,u⟩
section
variable{P:Program}{w:World}{K:Fr}{h:Heap}{mg:Str->Option Value}{base:Heap}{g n q:Str}{st:Stmt}{ps:List Str}{k:Nat}{sp:Sp}
theorem cV(X:K.In h)(G:h.Ns mainGlobals mg)(Q:FnG K g n q st)(b:Gw n q st ps)(ok:∀{f:Addr} {fd:FuncData},Fun K n q st f fd->Ei P w K mg base CX0 k f fd ps sp):Cal P w K mg base k g ps sp:=by
 obtain⟨f,fd,a,F⟩:=Q;exact⟨⟨f,fd,ok F,F.binds b,F.kp,jg1 X G a⟩⟩
theorem wF{CX:CXT}{C:Addr}(Q:FnM K C g n q st)(b:Gw n q st ps)(ok:∀{f:Addr} {fd:FuncData},Fun K n q st f fd->Ei P w K mg base CX k f fd ps sp):rP P w K mg base CX k C g ps sp:=by
 obtain⟨f,fd,a,F,u⟩:=Q;exact⟨⟨f,fd,ok F,F.binds b,⟨a,jb2.mpr u,F.kp⟩⟩⟩
theorem wG{CX:CXT}{x:Str}{C:Addr}(X:K.In h)(G:h.Ns mainGlobals mg)(mk:PySem.W.makesIn K C=true)(kp:PySem.W.keepIn K (.ref C)=true)(nC:PySem.W.nsIn K mainGlobals x=some (some (.ref C)))(Q:FnM K C "__init__" n q st)(b:Gw n q st ps)(ok:∀{f:Addr} {fd:FuncData},Fun K n q st f fd->Ei P w K mg base CX k f fd ps sp):lC P w K mg base CX k x C ps sp:=by
 obtain⟨f,fd,a,F,u⟩:=Q;exact⟨⟨f,fd,ok F,F.binds b,⟨mk,a,jb2.mpr u,kp⟩,jg1 X G nC⟩⟩
end
theorem J2{P:Program}{w:World}{K:Fr}{mg:Str->Option Value}{base:Heap}{CX:CXT}{k0:Nat}{m n q:Str}{st:Stmt}{ps:List Str}{Cs:List Addr}{sp:Nat->Sp}
 (hC:∀C∈Cs,Cls K C/\FnM K C m n q st)(b:Gw n q st ps)(z:∀vs H Q E,¬sp 0 vs H Q E)
 (step:∀(d:Nat) {f:Addr} {fd:FuncData},Q6 P w K mg base CX (k0+d) m ps (Cs.map fun C=>(C,sp d))->Fun K n q st f fd->Ei P w K mg base CX (k0+d+1) f fd ps (sp (d+1))):
 ∀d,Q6 P w K mg base CX (k0+d) m ps (Cs.map fun C=>(C,sp d))
 | 0=>⟨fun p hp=>by
  obtain⟨C,hC',rfl⟩:=yy.mp hp;obtain⟨c,f,fd,a,F,u⟩:=hC C hC';exact⟨c,f,fd,⟨fun vs H Q E h=>absurd h (z vs H Q E),fun A outer s H args us vs Q E _ _ _ _ h=>absurd h (z vs H Q E)⟩,F.binds b,⟨a,jb2.mpr u,F.kp⟩⟩⟩
 | d+1=>⟨fun p hp=>by
  have R:=J2 hC b z step d;obtain⟨C,hC',rfl⟩:=yy.mp hp;obtain⟨c,f,fd,a,F,u⟩:=hC C hC';exact⟨c,f,fd,step d R F,F.binds b,⟨a,jb2.mpr u,F.kp⟩⟩⟩
theorem all_nil{α:Type}{p:α->Prop}:∀x∈([]:List α),p x:=fun _ h=>(nomatch h)
theorem all_cons{α:Type}{p:α->Prop}{a:α}{l:List α}(h:p a)(t:∀x∈l,p x):∀x∈a::l,p x:=fun x hx=>by
 rcases qf.mp hx with e | e
 ·exact e ▸ h
 ·exact t x e
section
variable{X:Cx}{k:Nat}{q:Addr}{fd:FuncData}{p:Str}{sp:Sp}{xs:List V}{kf:Nat->Int}{J:Hp->Prop}{l:Addr}{pins:List (Addr×Obj)}{Z:St}
theorem pO{H:Hp}{s:Shared}{pins:List (Addr×Obj)}{v:V}{u:Value}{Q:VK}{E:Value->Shared->Prop}(F:Ei X.prog X.w X.K X.mg X.base CX0 k q fd [p] sp)(hb:Binds X.K fd [p] [])(hr:Cv (k+1) X.A)(I:Inv X pins Z H s)(r:RelV v u)(h:sp [v] H Q E0):
 wpAny (model X.prog X.w) X.A.in1 (call (.ref q) [u]) (EP X pins Z Q) E s:=by
 refine js8 (jj0 (F.run X.A.in1 X.stack s H ⟨[u],[]⟩ [u] [v] Q E0 hr.in1 I.env0.in1 (hb s [u] I.kIn rfl) (.cons r .nil) h) fun r s' hq=>?_);cases r with
 | error e=>exact False.elim hq
 | ok fl=>
  cases fl with
  | ret u=>exact I.after hq
  | next=>exact False.elim hq
  | brk=>exact False.elim hq
  | cont=>exact False.elim hq
theorem K6:(toString "min"++toString ".loop":String)="min.loop":=nofun
structure Kv(X:Cx)(pins:List (Addr×Obj))(Z:St)(J:Hp->Prop)(l I S:Addr)(n:Nat)(arr:Array Value)(H:Hp)(s:Shared):Prop where
 inv:Inv X pins Z H s
 j:J H
 fI:Jm X pins H I
 fS:Jm X pins H S
 it:s.heap.IsListIter I l n
 st:∃c,s.heap.get? S=some (seqObj "list" arr c)
theorem Jm.at{H H':Hp}{b:Addr}(f:Jm X pins H b)(n:H' b=none):Jm X pins H' b:=⟨n,f.2⟩
theorem Kv.next{I S:Addr}{n:Nat}{arr:Array Value}{H:Hp}{s:Shared}(hc:X.calm=true)(hlI:l≠I)(hSI:S≠I)(hJ:∀H,J H->SqL X.K H l xs)(M:Kv X pins Z J l I S n arr H s)(hn:n<xs.length){E:Value->Shared->Prop}{Q:Option Value->Shared->Prop}
 (hQ:∀v u h' tk,xs[n]?=some v->RelV v u->Kv X pins Z J l I S (n+1) arr H { s with heap:=h',toks:=tk }->Q (some u) { s with heap:=h',toks:=tk }):wpAny (model X.prog X.w) X.A.in1 (pyNext (.ref I)) Q E s:=by
 obtain⟨its,rv,pl,_⟩:=M.inv.list (hJ H M.j);have hh:X.A.in1.handled=none:=M.inv.ok.hd hc;have W:=Walks.list (prog:=X.prog) (w:=X.w) (A:=X.A.in1) hh I l hlI its.toArray;have hz:its.toArray.size=xs.length:=by rw[xc,rv.length]
 refine W.item n s Q E (by rw[hz];exact hn) ⟨M.it,pl.isList⟩ fun u h' tk hP hst hk=>?_;have hu:its[n]?=some u:=by simpa using hP
 have hv:xs[n]?=some xs[n]:=by simp[hn]
 generalize xs[n]=v at hv;obtain⟨u',hu',r⟩:=Vals.get rv hv;rw[hu] at hu';cases hu';obtain⟨f0,f1,f2,f3,f4,f5⟩:=M.fI;obtain⟨c,hS⟩:=M.st;exact hQ v u h' tk hv r ⟨M.inv.turned (fun b o ne e=>hk b o (by simpa using ne) e) f0 f1 f3 f4 f5,M.j,⟨f0,f1,f2,f3,f4,f5⟩,M.fS,hst.1,c,hk S _ (by simpa using hSI) hS⟩
theorem Kv.key{I S:Addr}{n i:Nat}{arr:Array Value}{H:Hp}{s:Shared}{v:V}{u:Value}(F:Ei X.prog X.w X.K X.mg X.base CX0 k q fd [p] sp)(hb:Binds X.K fd [p] [])(hr:Cv (k+1) X.A)
 (hk:∀i v H,xs[i]?=some v->J H->sp [v] H (fun r H'=>r=.int (kf i)/\J H') E0)(M:Kv X pins Z J l I S n arr H s)(hv:xs[i]?=some v)(r:RelV v u){E:Value->Shared->Prop}{Q:Value->Shared->Prop}
 (hQ:∀t H' s',Kv X pins Z J l I S n arr H' s'->Q (.int (kf i) t) s'):wpAny (model X.prog X.w) X.A.in1 (call (.ref q) [u]) Q E s:=by
 obtain⟨oI,eI,dI⟩:=id M.it;obtain⟨c,eS⟩:=M.st;have I2:=M.inv.pinned (fp:=[S,I]) (fun b hb=>by
  rcases qf.mp hb with e | e
  ·exact e ▸ M.fS
  ·exact(zw.mp e) ▸ M.fI) (fun b hb=>by
  rcases qf.mp hb with e | e
  ·exact⟨_,e ▸ eS,fun v h=>by cases h⟩
  ·refine⟨oI,(zw.mp e) ▸ eI,fun v h=>?_⟩;rw[dI.2] at h;cases h)
 refine thn (pO F hb hr I2 r (hk i v H hv M.j)) fun x s' ⟨w',H',I3,rx,⟨e,j'⟩⟩=>?_;subst e;obtain⟨t,rfl⟩:=rx;have pS:=I3.pin (S,_) (yv _ (yv _ (Gq (fp:=[S,I]) (.head _) eS)));have pI:=I3.pin (I,_) (yv _ (yv _ (Gq (fp:=[S,I]) (.tail _ (.head _)) eI)));exact hQ t H' s' ⟨I3.unpinned,j',M.fI.at pI.2.1,M.fS.at pS.2.1,⟨oI,pI.1,dI⟩,c,pS.1⟩
theorem Kv.write{I S:Addr}{n:Nat}{arr arr':Array Value}{H:Hp}{s:Shared}(hSI:S≠I)(z1:arr.size<=sizeLine)(z2:arr'.size<=sizeLine)(M:Kv X pins Z J l I S n arr H s){E:Value->Shared->Prop}{Q:Unit->Shared->Prop}
 (hQ:∀h',Kv X pins Z J l I S n arr' H { s with heap:=h' }->Q () { s with heap:=h' }):wpAny (model X.prog X.w) X.A.in1 (updateSeq S fun _=>arr') Q E s:=by
 obtain⟨c,eS⟩:=M.st;obtain⟨f0,f1,f2,f3,f4,f5⟩:=M.fS;refine jm3 eS rfl ?_ z1 (by show arr'.size<=_;lia);refine hQ _ ⟨M.inv.turned (t':=s.toks) (fun b o ne e=>(ko _ _ (Ne.symm ne)).trans e) f0 f1 f3 f4 f5,M.j,M.fI,⟨f0,f1,f2,f3,f4,f5⟩,?_,_,get?_update_seq eS _⟩;obtain⟨oI,eI,dI⟩:=M.it;exact⟨oI,(ko _ _ hSI).trans eI,dI⟩
theorem jL{I S:Addr}{R:Result->Shared->Prop}(hc:X.calm=true)(F:Ei X.prog X.w X.K X.mg X.base CX0 k q fd [p] sp)(hb:Binds X.K fd [p] [])(hr:Cv (k+1) X.A)(hlI:l≠I)(hSI:S≠I)
 (hJ:∀H,J H->SqL X.K H l xs)(hk:∀i v H,xs[i]?=some v->J H->sp [v] H (fun r H'=>r=.int (kf i)/\J H') E0)
 (fin:∀i v u H s,xs[i]?=some v->RelV v u->(∀j,j<xs.length->kf i<=kf j/\(j<i->kf i<kf j))->J H->Inv X pins Z H s->R (.ok (.ret u)) s):
 ∀(r j i:Nat) (H:Hp) (s:Shared) (vb:V) (ub:Value) (tb:Tok),xs.length-(j+1)=r->j+1<=xs.length->Kv X pins Z J l I S (j+1) #[ub,.int (kf i) tb] H s->xs[i]?=some vb->RelV vb ub->i<=j->(∀j',j'<=j->kf i<=kf j'/\(j'<i->kf i<kf j'))->
  codeAny (model X.prog X.w) X.A (.builtin "min.loop" ⟨[.ref I,.ref q,.ref S],[]⟩) R s:=by
 have two:∀a b:Value,(#[a,b]:Array Value).size<=sizeLine:=fun a b=>by show 2<=sizeLine;decide
 intro r
 induction r with
 | zero=>
  intro j i H s vb ub tb er hj M hvb rb hij best;obtain⟨c,eS⟩:=M.st;obtain⟨its,rv,pl,_⟩:=M.inv.list (hJ H M.j);have hh:X.A.in1.handled=none:=M.inv.ok.hd hc;have W:=Walks.list (prog:=X.prog) (w:=X.w) (A:=X.A.in1) hh I l hlI its.toArray;have hz:its.toArray.size=j+1:=by rw[xc,<-Vals.length rv];lia
  refine codeAny_builtin jm7 ?_;rw[Around.under_plainId jb1 _];show wpAny _ X.A.in1 (seqItems? (.ref S) >>= _) _ _ _;refine js (jb4 eS rfl ?_);show wpAny _ X.A.in1 (tryCatch (pyNext (.ref I)) _ >>= _) _ _ _;refine js (jj8 (W.done _ _ _ ⟨by rw[hz];exact M.it,pl.isList⟩ fun h' tk' hk'=>?_));obtain⟨f0,f1,f2,f3,f4,f5⟩:=M.fI;obtain⟨g0,g1,g2,g3,g4,g5⟩:=M.fS;have I2:=M.inv.turned (t':=tk') (fun b o ne e=>hk' b o (by simpa using ne) e) f0 f1 f3 f4 f5;show wpAny _ X.A.in1 (updateSeq S (fun _=> #[]) >>= _) _ _ _;refine js (jm3 (hk' S _ (by simpa using hSI) eS) rfl (js (jl0 (zt ?_))) (two _ _) (by show 0<=_;lia));exact fin i vb ub H _ hvb rb (fun j' hj'=>best j' ⋯) M.j (I2.turned (t':=tk') (fun b o ne e=>(ko _ _ (Ne.symm ne)).trans e) g0 g1 g3 g4 g5)
 | succ r ih=>
  intro j i H s vb ub tb er hj M hvb rb hij best;have hlt:j+1<xs.length:=⋯;obtain⟨c,eS⟩:=M.st;refine codeAny_builtin jm7 ?_;rw[Around.under_plainId jb1 _];show wpAny _ X.A.in1 (seqItems? (.ref S) >>= _) _ _ _;refine js (jb4 eS rfl ?_);show wpAny _ X.A.in1 (tryCatch (pyNext (.ref I)) _ >>= _) _ _ _;refine js (jj8 (M.next hc hlI hSI hJ hlt fun v u h' tk hv rv M1=>?_))
  show wpAny _ X.A.in1 (tryCatch (holding [u] (call (.ref q) [u])) _ >>= _) _ _ _;refine js (jj8 (je5 (M1.key F hb hr hk hv rv fun t2 H2 s2 M2=>?_)));show wpAny _ X.A.in1 (tryCatch (holding [u,.int (kf (j+1)) t2] (richCompare .Lt (.int (kf (j+1)) t2) (.int (kf i) tb) >>= _)) _ >>= _) _ _ _;refine js (jj8 (je5 (js (CmpOf.ints_lt (prog:=X.prog) (w:=X.w) (A:=X.A.in1) (P:=fun i v=>∃t,v=.int (kf i) t) kf (fun i v h=>h) (j+1) i _ _ _ _ _ ⟨t2,rfl⟩ ⟨tb,rfl⟩ ?_))));refine js (je5 (jc1 (js (jl0 (zt ?_)))));by_cases hb':kf (j+1)<kf i
  ·simp only[hb',decide_true,if_true];refine js (M2.write hSI (two _ _) (two u (.int (kf (j+1)) t2)) fun h3 M3=>js (jl0 ?_));rw[K6];refine zt ⟨plainId_quiet jb1 _,ih (j+1) (j+1) H2 _ v u t2 ⋯ hlt M3 hv rv (qg _) fun j' hj'=>?_⟩;by_cases e:j'=j+1
   ·rw[e];lia
   ·have:=best j' ⋯;lia
  ·simp only[hb',decide_false,jq8,if_false];refine js (jl0 ?_);rw[K6];refine zt ⟨plainId_quiet jb1 _,ih (j+1) i H2 _ vb ub tb ⋯ hlt M2 hvb rb ⋯ fun j' hj'=>?_⟩;by_cases e:j'=j+1
   ·rw[e];lia
   ·exact best j' ⋯
theorem jM{H:Hp}{s:Shared}{Q:VK}{E:Value->Shared->Prop}(hc:X.calm=true)(F:Ei X.prog X.w X.K X.mg X.base CX0 k q fd [p] sp)(hb:Binds X.K fd [p] [])(hr:Cv (k+1) X.A)(I0:Inv X pins Z H s)(j0:J H)(ne:xs≠[])
 (hJ:∀H,J H->SqL X.K H l xs)(hk:∀i v H,xs[i]?=some v->J H->sp [v] H (fun r H'=>r=.int (kf i)/\J H') E0)
 (fin:∀i v H,xs[i]?=some v->(∀j,j<xs.length->kf i<=kf j/\(j<i->kf i<kf j))->J H->Q v H):
 wpAny (model X.prog X.w) X.A (call (.builtin "min") [.ref l] [("key",.ref q)]) (EP X pins Z Q) E s:=by
 obtain⟨its,rv,pl,_⟩:=I0.list (hJ H j0);have hls:=pl.isList;obtain⟨ol,hol,_⟩:=id hls;have hll:l<s.heap.objs.size:=xk hol;have hlen:0<xs.length:=by cases xs with | nil=>exact absurd rfl ne | cons a t=>simp
 refine kmk_tree PySem.F.kind_min PySem.F.plain_min PySem.F.entry_min (kmk_min_key _ _) ?_;show wpAny _ X.A.in1 (Builtin.Builtins.bindParams "min" ["key","default"] 0 ⟨[],[("key",.ref q)]⟩ >>= _) _ _ s;refine js (wpAny_of_eq (show Builtin.Builtins.bindParams "min" ["key","default"] 0 ⟨[],[("key",.ref q)]⟩=pure [some (.ref q),none] from rfl) ?_);refine js (zt ?_);refine js (je8 hls ?_);refine js (wpAny_newList ?_ (vt _));rw[K6];have hS:(s.heap.push { cls:=.type "list_iterator",data:=.fields #[.ref l,.int 0 0] }).objs.size=s.heap.objs.size+1:=size_push' ..;refine zt ⟨plainId_quiet jb1 _,?_⟩
 suffices key:∀it S,it=s.heap.objs.size->S=(s.heap.push { cls:=.type "list_iterator",data:=.fields #[.ref l,.int 0 0] }).objs.size->codeAny (model X.prog X.w) X.A (.builtin "min.loop" ⟨[.ref it,.ref q,.ref S],[]⟩) (fun r s'=>match r with | .ok (.ret v)=>EP X pins Z Q v s' | .ok _=>False | .error e=>E e s') { s with heap:=(s.heap.push { cls:=.type "list_iterator",data:=.fields #[.ref l,.int 0 0] }).push (seqObj "list" #[] 0) } from key _ _ rfl rfl
 intro it S hi hs;have hSI:S≠it:=by rw[hs,hS,hi];exact Nat.succ_ne_self _
 have hlI:l≠it:=by rw[hi];exact vv hll
 have I1:Inv X pins Z H { s with heap:=(s.heap.push { cls:=.type "list_iterator",data:=.fields #[.ref l,.int 0 0] }).push (seqObj "list" #[] 0) }:=I0.kept (t':=s.toks) fun b x e=>jv _ (jv _ e);have M:Kv X pins Z J l it S 0 #[] H { s with heap:=(s.heap.push { cls:=.type "list_iterator",data:=.fields #[.ref l,.int 0 0] }).push (seqObj "list" #[] 0) }:=
  ⟨I1,j0,I0.fpOk (jl1 hi.symm) (I0.hok.fresh (jl1 hi.symm)),I0.fpOk (hs.trans hS ▸ jw6 _) (I0.hok.fresh (hs.trans hS ▸ jw6 _)),⟨_,jv _ (hi ▸ xa _ rfl),rfl,rfl⟩,0,hs ▸ xa _ rfl⟩
 obtain⟨c,eS⟩:=M.st;refine codeAny_builtin jm7 ?_;rw[Around.under_plainId jb1 _];show wpAny _ X.A.in1 (seqItems? (.ref _) >>= _) _ _ _;refine js (jb4 eS rfl ?_);show wpAny _ X.A.in1 (tryCatch (pyNext (.ref it)) _ >>= _) _ _ _;refine js (jj8 (M.next hc hlI hSI hJ hlen fun v u h' tk hv rv M1=>?_))
 show wpAny _ X.A.in1 (tryCatch (holding [u] (call (.ref q) [u])) _ >>= _) _ _ _;refine js (jj8 (je5 (M1.key F hb hr hk hv rv fun t2 H2 s2 M2=>?_)));show wpAny _ X.A.in1 (updateSeq S (fun _=> #[u,.int (kf 0) t2]) >>= _) _ _ _;refine js (M2.write hSI (vt _) (by show 2<=sizeLine;decide) fun h3 M3=>?_);rw[K6];refine zt ⟨plainId_quiet jb1 _,jL hc F hb hr hlI hSI hJ hk (fun i v u H s hv r best j I=>⟨v,H,I,r,fin i v H hv best j⟩) _ 0 0 H2 _ v u t2 rfl hlen M3 hv rv (qg _) fun j' hj'=>?_⟩;rw[show j'=0 by lia];lia
def xG(K:Fr)(sp:Sp)(t:TA):TE:=fun Z H Q=>t Z H fun vs H1=>∃(l:Addr) (xs:List V) (kf:Nat->Int) (J:Hp->Prop),vs=[.ref l]/\xs≠[]/\J H1/\(∀H,J H->SqL K H l xs)/\
 (∀i v H,xs[i]?=some v->J H->sp [v] H (fun r H'=>r=.int (kf i)/\J H') E0)/\∀i v H,xs[i]?=some v->(∀j,j<xs.length->kf i<=kf j/\(j<i->kf i<kf j))->J H->Q v H
theorem ur{f:Str}{e:Expr}{t:TA}{pn pf pos q2:Pos}(hc:X.calm=true)(O:Cal X.prog X.w X.K X.mg X.base k f [p] sp)(hr:Cv (k+1) X.A)(hg:Gl X "min")(hm:X.mg "min"=none)(hgf:Gl X f)(ha:PA X [e] t)
 (hd:(f==("__debug__":Str))=false:=by decide)(he:‹backTo pos (starEach [e] X.env)=(false,eval e X.env)::backTo pos (starEach [] X.env)›)(hpl:‹(backTo pos (starEach [e] X.env)).any (·.1)=false›):
 PE X (.Call (.Name "min" pn) [e] [⟨some "key",.Name f pf,q2⟩] pos) (xG X.K sp t):=by
 obtain⟨q,fd,F,hb,kp,m⟩:=O.ex;intro pins s Z H Q I h;refine ja1 (Hm I hg hm boot_min ?_ nofun nofun);refine PyProof.Rows.callWith_kw (thn (ha (pos:=pos) pins s Z H _ I h) fun us s1 hZ=>?_) he hpl;obtain⟨vs,H1,I1,r1,q1⟩:=hZ;obtain⟨l,xs,kf,J,rfl,ne,j1,hJ,hk,fin⟩:=q1;obtain⟨u,rfl,ru⟩:=vals1 r1;cases (show u=Value.ref l from ru);refine js (js (JX I1 hgf m (js (jp0 (zt ?_))) hd));refine js (je5 (zt (zt ?_)));exact jM hc F hb hr I1 j1 ne hJ hk fin
end
section
variable{prog:Program}{w:World}{A:Around}{E:Value->Shared->Prop}{s:Shared}
theorem bz{it t:Addr}{i:Nat}{items:Array Value}{x:Value}{Q:Value->Shared->Prop}(hit:s.heap.IsTupleIter it t i)(ht:s.heap.IsTuple t items)(hx:items[i]?=some x)
 (hQ:∀h',h'.IsTupleIter it t (i+1)->Heap.SameBut it s.heap h'->Q x { s with heap:=h' }):wpAny (model prog w) A (Builtin.SmallTypes.nextOf (.ref it)) Q E s:=by
 obtain⟨o,ho,hc,hd⟩:=id hit;obtain⟨ol,hol,_,nl,hdl⟩:=ht;unfold Builtin.SmallTypes.nextOf;refine js (je4 (name:=Str.ofString "__next__") hit.typeIs F.slot_tuple_iterator_next (jk5 F.slot_tuple_iterator_next hit.typeIs F.entry_tuple_iterator_next ?_ (F.args_tuple_iterator_next_1 _)));show wpAny _ _ (field (.ref it) 0 >>= _) _ _ s;refine js (jc6 ho hd (x:=.ref t) rfl ?_);show wpAny _ _ (if (Value.ref t==Value.none)=true then _ else _) _ _ s;rw[yb (show ¬((Value.ref t==Value.none)=true) from zk)];show wpAny _ _ (field (.ref it) 1 >>= _) _ _ s;refine js (jc6 ho hd (x:=.int i 0) rfl ?_);show wpAny _ _ (seqItems? (.ref t) >>= _) _ _ s;refine js (jb4 hol hdl ?_);simp only[zh,hx];refine js (wpAny_setField ho hd (by simp) (zt ⟨x,rfl,zt (hQ _ ?_ (Heap.SameBut.update ..))⟩));exact⟨_,jf6 _ ho (Obj.isFreed_of_fields (Obj.data_mapFields hd _)),(Obj.cls_mapFields ..).trans hc,by rw[Obj.data_mapFields hd];simp[rawInt]⟩
theorem jE{it t:Addr}{i:Nat}{items:Array Value}{Q:Value->Shared->Prop}(hh:A.handled=none)(hit:s.heap.IsTupleIter it t i)(ht:s.heap.IsTuple t items)(hx:items[i]?=none)
 (hE:∀h' e,Heap.ExtBut it s.heap h'->(∃o,h'.get? e=some o/\o.cls=.type "StopIteration")->E (.ref e) { s with heap:=h' }):wpAny (model prog w) A (Builtin.SmallTypes.nextOf (.ref it)) Q E s:=by
 obtain⟨o,ho,hc,hd⟩:=id hit;obtain⟨ol,hol,_,nl,hdl⟩:=ht;unfold Builtin.SmallTypes.nextOf;refine js (je4 (name:=Str.ofString "__next__") hit.typeIs F.slot_tuple_iterator_next (jk5 F.slot_tuple_iterator_next hit.typeIs F.entry_tuple_iterator_next ?_ (F.args_tuple_iterator_next_1 _)));show wpAny _ _ (field (.ref it) 0 >>= _) _ _ s;refine js (jc6 ho hd (x:=.ref t) rfl ?_);show wpAny _ _ (if (Value.ref t==Value.none)=true then _ else _) _ _ s;rw[yb (show ¬((Value.ref t==Value.none)=true) from zk)];show wpAny _ _ (field (.ref it) 1 >>= _) _ _ s;refine js (jc6 ho hd (x:=.int i 0) rfl ?_);show wpAny _ _ (seqItems? (.ref t) >>= _) _ _ s;refine js (jb4 hol hdl ?_);simp only[zh,hx];refine js (jw2 (js (wpAny_setField ho hd (by simp) ?_)));show wpAny _ _ (newExc (.type "StopIteration") [] >>= _) _ _ _;refine js ?_;simp only[newExc,newTuple];refine js (jd3 ?_ (by size_fits));refine js (m:=firstArgMember _ _) (wpAny_of_eq (a:=Value.none) (by first | rfl | (simp only[firstArgMember];rfl)) ?_)
 refine jd3 ?_ (by size_fits);simp only[raiseNew];refine js (wpAny_handled ?_)
 first | rw[show A.in1.handled=none from hh] | rw[hh]
 refine js (zt (wpAny_throw ?_));exact hE _ _ (((Heap.SameBut.update ..).extBut.push _).push _) ⟨_,xa _ rfl,rfl⟩
end
theorem AAo{prog:Program}{w:World}{A:Around}(hh:A.handled=none)(it t:Addr)(hne:t≠it)(items:Array Value):
 Draws prog w A it [it,t] items.size (fun i v=>items[i]?=some v) (fun i h=>h.IsTupleIter it t i/\h.IsTuple t items) where
 live:=fun i h st=>let ⟨o,e,_⟩:=st.1;⟨o,e⟩
 frame:=fun i h h' st k=>⟨let ⟨o,e,r⟩:=st.1;⟨o,k it (by simp) o e,r⟩,let ⟨o,e,r⟩:=st.2;⟨o,k t (by simp) o e,r⟩⟩
 item:=fun i s Q E hi st hQ=>bz st.1 st.2 (x:=items[i]) (by simp[hi]) fun h' hit hs=>hQ _ h' s.toks (by simp[hi]) ⟨hit,st.2.extBut hs.extBut hne⟩ hs
 done:=fun s Q E st hE=>jE hh st.1 st.2 (by simp) hE
structure dM(z TI TO i1 i2:Addr)(f1 f2:List Addr):Prop where
 zTO:TO≠z
 zTI:TI≠z
 tt:TI≠TO
 t1:TI≠i1
 t2:TI≠i2
 m1:i1∈f1
 m2:i2∈f2
 z1:z∉f1
 z2:z∉f2
 o1:TO∉f1
 o2:TO∉f2
 n1:i2∉f1
 n2:i1∉f2
theorem Draws.sb{prog:Program}{w:World}{A:Around}{it c:Addr}{fp:List Addr}{n i:Nat}{P:Nat->Value->Prop}{St:Nat->Heap->Prop}{h h':Heap}(D:Draws prog w A it fp n P St)(st:St i h)(k:Heap.SameBut c h h')(nc:c∉fp):St i h':=
 D.frame i h h' st fun b hb o e=>k.extBut b o (fun z=>nc (z ▸ hb)) e
section
variable{prog:Program}{w:World}{A:Around}{E:Value->Shared->Prop}{s:Shared}{z TI TO i1 i2:Addr}{f1 f2:List Addr}{n1 n2 k:Nat}{P1 P2:Nat->Value->Prop}{S1 S2:Nat->Heap->Prop}{a b:Value}
theorem gY{Q:Value->Shared->Prop}(D:dM z TI TO i1 i2 f1 f2)(D1:Draws prog w A i1 f1 n1 P1 S1)(D2:Draws prog w A i2 f2 n2 P2 S2)
 (hz:IsZip s.heap z TI TO .none)(hTI:IsPair s.heap TI (.ref i1) (.ref i2))(hTO:IsPair s.heap TO a b)(h1:S1 k s.heap)(h2:S2 k s.heap)(l1:k<n1)(l2:k<n2)
 (hQ:∀x y h' tk,P1 k x->P2 k y->IsZip h' z TI TO (rawInt s.heap.objs.size)->IsPair h' TO x y->S1 (k+1) h'->S2 (k+1) h'->IsPair h' s.heap.objs.size x y->
  (∀c o,c≠z->c≠TO->c≠i1->c≠i2->s.heap.get? c=some o->h'.get? c=some o)->Q (.ref s.heap.objs.size) { s with heap:=h',toks:=tk }):
 wpAny (model prog w) A (Builtin.«zip.__next__» ⟨[.ref z],[]⟩) (fun fin s'=>∃v,fin=.done (.ret v)/\Q v s') E s:=by
 have zi1:z≠i1:=fun e=>D.z1 (e ▸ D.m1);have zi2:z≠i2:=fun e=>D.z2 (e ▸ D.m2);have oi1:TO≠i1:=fun e=>D.o1 (e ▸ D.m1);have oi2:TO≠i2:=fun e=>D.o2 (e ▸ D.m2);show wpAny _ _ (field (.ref z) 2 >>= _) _ _ _;refine js (jc6 hz rfl (x:=.bool false) rfl ?_);show wpAny _ _ (field (.ref z) 3 >>= _) _ _ _;refine js (jc6 hz rfl (x:=.ref TI) rfl ?_);refine js (jb4 hTI rfl ?_);show wpAny _ _ (Builtin.SmallTypes.ownedTupleIsFree (.ref z) >>= _) _ _ _;refine js ?_;unfold Builtin.SmallTypes.ownedTupleIsFree;refine js (jc6 hz rfl (x:=.none) rfl (zt ?_));simp only[if_true];refine js (jw2 (js (jc6 hz rfl (x:=.ref TO) rfl ?_)));refine js (jg2 hz (by simp) fun g1 hz1 q1=>js ?_);replace hz1:IsZip g1 z TI TO .ellipsis:=hz1;simp only[List.zipIdx_cons,List.zipIdx_nil,jl8,jr7];refine js (js (jt7 ?_));show wpAny _ _ (Builtin.SmallTypes.nextOf (.ref i1) >>= _) _ _ _;refine(js (D1.item k _ _ _ l1 (Draws.sb D1 h1 q1 D.z1) fun x g2 tk2 px s2 q2=>zt ?_));have p2:IsPair g2 TO a b:=q2.extBut _ _ oi1 (q1.extBut _ _ D.zTO hTO);refine js (jb4 p2 rfl (js (jo7 p2 fun g3 p3 q3=>js (jl0 (zt ?_)))));replace p3:IsPair g3 TO x b:=p3;refine js (js (jt7 ?_));show wpAny _ _ (Builtin.SmallTypes.nextOf (.ref i2) >>= _) _ _ _;refine(js (D2.item k _ _ _ l2 (Draws.sb D2 (Draws.sb D2 (Draws.sb D2 h2 q1 D.z2) q2 D.n2) q3 D.o2) fun y g4 tk4 py s4 q4=>zt ?_));have p4:IsPair g4 TO x b:=q4.extBut _ _ oi2 p3;refine js (jb4 p4 rfl (js (jo7 p4 fun g5 p5 q5=>js (jl0 (zt (zt ?_))))));replace p5:IsPair g5 TO x y:=p5;refine js (jb4 p5 rfl (js (wpAny_newTuple ?_)));have hsz:g5.objs.size=s.heap.objs.size:=by rw[q5.1,q4.1,q3.1,q2.1,q1.1]
 have z5:IsZip g5 z TI TO .ellipsis:=q5.extBut _ _ D.zTO.symm (q4.extBut _ _ zi2 (q3.extBut _ _ D.zTO.symm (q2.extBut _ _ zi1 hz1)));have zlt:z<g5.objs.size:=xk z5;have e1:S1 (k+1) g5:=Draws.sb D1 (Draws.sb D1 (Draws.sb D1 s2 q3 D.o1) q4 D.n1) q5 D.o1;have e2:S2 (k+1) g5:=Draws.sb D2 s4 q5 D.o2;show wpAny _ _ (Builtin.SmallTypes.ownedTupleHandOut (.ref z) (.ref g5.objs.size) >>= _) _ _ _;refine js ?_;unfold Builtin.SmallTypes.ownedTupleHandOut;have z6:IsZip (g5.push { cls:=.type "tuple",data:=.seq #[x,y] }) z TI TO .ellipsis:=jv _ z5;refine js (jg2 z6 (by simp) fun g7 z7 q7=>?_);replace z7:IsZip g7 z TI TO (rawInt g5.objs.size):=z7;refine jg2 z7 (by simp) fun g8 z8 q8=>?_;replace z8:IsZip g8 z TI TO (rawInt g5.objs.size):=z8;have up:∀c o,c≠z->g5.get? c=some o->g8.get? c=some o:=fun c o n e=>q8.extBut _ _ n (q7.extBut _ _ n (jv _ e));have t8:IsPair g8 g5.objs.size x y:=q8.extBut _ _ (jr3 zlt) (q7.extBut _ _ (jr3 zlt) (xa _ rfl));rw[hsz] at z8 t8;refine zt ⟨_,rfl,?_⟩;show Q (.ref g5.objs.size) _;rw[hsz];exact hQ x y g8 tk4 px py z8 (up _ _ D.zTO p5) (D1.frame _ _ _ e1 fun c hc o e=>up c o (fun q=>D.z1 (q ▸ hc)) e) (D2.frame _ _ _ e2 fun c hc o e=>up c o (fun q=>D.z2 (q ▸ hc)) e) t8
  fun c o c1 c2 c3 c4 e=>up c o c1 (q5.extBut _ _ c2 (q4.extBut _ _ c4 (q3.extBut _ _ c2 (q2.extBut _ _ c3 (q1.extBut _ _ c1 e)))))
theorem lD{Q:PySem.Fin->Shared->Prop}(D:dM z TI TO i1 i2 f1 f2)(D1:Draws prog w A i1 f1 n1 P1 S1)(D2:Draws prog w A i2 f2 n2 P2 S2)
 (hz:IsZip s.heap z TI TO .none)(hTI:IsPair s.heap TI (.ref i1) (.ref i2))(hTO:IsPair s.heap TO a b)(h1:S1 k s.heap)(h2:S2 k s.heap)(hk:k=n1\/k<n1/\k=n2)
 (hE:∀h' tk e,(∀c o,c≠z->c≠TO->c≠i1->c≠i2->s.heap.get? c=some o->h'.get? c=some o)->(∃o,h'.get? e=some o/\o.cls=.type "StopIteration")->E (.ref e) { s with heap:=h',toks:=tk }):
 wpAny (model prog w) A (Builtin.«zip.__next__» ⟨[.ref z],[]⟩) Q E s:=by
 have zi1:z≠i1:=fun e=>D.z1 (e ▸ D.m1);have zi2:z≠i2:=fun e=>D.z2 (e ▸ D.m2);have oi1:TO≠i1:=fun e=>D.o1 (e ▸ D.m1);have oi2:TO≠i2:=fun e=>D.o2 (e ▸ D.m2);show wpAny _ _ (field (.ref z) 2 >>= _) _ _ _;refine js (jc6 hz rfl (x:=.bool false) rfl ?_);show wpAny _ _ (field (.ref z) 3 >>= _) _ _ _;refine js (jc6 hz rfl (x:=.ref TI) rfl ?_);refine js (jb4 hTI rfl ?_);show wpAny _ _ (Builtin.SmallTypes.ownedTupleIsFree (.ref z) >>= _) _ _ _;refine js ?_;unfold Builtin.SmallTypes.ownedTupleIsFree;refine js (jc6 hz rfl (x:=.none) rfl (zt ?_));simp only[if_true];refine js (jw2 (js (jc6 hz rfl (x:=.ref TO) rfl ?_)));refine js (jg2 hz (by simp) fun g1 hz1 q1=>js ?_);replace hz1:IsZip g1 z TI TO .ellipsis:=hz1;simp only[List.zipIdx_cons,List.zipIdx_nil,jl8,jr7];refine js (js (jt7 ?_));show wpAny _ _ (Builtin.SmallTypes.nextOf (.ref i1) >>= _) _ _ _;rcases hk with e | ⟨l1,e⟩
 ·subst e;refine js (D1.done _ _ _ (Draws.sb D1 h1 q1 D.z1) fun g2 e q2 hZ=>?_);obtain⟨oe,hoe,hce⟩:=hZ;have z2:IsZip g2 z TI TO .ellipsis:=q2 _ _ zi1 hz1;have ez:e≠z:=fun x=>by subst x;rw[z2] at hoe;cases hoe;simp at hce
  exact jg2 z2 (by simp) fun g3 _ q3=>hE g3 s.toks e (fun c o c1 _ c3 _ x=>q3.extBut _ _ c1 (q2 _ _ c3 (q1.extBut _ _ c1 x))) ⟨oe,q3.extBut _ _ ez hoe,hce⟩
 ·subst e;refine js (D1.item k _ _ _ l1 (Draws.sb D1 h1 q1 D.z1) fun x g2 tk2 px s2 q2=>zt ?_);have p2:IsPair g2 TO a b:=q2.extBut _ _ oi1 (q1.extBut _ _ D.zTO hTO);refine js (jb4 p2 rfl (js (jo7 p2 fun g3 p3 q3=>js (jl0 (zt ?_)))));refine js (js (jt7 ?_));show wpAny _ _ (Builtin.SmallTypes.nextOf (.ref i2) >>= _) _ _ _;refine js (D2.done _ _ _ (Draws.sb D2 (Draws.sb D2 (Draws.sb D2 h2 q1 D.z2) q2 D.n2) q3 D.o2) fun g4 e q4 hZ=>?_);obtain⟨oe,hoe,hce⟩:=hZ;have z4:IsZip g4 z TI TO .ellipsis:=q4 _ _ zi2 (q3.extBut _ _ D.zTO.symm (q2.extBut _ _ zi1 hz1));have ez:e≠z:=fun x=>by subst x;rw[z4] at hoe;cases hoe;simp at hce
  exact jg2 z4 (by simp) fun g5 _ q5=>hE g5 tk2 e (fun c o c1 c2 c3 c4 x=>q5.extBut _ _ c1 (q4 _ _ c4 (q3.extBut _ _ c2 (q2.extBut _ _ c3 (q1.extBut _ _ c1 x))))) ⟨oe,q5.extBut _ _ ez hoe,hce⟩
end
section
variable{prog:Program}{w:World}{A:Around}{E:Value->Shared->Prop}{s:Shared}{z TI TO i1 i2 l1 l2:Addr}{k:Nat}{xs ys:Array Value}{a b:Value}
theorem apart2(D:ZipApart z TI TO i1 i2 l1 l2):dM z TI TO i1 i2 [i1,l1] [i2,l2]:=
 ⟨D.TOz,D.TIz,D.TITO,D.TIi1,D.TIi2,by simp,by simp,by simp[D.i1z.symm,D.l1z.symm],by simp[D.i2z.symm,D.l2z.symm],by simp[D.TOi1,D.l1TO.symm],by simp[D.TOi2,D.l2TO.symm],by simp[D.i12.symm,D.l1i2.symm],by simp[D.i12,D.l2i1.symm]⟩
end
theorem IsTupleIter.at'{h h':Heap}{i t:Addr}{n:Nat}(x:h.IsTupleIter i t n)(k:∀o,h.get? i=some o->h'.get? i=some o):h'.IsTupleIter i t n:=let ⟨o,e,r⟩:=x;⟨o,k o e,r⟩
section
variable{X:Cx}
end
section
variable{P:Program}{w:World}{K:Fr}{h:Heap}{mg:Str->Option Value}{base:Heap}{k0 J:Nat}{g n q:Str}{st:Stmt}{ps:List Str}{sp:Nat->Sp}
theorem XQ(X:K.In h)(G:h.Ns mainGlobals mg)(F:FnG K g n q st)(b:Gw n q st ps)(z:∀vs H Q E,¬sp 0 vs H Q E)
 (step:∀(d:Nat) {f:Addr} {fd:FuncData},Cal P w K mg base (k0+J*d) g ps (sp d)->Fun K n q st f fd->Ei P w K mg base CX0 (k0+J*d+J) f fd ps (sp (d+1))):
 ∀d,Cal P w K mg base (k0+J*d) g ps (sp d)
 | 0=>cV X G F b fun _=>⟨fun vs H Q E h=>absurd h (z vs H Q E),fun A outer s H args us vs Q E _ _ _ _ h=>absurd h (z vs H Q E)⟩
 | d+1=>by
  have R:=XQ X G F b z step d;rw[show k0+J*(d+1)=k0+J*d+J by rw[Nat.mul_succ,jj2]];exact cV X G F b fun F'=>step d R F'
end
end L2
namespace L2
open PySem PySem.Spec PyProof.Rows Builtin.Str
section
variable{X:Cx}
theorem jK:MtR X "str.lstrip" (fun x xs H Q=>∃z y,x=.str z/\xs=[.str y]/\z.length<=sizeLine/\Q (.str (if stripSame y.cps.contains true false z then z else stripped y.cps.contains true false z)) H):=by
 intro pins s Z H x xs v us Q I rx rs h;obtain⟨z,y,rfl,rfl,hz,q⟩:=h;obtain⟨t,rfl⟩:=(show ∃t,v=Value.str z t from rx);obtain⟨u,rfl,ru⟩:=vals1 rs;obtain⟨t',rfl⟩:=(show ∃t,u=Value.str y t from ru);refine call_gives F.slot_str_lstrip (typeIs_str _ _ _) F.entry_str_lstrip (F.args_str_lstrip_2 _ _) (gives_str_lstrip_chars z y t t') ?_;by_cases c:stripSame y.cps.contains true false z=true
 ·rw[xz c] at q ⊢;exact⟨.str _,H,I,⟨_,rfl⟩,q⟩
 ·rw[yb c] at q ⊢;exact⟨fits_stripped _ _ _ hz,.str _,H,I.tok _,⟨_,rfl⟩,q⟩
end
end L2
namespace L2
open PySem PySem.W PySem.Spec PyProof.Rows
section
variable{κ:Type}[DecidableEq κ]
noncomputable def Fl(kvs:List (κ×V))(k:κ):Option V:=(kvs.find? fun kv=>decide (kv.1=k)).map (·.2)
noncomputable def putK(kvs:List (κ×V))(k:κ)(v:V):List (κ×V):=
 if (kvs.any fun kv=>decide (kv.1=k))=true then kvs.map (fun kv=>if kv.1=k then (kv.1,v) else kv) else kvs++[(k,v)]
theorem Ex{p:κ×V}{r:List (κ×V)}{k:κ}(e:p.1=k):Fl (p::r) k=some p.2:=by simp[Fl,ji6,e]
theorem Ey{p:κ×V}{r:List (κ×V)}{k:κ}(e:¬p.1=k):Fl (p::r) k=Fl r k:=by simp[Fl,ji6,e]
theorem Mh(k:κ):∀kvs:List (κ×V),(kvs.any fun kv=>decide (kv.1=k))=(Fl kvs k).isSome
 | []=>rfl
 | p::r=>by
  rw[jj1];by_cases e:p.1=k
  ·simp only[Ex e,decide_eq_true e,Bool.true_or,Option.isSome_some]
  ·rw[Ey e,decide_eq_false e,Bool.false_or];exact Mh k r
theorem Yd(k j:κ)(y:V):∀kvs:List (κ×V),Fl (kvs.map fun kv=>if kv.1=k then (kv.1,y) else kv) j=(Fl kvs j).map fun x=>if j=k then y else x
 | []=>rfl
 | p::r=>by
  have ih:=Yd k j y r;rw[zv];by_cases h:p.1=k
  ·rw[xz h];by_cases e:p.1=j
   ·rw[Ex (p:=(p.1,y)) e,Ex e,jm0,xz (e.symm.trans h)]
   ·rw[Ey (p:=(p.1,y)) e,Ey e,ih]
  ·rw[yb h];by_cases e:p.1=j
   ·rw[Ex (p:=p) e,Ex e,jm0,yb (fun z=>h (e.trans z))]
   ·rw[Ey (p:=p) e,Ey e,ih]
theorem Vq(k j:κ)(y:V):∀kvs:List (κ×V),Fl kvs k=none->Fl (kvs++[(k,y)]) j=if j=k then some y else Fl kvs j
 | [],_=>by
  by_cases e:k=j
  ·rw[xz e.symm];exact Ex (p:=(k,y)) e
  ·rw[yb (fun z=>e z.symm)];exact Ey (p:=(k,y)) e
 | p::r,hn=>by
  rw[jf5];have hk:¬p.1=k:=fun z=>by rw[Ex z] at hn;cases hn
  rw[Ey hk] at hn;have ih:=Vq k j y r hn;by_cases e:p.1=j
  ·rw[Ex e,Ex e,yb (fun z=>hk (e.trans z))]
  ·rw[Ey e,Ey e,ih]
theorem lL(kvs:List (κ×V))(k j:κ)(y:V):Fl (putK kvs k y) j=if j=k then some y else Fl kvs j:=by
 unfold putK;by_cases a:(kvs.any fun kv=>decide (kv.1=k))=true
 ·rw[xz a,Yd];rw[Mh] at a;by_cases e:j=k
  ·obtain⟨x,hx⟩:=jg6.mp a;rw[xz e,e,hx,jm0,xz rfl]
  ·rw[yb e];cases Fl kvs j with
   | none=>rfl
   | some x=>rw[jm0,yb e]
 ·rw[yb a];refine Vq k j y kvs ?_;rw[Mh] at a;cases q:Fl kvs k with
  | none=>rfl
  | some x=>rw[q] at a;exact(a rfl).elim
theorem KR(kvs:List (κ×V))(k:κ)(v:V):(putK kvs k v).length<=kvs.length+1:=by
 unfold putK;split
 ·rw[jp];lia
 ·rw[qc,qh,ji8];lia
theorem Jl.isSome_eq{o:Option V}{u:Option Value}(r:Jl o u):o.isSome=u.isSome:=by
 cases o with
 | none=>cases u with
  | none=>rfl
  | some _=>exact(show False from r).elim
 | some _=>cases u with
  | none=>exact(show False from r).elim
  | some _=>rfl
theorem KV.val{kvs:List (κ×V)}{vs:List (κ×Value)}(r:KV kvs vs)(k:κ):Jl (Fl kvs k) (valueAt vs k):=by
 unfold KV at r
 induction r with
 | nil=>exact True.intro
 | @cons p q ps qs h t ih=>
  obtain⟨h1,h2⟩:=h;by_cases e:p.1=k
  ·have e':q.1=k:=h1.symm.trans e;have b:valueAt (q::qs) k=some q.2:=by simp[valueAt,ji6,e']
   rw[Ex e,b];exact h2
  ·have e':¬q.1=k:=fun z=>e (h1.trans z);have b:valueAt (q::qs) k=valueAt qs k:=by simp[valueAt,ji6,e']
   rw[Ey e,b];exact ih
theorem KV.any{kvs:List (κ×V)}{vs:List (κ×Value)}(r:KV kvs vs)(k:κ):(kvs.any fun kv=>decide (kv.1=k))=vs.any fun kv=>decide (kv.1=k):=by
 unfold KV at r
 induction r with
 | nil=>rfl
 | cons h t ih=>rw[jj1,jj1,ih,h.1]
theorem KV.repl{kvs:List (κ×V)}{vs:List (κ×Value)}(r:KV kvs vs)(k:κ){y:V}{u:Value}(ry:RelV y u):
 KV (kvs.map fun kv=>if kv.1=k then (kv.1,y) else kv) (vs.map fun kv=>if kv.1=k then (kv.1,u) else kv):=by
 unfold KV at r ⊢
 induction r with
 | nil=>exact .nil
 | @cons p q ps qs h t ih=>
  rw[zv,zv];refine .cons ?_ ih;obtain⟨h1,h2⟩:=h;by_cases e:p.1=k
  ·rw[xz e,xz (h1.symm.trans e)];exact⟨h1,ry⟩
  ·rw[yb e,yb (fun z=>e (h1.trans z))];exact⟨h1,h2⟩
theorem KV.put{kvs:List (κ×V)}{vs:List (κ×Value)}(r:KV kvs vs)(k:κ){y:V}{u:Value}(ry:RelV y u):KV (putK kvs k y) (stored vs k u):=by
 unfold putK stored;rw[r.any k];by_cases e:(vs.any fun kv=>decide (kv.1=k))=true
 ·rw[xz e,xz e];exact r.repl k ry
 ·rw[yb e,yb e];exact Paired.snoc r ⟨rfl,ry⟩
theorem KV.length{kvs:List (κ×V)}{vs:List (κ×Value)}(r:KV kvs vs):kvs.length=vs.length:=Paired.length r
end
theorem TX{P:Program}{w:World}{k:Key}{u:Value}(r:RelV (kV k) u):(Eh P w).is k u=true:=by
 cases k with
 | inl i=>obtain⟨t,e⟩:=(show ∃t,u=Value.int i t from r);subst e;exact Ze P w i t
 | inr x=>obtain⟨t,e⟩:=(show ∃t,u=Value.str x t from r);subst e;exact KN P w x t
theorem V7{P:Program}{w:World}:∀{ks:List Key} {us:List Value},Vals (ks.map kV) us->ItemsAre (Eh P w) ks us
 | [],_,r=>by rw[jr0] at r;cases r;exact .nil
 | k::ks,_,r=>by
  rw[zv] at r;cases r with
  | cons h t=>exact .cons (TX h) (V7 t)
abbrev KT(H:Hp):List (List Key×V)->List (List Key×Addr×Value)->Prop:=Paired fun p q=>p.1=q.1/\H q.2.1=some (.tup (p.1.map kV))/\RelV p.2 q.2.2
variable{H:Hp}
theorem KT.val{kvs:List (List Key×V)}{xs:List (List Key×Addr×Value)}(r:KT H kvs xs)(k:List Key):Jl (Fl kvs k) ((atKey xs k).map (·.2)):=by
 induction r with
 | nil=>exact True.intro
 | @cons p q ps qs h t ih=>
  obtain⟨h1,_,h2⟩:=h;by_cases e:p.1=k
  ·have e':q.1=k:=h1.symm.trans e;have b:atKey (q::qs) k=some q.2:=by simp[atKey,ji6,e']
   rw[Ex e,b];exact h2
  ·have e':¬q.1=k:=fun z=>e (h1.trans z);have b:atKey (q::qs) k=atKey qs k:=by simp[atKey,ji6,e']
   rw[Ey e,b];exact ih
theorem KT.repl{kvs:List (List Key×V)}{xs:List (List Key×Addr×Value)}(r:KT H kvs xs)(k:List Key){y:V}{u:Value}(ry:RelV y u):
 KT H (kvs.map fun kv=>if kv.1=k then (kv.1,y) else kv) (xs.map (putAt k u)):=by
 induction r with
 | nil=>exact .nil
 | @cons p q ps qs h t ih=>
  rw[zv,zv];refine .cons ?_ ih;obtain⟨h1,h2,h3⟩:=h;unfold putAt;by_cases e:p.1=k
  ·rw[xz e,xz (h1.symm.trans e)];exact⟨h1,h2,ry⟩
  ·rw[yb e,yb (fun z=>e (h1.trans z))];exact⟨h1,h2,h3⟩
theorem KT.put{kvs:List (List Key×V)}{xs:List (List Key×Addr×Value)}(r:KT H kvs xs)(k:List Key){b:Addr}{y:V}{u:Value}(hb:H b=some (.tup (k.map kV)))(ry:RelV y u):
 KT H (putK kvs k y) (storedH xs k b u):=by
 have e:(kvs.any fun kv=>decide (kv.1=k))=(atKey xs k).isSome:=by
  rw[Mh,(r.val k).isSome_eq,Option.isSome_map]
 unfold putK storedH;rw[e];by_cases q:(atKey xs k).isSome=true
 ·rw[xz q,xz q];exact r.repl k ry
 ·rw[yb q,yb q];exact Paired.snoc r ⟨rfl,hb,ry⟩
theorem KT.keeps{H':Hp}{kvs:List (List Key×V)}{xs:List (List Key×Addr×Value)}(r:KT H kvs xs)(ht:∀b ys,H b=some (.tup ys)->H' b=some (.tup ys)):KT H' kvs xs:=
 Paired.mapP r fun _ _ z=>⟨z.1,ht _ _ z.2.1,z.2.2⟩
section
variable{P:Program}{w:World}{H:Hp}{h:Heap}{a:Addr}
theorem xO{u:HO}(ok:HOk P w H h)(e:Rd H a u):Ef P w H h a u:=e.ok ok
theorem f9{kvs:List (Key×V)}(ok:HOk P w H h)(e:Rd H a (.dK kvs)):kvs.length<=sizeLine/\(a==sysModules)=false/\∃vs,KV kvs vs/\h.DictOf (Eh P w) a vs:=
 show Ef P w H h a (.dK kvs) from xO ok e
theorem ACk{kvs:List (Key×V)}(ok:HOk P w H h)(e:H a=some (.dK kvs)):kvs.length<=sizeLine/\(a==sysModules)=false/\∃vs,KV kvs vs/\h.DictOf (Eh P w) a vs:=f9 ok (.inl e)
theorem Xx{ks:List Key}(ok:HOk P w H h)(e:H a=some (.tup (ks.map kV))):(tupleKind (Eh P w)).is h ks a:=by
 obtain⟨_,its,r,o,h1,h2,n,h3⟩:=(show Ef P w H h a (.tup (ks.map kV)) from ok a _ e);exact⟨o,its.toArray,n,h1,h2,h3,by simpa using V7 r⟩
theorem fj{kvs:List (List Key×V)}(ok:HOk P w H h)(e:Rd H a (.dT kvs)):kvs.length<=sizeLine/\(a==sysModules)=false/\
 ∃xs,KT H kvs xs/\h.DictOfH (tupleKind (Eh P w)) a xs:=by
 obtain⟨z,y,xs,r,o,es,ep,h1,h2,h3,h4,h5⟩:=(show Ef P w H h a (.dT kvs) from xO ok e);refine⟨z,y,xs,r,o,es,ep,h1,h2,h3,h4,fun x hx=>?_,h5⟩;have all:∀{l:List (List Key×V)} {m:List (List Key×Addr×Value)},KT H l m->∀x∈m,(tupleKind (Eh P w)).is h x.1 x.2.1:=by
  intro l m q
  induction q with
  | nil=>intro x hx;exact nomatch hx
  | @cons p q ps qs hq t ih=>
   intro x hx;rcases qf.mp hx with e | hx
   ·subst e;exact Xx ok (by rw[<-hq.1];exact hq.2.1)
   ·exact ih x hx
 exact all r x hx
theorem ACi{kvs:List (List Key×V)}(ok:HOk P w H h)(e:H a=some (.dT kvs)):kvs.length<=sizeLine/\(a==sysModules)=false/\
 ∃xs,KT H kvs xs/\h.DictOfH (tupleKind (Eh P w)) a xs:=fj ok (.inl e)
end
def Vo(H:Hp)(a:Addr)(y:V)(r:Option V):Prop:=
 (∃kvs k,Rd H a (.dK kvs)/\y=kV k/\r=Fl kvs k)\/∃kvs k b,Rd H a (.dT kvs)/\y=.ref b/\H b=some (.tup (k.map kV))/\r=Fl kvs k
def lB(H:Hp)(a:Addr)(y v:V)(H':Hp):Prop:=
 (∃kvs k,H a=some (.dK kvs)/\y=kV k/\kvs.length<sizeLine/\H'=upd H a (.dK (putK kvs k v)))\/
 ∃kvs k b,H a=some (.dT kvs)/\y=.ref b/\H b=some (.tup (k.map kV))/\kvs.length<sizeLine/\H'=upd H a (.dT (putK kvs k v))
theorem Vo.k{a:Addr}{kvs:List (Key×V)}{k:Key}(e:H a=some (.dK kvs)):Vo H a (kV k) (Fl kvs k):=.inl ⟨kvs,k,.inl e,rfl,rfl⟩
theorem lB.k{a:Addr}{kvs:List (Key×V)}{k:Key}{v:V}(e:H a=some (.dK kvs))(hl:kvs.length<sizeLine):lB H a (kV k) v (upd H a (.dK (putK kvs k v))):=.inl ⟨kvs,k,e,rfl,hl,rfl⟩
section
variable{X:Cx}{pins:List (Addr×Obj)}{Z:St}{H:Hp}{s:Shared}{a:Addr}{y v:V}{u r:Value}{o:Option V}{A:Around}{E:Value->Shared->Prop}
theorem Inv.big(I:Inv X pins Z H s):sysModules<s.heap.objs.size:=by
 have h:mainGlobals<s.heap.objs.size:=(I.mod.glob.keeps I.bk).lt;exact jo0 nofun h
theorem jm{Q:Value->Shared->Prop}(hu:A.units+1<cLine)(I:Inv X pins Z H s)(g:Vo H a y (some v))(ry:RelV y u)(h:∀w' s',Inv X pins Z H s'->RelV v w'->Q w' s'):
 wpAny (model X.prog X.w) A (getItem (.ref a) u) Q E s:=by
 rcases g with ⟨kvs,k,e,ey,l⟩ | ⟨kvs,k,b,e,ey,eb,l⟩
 ·subst ey;obtain⟨z,hd,vs,rel,dd⟩:=f9 I.hok e;obtain⟨w',hw,rw'⟩:=Jl.some_of (v:=v) (o:=valueAt vs k) (by rw[l];exact rel.val k);exact wpAny_getItem_of (TX ry) dd.mapOf hw (h w' _ (I.tok _) rw')
 ·subst ey;cases (show u=Value.ref b from ry);obtain⟨z,hd,xs,rel,dd⟩:=fj I.hok e;obtain⟨w',hw,rw'⟩:=Jl.some_of (v:=v) (o:=(atKey xs k).map (·.2)) (by rw[l];exact rel.val k);obtain⟨p,hp,hp2⟩:=ui.mp hw;refine wpAny_getItem_heap (tupleKind_room_in1 hu) (Xx I.hok eb) dd hp ?_;rw[hp2];exact h w' _ (I.tok _) rw'
theorem vz{Q:Value->Shared->Prop}(hu:A.units+1<cLine)(I:Inv X pins Z H s)(g:Vo H a y o)(ry:RelV y u)(h:∀s',Inv X pins Z H s'->Q (.bool (!o.isSome)) s'):
 wpAny (model X.prog X.w) A (compareOp .NotIn u (.ref a)) Q E s:=by
 rcases g with ⟨kvs,k,e,ey,l⟩ | ⟨kvs,k,b,e,ey,eb,l⟩
 ·subst ey;obtain⟨z,hd,vs,rel,dd⟩:=f9 I.hok e;refine wpAny_notIn_of (TX ry) hd dd.mapOf ?_;rw[<-(rel.val k).isSome_eq,<-l];exact h _ (I.tok _)
 ·subst ey;cases (show u=Value.ref b from ry);obtain⟨z,hd,xs,rel,dd⟩:=fj I.hok e;refine wpAny_notIn_heap (tupleKind_room_in1 hu) (Xx I.hok eb) hd dd ?_;have q:=(rel.val k).isSome_eq;rw[Option.isSome_map] at q;rw[<-q,<-l];exact h _ (I.tok _)
theorem gD{h':Heap}{t':Nat}{ob:HO}(I:Inv X pins Z H s)(mu:Mut (H a))(hs:Heap.SameBut a s.heap h')(he:∃q,h'.get? a=some q)(new:Ef X.prog X.w (upd H a ob) h' a ob):
 Inv X pins Z (upd H a ob) { s with heap:=h',toks:=t' }:=
 I.write (x:=a) (e:=a) mu (.inl rfl) (fun b q hb z=>(hs.2 b hb).trans z) he new
theorem AAs{P:Program}{w:World}{H':Hp}{h':Heap}{kvs:List (Key×V)}{vs:List (Key×Value)}(z:kvs.length<=sizeLine)(hd:(a==sysModules)=false)(rel:KV kvs vs)(dd:h'.DictOf (Eh P w) a vs):
 Ef P w H' h' a (.dK kvs):=⟨z,hd,vs,rel,dd⟩
theorem jj{H':Hp}{Q:Unit->Shared->Prop}(hu:A.units+1<cLine)(I:Inv X pins Z H s)(g:lB H a y v H')(ry:RelV y u)(rv:RelV v r)(h:∀s',Inv X pins Z H' s'->Q () s'):
 wpAny (model X.prog X.w) A (setItem (.ref a) u r) Q E s:=by
 rcases g with ⟨kvs,k,e,ey,l,eH⟩ | ⟨kvs,k,b,e,ey,eb,l,eH⟩
 ·subst ey eH;obtain⟨z,hd,vs,rel,dd⟩:=ACk I.hok e;have hz:vs.length<=sizeLine:=by rw[<-rel.length];exact z
  have hl:(putK kvs k v).length<=sizeLine:=by have:=KR kvs k v;lia
  refine wpAny_setItem_pairs (hsz:=hz) (TX ry) dd fun h' dd' hs=>h _ ?_;have he:∃q,h'.get? a=some q:=let ⟨q,_,_,hq,_⟩:=dd';⟨q,hq⟩;exact gD I (by rw[e];exact True.intro) hs he (AAs hl hd (rel.put k rv) dd')
 ·subst ey eH;cases (show u=Value.ref b from ry);obtain⟨z,hd,xs,rel,dd⟩:=ACi I.hok e;have hz:xs.length<=sizeLine:=by rw[<-Paired.length rel];exact z
  have hl:(putK kvs k v).length<=sizeLine:=by have:=KR kvs k v;lia
  refine wpAny_setItem_heap (hsz:=hz) (tupleKind_room_in1 hu) (Xx I.hok eb) dd fun h' dd' hs=>h _ ?_;obtain⟨q,es,ep,hq,h2,h3,h4,_,h5⟩:=dd';refine gD I (by rw[e];exact True.intro) hs ⟨q,hq⟩ ⟨hl,hd,_,(rel.put k eb rv).keeps fun c ys ec=>?_,q,es,ep,hq,h2,h3,h4,h5⟩;rw[Ax (G5 ec e (fun z=>nomatch z))];exact ec
end
section
variable{X:Cx}{pins:List (Addr×Obj)}{Z:St}{H:Hp}{s:Shared}{a:Addr}{kvs:List (Key×V)}{k:Key}{u:Value}{A:Around}{E:Value->Shared->Prop}
end
def ABS(i:Expr):Prop:=∀ov iv,subscripted i false ov iv=operate [ov,iv] (getItem ov iv)
theorem dZ{prog:Program}{w:World}{A:Around}{E:Value->Shared->Prop}{s:Shared}{env:Env}{value slice:Expr}{pos:Pos}{T id:String}{Q:Value->Shared->Prop}
 (hl:typeLookup (.type T) "__getitem__"=pure (some (.builtin id)))(hs:ABS slice)
 (h:wpAny (model prog w) A (eval value env) (fun o s₁=>wpAny (model prog w) A (eval slice env) (fun i s₂=>s₂.TypeIs o T/\wpAny (model prog w) A (getItem o i) Q E s₂) E s₁) E s):
 wpAny (model prog w) A (eval (.Subscript value slice pos) env) Q E s:=by
 refine Subscript_ (Qb h (fun o s₁ h₁=>Qb h₁ (fun i s₂ h₂=>?_) fun _ _ x=>x) fun _ _ x=>x);obtain⟨hT,h₂⟩:=h₂;unfold subscriptTail;refine js ?_;rw[getitemInPython_of_ne hT.not_modules];refine js (wpAny_specialOf hT hl ?_);have fin:wpAny (model prog w) A (subscripted slice false o i) (fun r s₃=>wpAny (model prog w) A (letTemporaryGo value o r >>= fun _=>pure r) Q E s₃) E s₂:=by
  rw[hs o i];exact wpAny_operating (Qb h₂ (fun r s₃ h₃=>js (wpAny_letTemporaryGo (zt h₃))) fun _ _ x=>x)
 first
  | exact zt (js fin)
  | exact js (zt (js fin))
  | exact js fin
theorem Zq{X:Cx}{pins:List (Addr×Obj)}{Z:St}{s:Shared}{a:Addr}{y:V}{o:Option V}(I:Inv X pins Z H s)(g:Vo H a y o):s.TypeIs (.ref a) "dict":=by
 rcases g with ⟨kvs,k,e,_,_⟩ | ⟨kvs,k,b,e,_,_,_⟩
 ·obtain⟨_,_,vs,_,dd⟩:=f9 I.hok e;exact dd.typeIs
 ·obtain⟨_,_,xs,_,dd⟩:=fj I.hok e;exact dd.typeIs
def lY(td ty:TE):TE:=fun Z H Q=>td Z H fun x H1=>ty Z H1 fun y H2=>∃a v,x=.ref a/\Vo H2 a y (some v)/\Q v H2
def Wn(ty td:TE):TE:=fun Z H Q=>ty Z H fun y H1=>td Z H1 fun x H2=>∃a o,x=.ref a/\Vo H2 a y o/\Q (.bl (!o.isSome)) H2
def nY(td ty tv:TE):TS:=fun D Z H=>tv Z H fun v H1=>td Z H1 fun x H2=>ty Z H2 fun y H3=>∃a H4,x=.ref a/\lB H3 a y v H4/\D.nx Z H4
section
variable{X:Cx}{o i e value:Expr}{pos pos' tpos:Pos}{td ty tv:TE}
theorem eX(hu:X.A.units+1<cLine)(ho:PE X o td)(hi:PE X i ty)(hs:ABS i):PE X (.Subscript o i pos) (lY td ty):=by
 intro pins s Z H Q I h;refine dZ js0.lookup hs (thn (ho s Z H _ I h) fun u s1 ⟨x,H1,I1,rx,q1⟩=>thn (hi s1 Z H1 _ I1 q1) fun iv s2 hZ=>?_);obtain⟨y,H2,I2,ry,a,v,ex,g,q2⟩:=hZ;subst ex;obtain rfl:u=Value.ref a:=rx;exact⟨Zq I2 g,jm hu I2 g ry fun w' s3 I3 rw'=>⟨v,H2,I3,rw',q2⟩⟩
theorem V2(hu:X.A.units+1<cLine)(hi:PE X i ty)(ho:PE X o td):PC X .NotIn i o (Wn ty td):=by
 intro pins s Z H Q I h;refine thn (hi s Z H _ I h) fun iv s1 ⟨y,H1,I1,ry,q1⟩=>thn (ho s1 Z H1 _ I1 q1) fun u s2 hZ=>?_;obtain⟨x,H2,I2,rx,a,ov,ex,g,q2⟩:=hZ;subst ex;obtain rfl:u=Value.ref a:=rx;exact vz hu I2 g ry fun s3 I3=>⟨.bl (!ov.isSome),H2,I3,rfl,q2⟩
theorem Xb(hu:X.A.units+1<cLine)(ho:PE X o td)(hi:PE X i ty)(hv:PE X value tv)(hs:swapsWith value (some (.Subscript o i pos')) pos.line X.env=pure false):
 PS X (.Assign [.Subscript o i pos'] value pos) (nY td ty tv):=by
 intro pins s Z H D I h;refine wpAny_Assign_Subscript (thn (hv s Z H _ I h) fun r s1 ⟨v,H1,I1,rv,q1⟩=>thn (ho s1 Z H1 _ I1 q1) fun u s2 ⟨x,H2,I2,rx,q2⟩=>thn (hi s2 Z H2 _ I2 q2) fun iv s3 hZ=>?_) hs;obtain⟨y,H3,I3,ry,a,H4,ex,g,q3⟩:=hZ;subst ex;obtain rfl:u=Value.ref a:=rx;exact jj hu I3 g ry rv fun s4 I4=>⟨Z,H4,I4,q3⟩
end
theorem qe{P:Program}{w:World}(h:Heap)(hb:sysModules<h.objs.size):Ef P w H (h.push { cls:=.type "dict",data:=.dict #[] }) h.objs.size (.dK []):=
 ⟨vt _,beq_eq_false_iff_ne.mpr (Ne.symm (vv hb)),[],.nil,Heap.DictOf.new h⟩
def yR:TE:=fun _ H Q=>∀p,H p=none->Q (.ref p) (upd H p (.dK []))
section
variable{X:Cx}{pos:Pos}
theorem ZZ:PE X (.Dict [] [] pos) yR:=fun pins s Z H Q I h=>
 wpAny_Dict_empty ⟨.ref s.heap.objs.size,_,I.laid (a:=s.heap.objs.size) (o:=.dK []) (t':=s.toks) (fun _ _ q=>jv _ q) (qg _) (qe s.heap I.big),rfl,h _ (I.hok.fresh (qg _))⟩
end
end L2
namespace L2
open PySem PySem.Spec PyProof.Rows
section
variable{X:Cx}{pins:List (Addr×Obj)}{Z:St}{H2:Hp}{s2:Shared}{M xs:List Str}{scope:Scope}{cl:List (Str×Addr)}{C:Addr}{fp:List Addr}{E:XK}{Qe:Value->Shared->Prop}{acc:Value}
end
section
variable{X:Cx}
end
def SqA(K:Fr)(H:Hp)(a:Addr)(xs:List V):Bool->Prop | true=>SqT K H a xs | false=>SqL K H a xs
def ItA(h:Heap)(i a:Addr)(k:Nat):Bool->Prop | true=>h.IsTupleIter i a k | false=>h.IsListIter i a k
def IsA(h:Heap)(a:Addr)(us:Array Value):Bool->Prop | true=>h.IsTuple a us | false=>h.IsList a us
theorem ItA.get{h:Heap}{i a:Addr}{k:Nat}{c:Bool}(x:ItA h i a k c):∃o,h.get? i=some o/\∀v,o.data≠.cell v:=by
 cases c<;>(obtain ⟨o,e,_,d⟩:=x;exact⟨o,e,fun v z=>by rw[d] at z;cases z⟩)
theorem ItA.at{h h':Heap}{i a:Addr}{k:Nat}{c:Bool}(x:ItA h i a k c)(q:∀o,h.get? i=some o->h'.get? i=some o):ItA h' i a k c:=by
 cases c<;>exact let ⟨o,e,r⟩:=x;⟨o,q o e,r⟩
theorem IsA.lt{h:Heap}{a:Addr}{us:Array Value}{c:Bool}(x:IsA h a us c):a<h.objs.size:=by
 cases c<;>(obtain ⟨o,e,_⟩:=x;exact xk e)
section
variable{X:Cx}{pins:List (Addr×Obj)}{Z:St}{H:Hp}{s:Shared}{a:Addr}{xs ys:List V}{c:Bool}
theorem Inv.seqA(I:Inv X pins Z H s)(h:SqA X.K H a xs c):∃us:List Value,Vals xs us/\IsA s.heap a us.toArray c:=by
 cases c
 ·obtain⟨us,r,p,_⟩:=I.list h;exact⟨us,r,p.isList⟩
 ·obtain⟨us,r,p,_⟩:=I.tuple h;exact⟨us,r,p⟩
theorem Inv.injA(I:Inv X pins Z H s)(h:SqA X.K H a xs c)(h':SqA X.K H a ys c):xs=ys:=by
 cases c
 ·exact I.list_inj h h'
 ·exact I.tuple_inj h h'
end
theorem X7{prog:Program}{w:World}{A:Around}{c:Bool}(hh:A.handled=none)(it l:Addr)(hne:l≠it)(us:Array Value):Draws prog w A it [it,l] us.size (fun i v=>us[i]?=some v) (fun i h=>ItA h it l i c/\IsA h l us c):=by
 cases c
 ·exact Draws.list hh it l hne us
 ·exact AAo hh it l hne us
section
variable{prog:Program}{w:World}{A:Around}{E:Value->Shared->Prop}{s:Shared}{z TI TO i1 i2 l1 l2:Addr}{k:Nat}{xs ys:Array Value}{a b:Value}{c:Bool}
end
section
variable{X:Cx}
end
def KD(P:Program)(w:World)(K:Fr)(a:Addr)(kvs:List (Key×V)):Prop:=
 (a==sysModules)=false/\∀h:Heap,K.In h->∃vs,KV kvs vs/\h.DictOf (Eh P w) a vs
noncomputable def esK(p:Params)(l:List (Str×Tok×Addr)):List DictEntry:=l.map fun x=>⟨PyData.keyHash p x.1,.str x.1 x.2.1,.ref x.2.2⟩
theorem eY(P:Program)(w:World)(p:Params):∀l:List (Str×Tok×Addr),Pairs (Eh P w) (esK p l) (l.map fun x=>(Sum.inr x.1,Value.ref x.2.2))
 | []=>.nil
 | x::l=>.cons (KN P w x.1 x.2.1) rfl (eY P w p l)
theorem ACc:∀l:List (Str×Tok×Addr),KV (κ:=Key) (l.map fun x=>(Sum.inr x.1,V.ref x.2.2)) (l.map fun x=>(Sum.inr x.1,Value.ref x.2.2))
 | []=>.nil
 | x::l=>.cons ⟨rfl,rfl⟩ (ACc l)
theorem xW{P:Program}{w:World}{K:Fr}{a:Addr}{n:Nat}(l:List (Str×Tok×Addr))(e:K.lookup a=some ⟨.type "dict",none,.dict (esK w.params l).toArray n,#[]⟩)(nd:(l.map (·.1)).Nodup)(hs:(a==sysModules)=false):
 KD P w K a (l.map fun x=>(Sum.inr x.1,V.ref x.2.2)):=
 ⟨hs,fun h X=>⟨_,ACc l,_,_,_,X _ _ e,⟨rfl,rfl,rfl⟩,rfl,fun d hd=>by
  have hd:d∈esK w.params l:=by simpa using hd
  obtain⟨x,hx,rfl⟩:=yy.mp hd;exact⟨.inr x.1,KN P w x.1 x.2.1,rfl⟩,by simpa using eY P w w.params l,by
   rw[va];exact List.pairwise_map.mpr ((List.pairwise_map.mp nd).imp fun h z=>h (Sum.inr.inj z))⟩⟩
def aY(P:Program)(w:World)(K:Fr)(td ty:TE):TE:=fun Z H Q=>td Z H fun x H1=>ty Z H1 fun y H2=>∃a kvs k v,x=.ref a/\KD P w K a kvs/\y=kV k/\Fl kvs k=some v/\Q v H2
def dX(neg:Bool)(P:Program)(w:World)(K:Fr)(ty td:TE):TE:=fun Z H Q=>ty Z H fun y H1=>td Z H1 fun x H2=>∃a kvs k,x=.ref a/\KD P w K a kvs/\y=kV k/\Q (.bl (if neg then !(Fl kvs k).isSome else (Fl kvs k).isSome)) H2
section
variable{X:Cx}{o i e:Expr}{pos:Pos}{td ty tf:TE}
theorem Sw(ho:PE X o td)(hi:PE X i ty)(hs:ABS i):PE X (.Subscript o i pos) (aY X.prog X.w X.K td ty):=by
 intro pins s Z H Q I h;refine dZ js0.lookup hs (thn (ho s Z H _ I h) fun u s1 ⟨x,H1,I1,rx,q1⟩=>thn (hi s1 Z H1 _ I1 q1) fun iv s2 hZ=>?_);obtain⟨y,H2,I2,ry,a,kvs,k,v,ex,kd,ey,l,q2⟩:=hZ;subst ex ey;obtain rfl:u=Value.ref a:=rx;obtain⟨vs,rel,dd⟩:=kd.2 _ I2.kIn;obtain⟨w',hw,rw'⟩:=Jl.some_of (v:=v) (o:=valueAt vs k) (by rw[<-l];exact rel.val k);exact⟨dd.typeIs,wpAny_getItem_of (TX ry) dd.mapOf hw ⟨v,H2,I2.tok _,rw',q2⟩⟩
theorem uy(hi:PE X i ty)(ho:PE X o td):PC X .In i o (dX false X.prog X.w X.K ty td):=by
 intro pins s Z H Q I h;refine thn (hi s Z H _ I h) fun iv s1 ⟨y,H1,I1,ry,q1⟩=>thn (ho s1 Z H1 _ I1 q1) fun u s2 hZ=>?_;obtain⟨x,H2,I2,rx,a,kvs,k,ex,kd,ey,q2⟩:=hZ;subst ex ey;obtain rfl:u=Value.ref a:=rx;obtain⟨vs,rel,dd⟩:=kd.2 _ I2.kIn;refine wpAny_in_of (TX ry) kd.1 dd.mapOf ?_;rw[<-(rel.val k).isSome_eq];exact⟨.bl _,H2,I2.tok _,rfl,q2⟩
theorem bZ(hi:PE X i ty)(ho:PE X o td):PC X .NotIn i o (dX true X.prog X.w X.K ty td):=by
 intro pins s Z H Q I h;refine thn (hi s Z H _ I h) fun iv s1 ⟨y,H1,I1,ry,q1⟩=>thn (ho s1 Z H1 _ I1 q1) fun u s2 hZ=>?_;obtain⟨x,H2,I2,rx,a,kvs,k,ex,kd,ey,q2⟩:=hZ;subst ex ey;obtain rfl:u=Value.ref a:=rx;obtain⟨vs,rel,dd⟩:=kd.2 _ I2.kIn;refine wpAny_notIn_of (TX ry) kd.1 dd.mapOf ?_;rw[<-(rel.val k).isSome_eq];exact⟨.bl _,H2,I2.tok _,rfl,q2⟩
theorem oZ:PE X e (fun _ _ _=>False):=fun _ _ _ _ _ _ h=>h.elim
end
section
variable{prog:Program}{w:World}{A:Around}{E:Value->Shared->Prop}{s:Shared}
end
section
open PySem.Builtin PySem.Builtin.Str
theorem Nf(x:Str)(c L:Nat):∀(n k free:Nat) (acc:Array Nat),k+n=x.length+1->free<=k->acc.size<=L->
 (forIn (List.range' k n) (acc,free) (StrLaws.occBody x ⟨#[c]⟩ x.length L)).run.fst.toList=acc.toList++(plc c k ((cps x).drop k)).take (L-acc.size)
 | 0,k,free,acc,h,_,_=>by
  rw[vj (by rw[LR];lia)];show acc.toList=acc.toList++List.take _ [];rw[jw9,ya]
 | n+1,k,free,acc,h,hf,ha=>by
  rw[jt9,jl8];have one:(⟨#[c]⟩:Str).length=1:=rfl;by_cases full:acc.size=L
  ·have ih:=Nf x c L n (k+1) free acc ⋯ ⋯ ha;unfold StrLaws.occBody;rw[yb fun y=>by have:acc.size<L:=y.1.1.1;lia,show L-acc.size=0 by lia,jr9,ya];rw[show L-acc.size=0 by lia,jr9,ya] at ih;exact ih
  by_cases z:(cps x)[k]?=some c
  ·have kl:k<(cps x).length:=(xp.mp z).1;have hs:=(StrLaws.subAt_one x c k).mpr z;have ed:(cps x).drop k=c::(cps x).drop (k+1):=by
    rw[Xs kl,(xp.mp z).2]
   have ih:=Nf x c L n (k+1) (k+1) (acc.push k) ⋯ (qg _) (by rw[ju5];lia);unfold StrLaws.occBody;rw[xz ⟨⟨⟨by show acc.size<L;lia,hf⟩,hs.1⟩,hs.2⟩,ed];unfold plc;rw[xz rfl,show L-acc.size=(L-(acc.push k).size)+1 by rw[ju5];lia,List.take_succ_cons];have e2:acc.toList++k::(plc c (k+1) ((cps x).drop (k+1))).take (L-(acc.push k).size)=(acc.push k).toList++(plc c (k+1) ((cps x).drop (k+1))).take (L-(acc.push k).size):=by
    rw[Array.toList_push,Zs];rfl
   rw[e2];exact ih
  ·have hs:¬(k+(⟨#[c]⟩:Str).length<=x.length/\subAt x ⟨#[c]⟩ k=true):=fun y=>z ((StrLaws.subAt_one x c k).mp y);have ih:=Nf x c L n (k+1) free acc ⋯ ⋯ ha;have ep:plc c k ((cps x).drop k)=plc c (k+1) ((cps x).drop (k+1)):=by
    by_cases kl:k<(cps x).length
    ·rw[Xs kl];have:(cps x)[k]≠c:=fun y=>z (by rw[zo kl,y]);show(if (cps x)[k]=c then _ else _)=_;rw[yb this]
    ·rw[vj ⋯,vj ⋯];rfl
   unfold StrLaws.occBody;rw[yb fun y=>hs ⟨y.1.2,y.2⟩,ep];exact ih
theorem Xc(c:Nat):∀(p l:List Nat) (k:Nat),c∉p->plc c k (p++c::l)=(k+p.length)::plc c (k+p.length+1) l
 | [],l,k,_=>by show(if c=c then _ else _)=_;rw[xz rfl];rfl
 | a::p,l,k,h=>by
  have ne:a≠c:=fun z=>h (by rw[z];exact qm);show(if a=c then _ else plc c (k+1) (p++c::l))=_;rw[yb ne,Xc c p l (k+1) fun z=>h (qv _ z),qh];rw[show k+1+p.length=k+(p.length+1) by lia]
def uX:V->List V->Hp->VK->Prop:=fun x xs H Q=>∃(z:Str) (c:Nat) (A B C:List Nat),x=.str z/\xs=[.str ⟨#[c]⟩,.int 2]/\c<256/\cps z=A++c::(B++c::C)/\c∉A/\c∉B/\z.length<=1000000/\∀l,H l=none->Q (.ref l) (upd H l (.lst [.str ⟨A.toArray⟩,.str ⟨B.toArray⟩,.str ⟨C.toArray⟩]))
theorem jH{X:Cx}:MtR X "str.split" uX:=by
 intro pins s Z H x xs v us Q I rx rs h;obtain⟨z,c,A,B,C,rfl,rfl,hc,ez,hA,hB,hz,q⟩:=h;obtain⟨t,rfl⟩:=(show ∃t,v=Value.str z t from rx);cases rs with
 | cons ru rs=>
  obtain⟨t',rfl⟩:=(show ∃t,_=Value.str ⟨#[c]⟩ t from ru);obtain⟨u,rfl,ru2⟩:=vals1 rs;obtain⟨t2,rfl⟩:=(show ∃t,u=Value.int 2 t from ru2);have zl:z.length=A.length+(B.length+(C.length+1)+1):=by rw[<-LR,ez];simp
  have sl:z.length<=sizeLine:=qr hz nofun;have k1:PySem.Builtin.Str.strKind (⟨#[c]⟩:Str)=1:=by
   unfold PySem.Builtin.Str.strKind;simp[hc]
  have k0:1<=PySem.Builtin.Str.strKind z:=by
   unfold PySem.Builtin.Str.strKind
   repeat' split
   all_goals lia
  have h1:(decide (z.length<(⟨#[c]⟩:Str).length)||decide (PySem.Builtin.Str.strKind z<PySem.Builtin.Str.strKind ⟨#[c]⟩))=false:=by
   rw[k1,Bool.or_eq_false_iff];exact⟨decide_eq_false (by show ¬z.length<1;lia),decide_eq_false ⋯⟩
  have eo:occurrences z ⟨#[c]⟩ 0 z.length (limitOf z 2)=[A.length,A.length+1+B.length]:=by
   rw[show limitOf z 2=2 from rfl,StrLaws.occ_eq];have:=Nf z c 2 (z.length+1) 0 0 #[] ⋯ (qg _) (vt _);rw[jn5,ez,Xc c A _ 0 hA,Xc c B _ _ hB] at this;simpa using this
  have ep:partsBetween z (occurrences z ⟨#[c]⟩ 0 z.length (limitOf z 2)) (⟨#[c]⟩:Str).length=[⟨A.toArray⟩,⟨B.toArray⟩,⟨C.toArray⟩]:=by
   rw[eo];show[strSub z 0 A.length,strSub z (A.length+1) (A.length+1+B.length),strSub z (A.length+1+B.length+1) z.length]=_;have e1:strSub z 0 A.length=⟨A.toArray⟩:=RZ (jf4.mp (by
    rw[StrLaws.strSub_toList,show z.cps.toList=_ from ez,jn5,Nat.sub_zero,jv5];rfl))
   have e2:strSub z (A.length+1) (A.length+1+B.length)=⟨B.toArray⟩:=RZ (jf4.mp (by
    rw[StrLaws.strSub_toList,show z.cps.toList=_ from ez,show A++c::(B++c::C)=(A++[c])++(B++c::C) by simp,jv3 (by simp),show A.length+1+B.length-(A.length+1)=B.length by lia,jv5];rfl))
   have e3:strSub z (A.length+1+B.length+1) z.length=⟨C.toArray⟩:=RZ (jf4.mp (by
    rw[StrLaws.strSub_toList,show z.cps.toList=_ from ez,show A++c::(B++c::C)=(A++c::(B++[c]))++C by simp,jv3 (by simp;lia),vn ⋯]))
   rw[e1,e2,e3]
  refine call_meets F.slot_str_split (typeIs_str _ _ _) F.entry_str_split (F.args_str_split_3 _ _ _) (meets_str_split_sep_max z ⟨#[c]⟩ 2 t t' t2 nofun h1 rfl (by rw[eo];rfl) sl (by rw[ep];show 3<=sizeLine;decide)) ?_;rw[ep];exact⟨.ref _,_,I.laid (a:=s.heap.objs.size) (o:=.lst [.str ⟨A.toArray⟩,.str ⟨B.toArray⟩,.str ⟨C.toArray⟩]) (fun _ _ e=>jv _ e) (qg _) ⟨by show 3<=sizeLine;decide,strsFrom s.toks [⟨A.toArray⟩,⟨B.toArray⟩,⟨C.toArray⟩],0,Wq [⟨A.toArray⟩,⟨B.toArray⟩,⟨C.toArray⟩] _,xa _ rfl⟩,rfl,q _ I.fresh⟩
end
end L2
namespace L2
open PySem PySem.Spec PyProof.Rows PySem.W
section
variable{X:Cx}{o:Expr}{to:TE}{apos cpos:Pos}
end
end L2
namespace L2
open PySem PySem.Spec PyProof.Rows
def Gy(mg:Str->Option Value)(L:List (Str×Sp))(tf:TE)(t:TA):TE:=fun Z H Q=>tf Z H fun v H1=>∃f x sp,v=.ref f/\(x,sp)∈L/\mg x=some (.ref f)/\t Z H1 fun vs H2=>sp vs H2 Q E0
section
variable{X:Cx}{o i e:Expr}{pos:Pos}{tf:TE}
theorem o7{k:Nat}{L:List (Str×Sp)}{es:List Expr}{t:TA}{p:Pos}(CV:GQ X.prog X.w X.K X.mg X.base k L)(hr:Cv k X.A)(hf:PE X (.Subscript o i p) tf)(ha:PA X (e::es) t)
 (he:‹starEach (e::es) X.env=(false,eval e X.env)::starEach es X.env›)(hpl:‹(backTo pos (starEach es X.env)).any (·.1)=false›):
 PE X (.Call (.Subscript o i p) (e::es) [] pos) (Gy X.mg L tf t):=by
 intro pins s Z H Q I h;show wpAny _ _ (do callWith pos (<-eval (.Subscript o i p) X.env) [] (backTo pos (starEach (e::es) X.env)) (backToKw pos (keywordEach [] X.env))) _ _ _;refine js (thn (hf s Z H _ I h) fun u s1 hZ=>?_);obtain⟨v,H1,I1,rv,f,y,sp,ev,hm,hmg,q1⟩:=hZ;subst ev;obtain rfl:u=Value.ref f:=rv;obtain⟨ps,C⟩:=CV.get hm;obtain⟨f',fd,F,b,kp,m⟩:=C.ex;have ef:f'=f:=by
  rw[hmg] at m;injection m with m;injection m with m;exact m.symm
 subst ef;refine jc5 (h₀:=X.base) I1.ok.mod.kin kp (thn (ha (pos:=pos) pins s1 Z _ _ I1 q1) fun us s2 ⟨vs,H2,I2,r,q⟩=>⟨I2.kIn,?_⟩) he hpl;dsimp only at q;have hl:us.length=ps.length:=by rw[<-r.length];exact F.len _ _ _ _ q
 have hb:=b s2 us I2.kIn (by rw[ya];exact hl);rw[ya] at hb;show wpAny _ _ (call (.ref f') us) _ _ _;refine js8 (jj0 (F.run X.A X.stack s2 H2 ⟨us,[]⟩ us vs Q _ hr I2.env0 hb r q) fun z s' hq=>?_);cases z with
 | error e=>exact False.elim hq
 | ok fl=>
  cases fl with
  | ret u=>exact I2.after hq
  | next=>exact False.elim hq
  | brk=>exact False.elim hq
  | cont=>exact False.elim hq
end
def ADG(K:Fr)(g n q:Str)(st:Stmt)(ds:Array Value):Prop:=∃f fd,PySem.W.nsIn K mainGlobals g=some (some (.ref f))/\Kw K n q st f fd ds
def ABT(K:Fr)(C:Addr)(x n q:Str)(st:Stmt)(ds:Array Value):Prop:=∃f fd,PySem.W.findIn K (.ref C) x=some (some (.ref f))/\Kw K n q st f fd ds/\PySem.W.typeIn K (.ref f)=some (.type "function")
def ADH(K:Fr)(C:Addr)(x n q:Str)(st:Stmt)(ds:Array Value):Prop:=∃f fd,PySem.W.findCls K (.ref C) (.type "type") x=some (.val (.ref f))/\Kw K n q st f fd ds
abbrev YZ(n q:Str)(st:Stmt)(ps:List Str)(dv:List Value)(ds:Array Value)(m:Nat):Prop:=∀(T:Addr) (kV doc pm:Value) (an:Option Addr) (cdv ct:Value) (us:List Value),us.length=m->
 ∃k:Option (Array Value)->Sem (List (Str×Value)),bindArgs (PySem.W.fnOf n q (El st) (Cz st) (Az st) (.ref T) kV doc pm an cdv ct) ⟨us,[]⟩=seqItems? (.ref T) >>= k/\k (some ds)=pure (ps.zip (us++dv))
section
variable{K:Fr}{g n q:Str}{C f T:Addr}{st:Stmt}{oc to:Value}{od an td:Option Addr}{osl ts:Array (Option Value)}{kV doc pm cdv ct:Value}{ds:Array Value}{tn:Nat}
theorem vd(a:PySem.W.nsIn K mainGlobals g=some (some (.ref f)))(l:K.lookup f=some ⟨oc,od,.func (PySem.W.fnOf n q (El st) (Cz st) (Az st) (.ref T) kV doc pm an cdv ct),osl⟩)
 (c:PySem.W.codeIn K cdv q=true)(k:PySem.W.keepIn K (.ref f)=true)(t:K.lookup T=some ⟨to,td,.seq ds tn,ts⟩):ADG K g n q st ds:=⟨f,_,a,X4 l c k t rfl⟩
theorem vZ(a:PySem.W.findIn K (.ref C) g=some (some (.ref f)))(l:K.lookup f=some ⟨oc,od,.func (PySem.W.fnOf n q (El st) (Cz st) (Az st) (.ref T) kV doc pm an cdv ct),osl⟩)
 (c:PySem.W.codeIn K cdv q=true)(k:PySem.W.keepIn K (.ref f)=true)(t:K.lookup T=some ⟨to,td,.seq ds tn,ts⟩)(u:PySem.W.typeIn K (.ref f)=some (.type "function")):ABT K C g n q st ds:=⟨f,_,a,X4 l c k t rfl,u⟩
theorem vf(a:PySem.W.findCls K (.ref C) (.type "type") g=some (.val (.ref f)))(l:K.lookup f=some ⟨oc,od,.func (PySem.W.fnOf n q (El st) (Cz st) (Az st) (.ref T) kV doc pm an cdv ct),osl⟩)
 (c:PySem.W.codeIn K cdv q=true)(k:PySem.W.keepIn K (.ref f)=true)(t:K.lookup T=some ⟨to,td,.seq ds tn,ts⟩):ADH K C g n q st ds:=⟨f,_,a,X4 l c k t rfl⟩
end
section
variable{P:Program}{w:World}{K:Fr}{h:Heap}{mg:Str->Option Value}{base:Heap}{g n q:Str}{C:Addr}{st:Stmt}{ps:List Str}{k:Nat}{sp:Sp}{ds:Array Value}{CX:CXT}{x:Str}
theorem wD(X:K.In h)(G:h.Ns mainGlobals mg)(Q:ADG K g n q st ds)(b:YZ n q st ps [] ds ps.length)(ok:∀{f:Addr} {fd:FuncData} {ds:Array Value},Kw K n q st f fd ds->Ei P w K mg base CX0 k f fd ps sp):Cal P w K mg base k g ps sp:=by
 obtain⟨f,fd,a,F⟩:=Q;exact⟨⟨f,fd,ok F,F.bindsD _ rfl b,F.kp,jg1 X G a⟩⟩
theorem UV(X:K.In h)(G:h.Ns mainGlobals mg)(mk:PySem.W.makesIn K C=true)(kp:PySem.W.keepIn K (.ref C)=true)(nC:PySem.W.nsIn K mainGlobals x=some (some (.ref C)))(Q:ABT K C "__init__" n q st ds)(b:YZ n q st ps [] ds ps.length)
 (ok:∀{f:Addr} {fd:FuncData} {ds:Array Value},Kw K n q st f fd ds->Ei P w K mg base CX k f fd ps sp):lC P w K mg base CX k x C ps sp:=by
 obtain⟨f,fd,a,F,u⟩:=Q;exact⟨⟨f,fd,ok F,F.bindsD _ rfl b,⟨mk,a,jb2.mpr u,kp⟩,jg1 X G nC⟩⟩
theorem j6{dv:List Value}{dvs:List V}(m:Nat)(hm:m+dv.length=ps.length)(X:K.In h)(G:h.Ns mainGlobals mg)(mk:PySem.W.makesIn K C=true)(kp:PySem.W.keepIn K (.ref C)=true)(nC:PySem.W.nsIn K mainGlobals x=some (some (.ref C)))(Q:ABT K C "__init__" n q st ds)(b:YZ n q st ps dv ds m)
 (r:Vals dvs dv)(ok:∀{f:Addr} {fd:FuncData} {ds:Array Value},Kw K n q st f fd ds->Ei P w K mg base CX k f fd ps sp):rQ P w K mg base CX k x C ps dvs sp:=by
 obtain⟨f,fd,a,F,u⟩:=Q;exact⟨⟨f,fd,_,ok F,F.bindsD _ hm b,r,⟨mk,a,jb2.mpr u,kp⟩,jg1 X G nC⟩⟩
theorem qw(X:K.In h)(G:h.Ns mainGlobals mg)(nC:PySem.W.nsIn K mainGlobals x=some (some (.ref C)))(bsp:PySem.W.specialIn K (.ref C) "__getattribute__"=some (some (.builtin "type.__getattribute__")))(brd:PySem.W.readsIn K C (.type "type")=true)(Q:ADH K C "__init__" n q st ds)(b:YZ n q st ps [] ds ps.length)
 (ok:∀{f:Addr} {fd:FuncData} {ds:Array Value},Kw K n q st f fd ds->Ei P w K mg base CX0 k f fd ps sp):ABW P w K mg base k x ps sp:=by
 obtain⟨f,fd,a,F⟩:=Q;exact⟨⟨f,C,fd,ok F,F.bindsD _ rfl b,⟨jg1 X G nC,bsp,brd,a,F.kp⟩⟩⟩
end
variable{X:Cx}{x:Str}{p q pos:Pos}{j:Int}{kd:Nat}
theorem pxT(i:Nat)(hN:‹X.N[i]?=some x›)(hv:Vis X.env.scope x:=by first | exact Or.inl rfl | exact Or.inr (Or.inl rfl) | exact Or.inr (Or.inr rfl))(hd:(x==("__debug__":Str))=false:=by decide)
 (hcd:(x==("__classdict__":Str))=false:=by decide):PE X (.Subscript (.Name x p) (.Constant (.int j) kd q) pos) (tOp (uY X.K) (Ju i) (tC (.int j))):=CQ Hn (pv i hN hv hd hcd) Ae (fun _ _=>rfl)
theorem pxL(i:Nat)(hN:‹X.N[i]?=some x›)(hv:Vis X.env.scope x:=by first | exact Or.inl rfl | exact Or.inr (Or.inl rfl) | exact Or.inr (Or.inr rfl))(hd:(x==("__debug__":Str))=false:=by decide)
 (hcd:(x==("__classdict__":Str))=false:=by decide):PE X (.Subscript (.Name x p) (.Constant (.int j) kd q) pos) (tOp (uZ X.K) (Ju i) (tC (.int j))):=CQ Ce (pv i hN hv hd hcd) Ae (fun _ _=>rfl)
end L2
namespace L2
open PySem PySem.W PySem.Spec PyProof.Rows
class Stp (G:Prop) (T:outParam Prop):Prop where
 go:T->G
instance:Stp (lV t u D Z H) (t { D with nx:=u D } Z H):=⟨id⟩
instance:Stp (yN te D Z H) (te Z H D.rt):=⟨id⟩
instance:Stp (aZ te g D Z H) (te Z H fun x H1=>g x Z H1 D.nx):=⟨id⟩
instance:Stp (yP c t u D Z H) (c Z H fun b H1=>if b=true then t D Z H1 else u D Z H1):=⟨id⟩
instance:Stp (xF D Z H) (D.nx Z H):=⟨id⟩
instance:Stp (lX te D Z H) (te Z H fun _ H1=>D.nx Z H1):=⟨id⟩
instance:Stp (tOp r ta tb Z H Q) (ta Z H fun x H1=>tb Z H1 fun y H2=>r x y H2 Q):=⟨id⟩
instance:Stp (tC v Z H Q) (Q v H):=⟨id⟩
instance:Stp (tUn r ta Z H Q) (ta Z H fun x H1=>r x H1 Q):=⟨id⟩
instance:Stp (lU t Z H Q) (t Z H fun x H'=>∃k,x=.bl k/\Q k H'):=⟨id⟩
instance:Stp (L2.tB t Z H Q) (t Z H fun x H'=>∃k,x=.bl k/\Q k H'):=⟨id⟩
instance:Stp (ABh t Z H Q) (t Z H fun c H1=>Q (!c) H1):=⟨id⟩
instance:Stp (yU t u Z H Q) (t Z H fun c H1=>if c=true then u Z H1 Q else Q false H1):=⟨id⟩
instance:Stp (tOr t u Z H Q) (t Z H fun c H1=>if c=true then Q true H1 else u Z H1 Q):=⟨id⟩
instance:Stp (xJ ta tb Z H Q) (ta Z H fun x H1=>∃c,x=.bl c/\if c=true then tb Z H1 Q else Q (.bl false) H1):=⟨id⟩
instance:Stp (lr r r' ta tb tc Z H Q) (ta Z H fun x H1=>tb Z H1 fun y H2=>r x y H2 fun z H3=>∃k,z=.bl k/\(if k=true then tc Z H3 fun w' H4=>r' y w' H4 Q else Q (.bl false) H3)):=⟨id⟩
instance:Stp (Vs sp dvs E t Z H Q) (t Z H fun vs H1=>sp (vs++dvs) H1 Q E):=⟨id⟩
instance:Stp (tCB r t Z H Q) (t Z H fun vs H1=>r vs H1 Q):=⟨id⟩
instance:Stp (Ly Z H Q) (Q [] H):=⟨id⟩
instance:Stp (Hw ta tr Z H Q) (ta Z H fun x H1=>tr Z H1 fun xs H2=>Q (x::xs) H2):=⟨id⟩
instance:Stp (sS t Z H Q) (t Z H fun xs H1=>xs.length<=sizeLine/\∀p,H1 p=none->Q (.ref p) (upd H1 p (.tup xs))):=⟨id⟩
instance:Stp (sU t Z H Q) (t Z H fun xs H1=>xs.length<=sizeLine/\∀p,H1 p=none->Q (.ref p) (upd H1 p (.lst xs))):=⟨id⟩
instance {K:Fr}:Stp (ABl K T r to Z H Q) (to Z H fun x H1=>tyV K T x H1/\r x [] H1 Q):=⟨id⟩
instance:Stp (Vr C sp dvs E0 t Z H Q) (t Z H fun vs H1=>∀x dx,H1 x=none->H1 dx=none->dx≠x->sp (.ref x::(vs++dvs)) (upd (upd H1 dx (.own x)) x (.ins C dx [])) (fun v H2=>v=.non/\Q (.ref x) H2) E0):=⟨id⟩
instance {K:Fr}:Stp (ABk K ta f Z H Q) (ta Z H fun x H1=>∃a C dx fs v,x=.ref a/\H1 a=some (.ins C dx fs)/\Cls K C/\Dr K C f/\fs.lookup f=some v/\Q v H1):=⟨id⟩
instance {K:Fr}:Stp (ACI K ta tv f D Z H) (tv Z H fun y H1=>ta Z H1 fun x H2=>∃a C dx fs,x=.ref a/\H2 a=some (.ins C dx fs)/\Cls K C/\Dr K C f/\fs.length<1000/\D.nx Z (upd H2 a (.ins C dx (Ea f y fs)))):=⟨id⟩
instance:Stp (Yj C m sp [] E0 ta t Z H Q) (ta Z H fun x H1=>∃a dx fs,x=.ref a/\H1 a=some (.ins C dx fs)/\fs.lookup m=none/\t Z H1 fun vs H2=>sp (x::(vs++[])) H2 Q E0):=⟨id⟩
instance:Stp (RW L m ta t Z H Q) (ta Z H fun x H1=>∃a C dx fs sp,(C,sp)∈L/\x=.ref a/\H1 a=some (.ins C dx fs)/\fs.lookup m=none/\t Z H1 fun vs H2=>sp (x::(vs++[])) H2 Q E0):=⟨id⟩
instance:Stp (tLR ta Z H Q) (ta Z H fun vs H1=>∃(i j c:Int) (n:Nat),(vs=[.int i,.int j,.int c]\/(vs=[.int i,.int j]/\c=1))/\0<c/\c<1073741824/\Builtin.Range.small i j c=true/\Builtin.Range.rangeSize i j c=(n:Int)/\n<=1000000/\
 ∀l,H1 l=none->Q (.ref l) (upd H1 l (.lst ((List.range n).map fun(k:Nat)=>V.int (i+(k:Int)*c))))):=⟨id⟩
instance:Stp (ABi ta Z H Q) (ta Z H fun vs H1=>∃(i j:Int),vs=[.int i,.int j]/\i<=j/\j-i<=1000000/\
 ∀l,H1 l=none->Q (.ref l) (upd H1 l (.lst ((List.range (j-i).toNat).map fun(k:Nat)=>V.int (i+(k:Int)))))):=⟨id⟩
instance:Stp (tSl r te tl th Z H Q) (te Z H fun x H1=>tl Z H1 fun l H2=>th Z H2 fun u H3=>r x l u H3 Q):=⟨id⟩
instance:Stp (wz t Z H Q) (t Z H fun x H1=>∃i,x=.int i/\Q (some i) H1):=⟨id⟩
instance:Stp (dW Z H Q) (Q none H):=⟨id⟩
instance:Stp (ww ta Z H Q) (ta Z H fun x H'=>∃i:Int,x=.int i/\Q (i != 0) H'):=⟨id⟩
instance:Stp (ACh to ti t v Z H Q) (to Z H fun o H1=>ti Z H1 fun i H2=>t o i v H2 fun H3=>Q Z H3):=⟨id⟩
instance:Stp (ABg i j ta D Z H) (ta Z H fun vs H1=>∃v w,vs=[v,w]/\D.nx ((Z.set i (some v)).set j (some w)) H1):=⟨id⟩
class StL (N:List Str) (vs:List V) (τ:outParam St):Prop where
 e:start N vs=τ
instance i_st0:StL [] [] []:=⟨rfl⟩
instance i_st1{n:Str}{N:List Str}{v:V}{vs:List V}{τ:St}[h:StL N vs τ]:StL (n::N) (v::vs) (some v::τ):=⟨by
 rw[<-h.e];unfold start;rw[qh,qh,Nat.add_sub_add_right];rfl⟩
instance i_st2{n:Str}{N:List Str}{τ:St}[h:StL N [] τ]:StL (n::N) [] (none::τ):=⟨by
 rw[<-h.e];rfl⟩
class SeL (Z:St) (i:Nat) (v:Option V) (τ:outParam St):Prop where
 e:Z.set i v=τ
instance i_se0{Z:St}{x v:Option V}:SeL (x::Z) 0 v (v::Z):=⟨rfl⟩
instance i_se1{Z τ:St}{x v:Option V}{i:Nat}[h:SeL Z i v τ]:SeL (x::Z) (i+1) v (x::τ):=⟨xy (x:: ·) h.e⟩
class NoL (Z:St) (τ:outParam St):Prop where
 e:Z=τ
instance i_no0:NoL [] []:=⟨rfl⟩
instance i_no1{Z:St}{x:Option V}:NoL (x::Z) (x::Z):=⟨rfl⟩
instance i_no2{N:List Str}{vs:List V}{τ:St}[h:StL N vs τ]:NoL (start N vs) τ:=⟨h.e⟩
instance i_no3{Z τ ρ:St}{v:Option V}{i:Nat}[h:NoL Z τ][g:SeL τ i v ρ]:NoL (Z.set i v) ρ:=⟨by rw[h.e,g.e]⟩
class LoL (Z:St) (i:Nat) (v:outParam V):Prop where
 e:Z[i]?=some (some v)
instance i_lo0{Z:St}{v:V}:LoL (some v::Z) 0 v:=⟨rfl⟩
instance i_lo1{Z:St}{x:Option V}{i:Nat}{v:V}[h:LoL Z i v]:LoL (x::Z) (i+1) v:=⟨h.e⟩
instance i_gname0{i:Nat}{v:V}{Z:St}{H:Hp}{Q:St->Hp->Prop}:Stp (HR i v Z H Q) (Q (Z.set i (some v)) H):=⟨id⟩
instance i_gname{i:Nat}{v:V}{Z τ ρ:St}{H:Hp}{Q:St->Hp->Prop}[h:NoL Z τ][g:SeL τ i (some v) ρ]:Stp (HR i v Z H Q) (Q ρ H):=⟨fun z=>by
 show Q (Z.set i (some v)) H
 rwa [h.e,g.e]⟩
instance i_var{i:Nat}{Z τ:St}{H:Hp}{Q:VK}{v:V}[h:NoL Z τ][g:LoL τ i v]:Stp (Ju i Z H Q) (Q v H):=⟨fun z=>MK (h.e ▸ g.e) z⟩
instance:Stp (xH t Z H Q) (t Str.empty Z H Q):=⟨id⟩
instance:Stp (tIf t ta tb Z H Q) (t Z H fun c H1=>if c=true then ta Z H1 Q else tb Z H1 Q):=⟨id⟩
end L2
namespace L2
open PySem PySem.Spec PyProof.Rows
section
variable{prog:Program}{w:World}{A:Around}{E:Value->Shared->Prop}{s:Shared}{z TI TO i1 i2 l1 l2:Addr}{k:Nat}{xs ys:Array Value}{a b:Value}{c d:Bool}
theorem AAH{Q:Option Value->Shared->Prop}(hh:A.handled=none)(D:ZipApart z TI TO i1 i2 l1 l2){x y:Value}(hz:IsZip s.heap z TI TO .none)(hTI:IsPair s.heap TI (.ref i1) (.ref i2))(hTO:IsPair s.heap TO a b)
 (h1:ItA s.heap i1 l1 k c)(h2:ItA s.heap i2 l2 k d)(t1:IsA s.heap l1 xs c)(t2:IsA s.heap l2 ys d)(hx:xs[k]?=some x)(hy:ys[k]?=some y)
 (hQ:∀h' tk,IsZip h' z TI TO (rawInt s.heap.objs.size)->IsPair h' TO x y->ItA h' i1 l1 (k+1) c->ItA h' i2 l2 (k+1) d->IsPair h' s.heap.objs.size x y->
  (∀y o,y≠z->y≠TO->y≠i1->y≠i2->s.heap.get? y=some o->h'.get? y=some o)->Q (some (.ref s.heap.objs.size)) { s with heap:=h',toks:=tk }):wpAny (model prog w) A (pyNext (.ref z)) Q E s:=by
 have hT:s.TypeIs (.ref z) "zip":=⟨_,hz,rfl⟩;have lx:k<xs.size:=(jq5.mp hx).1;have ly:k<ys.size:=(jq5.mp hy).1;have D1:=X7 (c:=c) (prog:=prog) (w:=w) (A:=A.in1) hh i1 l1 D.l1i1 xs;have D2:=X7 (c:=d) (prog:=prog) (w:=w) (A:=A.in1) hh i2 l2 D.l2i2 ys;unfold pyNext;refine js (wpAny_attempt (je4 (name:=Str.ofString "__next__") hT F.slot_zip_next (jk5 F.slot_zip_next hT F.entry_zip_next
  (gY (apart2 D) D1 D2 hz hTI hTO ⟨h1,t1⟩ ⟨h2,t2⟩ lx ly fun x' y' h' tk p1 p2 a1 a2 a3 a4 a5 a6=>?_) (F.args_zip_next_1 _))))
 rw[hx] at p1;rw[hy] at p2;cases p1;cases p2;exact zt (hQ h' tk a1 a2 a3.1 a4.1 a5 a6)
theorem AAp{Q:Option Value->Shared->Prop}(hh:A.handled=none)(D:ZipApart z TI TO i1 i2 l1 l2)(hz:IsZip s.heap z TI TO .none)(hTI:IsPair s.heap TI (.ref i1) (.ref i2))(hTO:IsPair s.heap TO a b)
 (h1:ItA s.heap i1 l1 k c)(h2:ItA s.heap i2 l2 k d)(t1:IsA s.heap l1 xs c)(t2:IsA s.heap l2 ys d)(hk:k=xs.size\/k<xs.size/\k=ys.size)
 (hQ:∀h' tk,(∀y o,y≠z->y≠TO->y≠i1->y≠i2->s.heap.get? y=some o->h'.get? y=some o)->Q none { s with heap:=h',toks:=tk }):wpAny (model prog w) A (pyNext (.ref z)) Q E s:=by
 have hT:s.TypeIs (.ref z) "zip":=⟨_,hz,rfl⟩;have D1:=X7 (c:=c) (prog:=prog) (w:=w) (A:=A.in1) hh i1 l1 D.l1i1 xs;have D2:=X7 (c:=d) (prog:=prog) (w:=w) (A:=A.in1) hh i2 l2 D.l2i2 ys;unfold pyNext;refine js (wpAny_attempt (je4 (name:=Str.ofString "__next__") hT F.slot_zip_next (jk5 F.slot_zip_next hT F.entry_zip_next
  (lD (apart2 D) D1 D2 hz hTI hTO ⟨h1,t1⟩ ⟨h2,t2⟩ hk fun h' tk e q ⟨o,ho,hc⟩=>?_) (F.args_zip_next_1 _))))
 refine js (wpAny_isInstance (T:="StopIteration") (b:=true) ⟨o,ho,hc⟩ isSubtype_stop ?_);exact zt (hQ _ _ q)
end
noncomputable def aK(K:Fr)(a b:Addr)(c d:Bool):It:=
 ⟨fun i H=>∃xs ys x y,SqA K H a xs c/\SqA K H b ys d/\xs[i]?=some x/\ys[i]?=some y,
  fun i H v H'=>∃T x y,H T=none/\v=.ref T/\H'=upd H T (.tup [x,y])/\∀xs ys,SqA K H a xs c->SqA K H b ys d->xs[i]?=some x/\ys[i]?=some y,
  fun i H=>∃xs ys,SqA K H a xs c/\SqA K H b ys d/\i=min xs.length ys.length⟩
def ABO(c d:Bool)(z TI TO i1 i2 a b:Addr)(i:Nat)(h:Heap):Prop:=
 IsZip h z TI TO .none/\IsPair h TI (.ref i1) (.ref i2)/\(∃p q,IsPair h TO p q)/\ItA h i1 a i c/\ItA h i2 b i d
theorem gb{P:Program}{w:World}{K:Fr}{es:List Expr}{kk:Nat}{pos:Pos}{c d:Bool}(z TI TO i1 i2 a b:Addr)(D:ZipApart z TI TO i1 i2 a b):
 Turn P w K (.Tuple es kk pos) (aK K a b c d) [z,TI,TO,i1,i2] z (ABO c d z TI TO i1 i2 a b) where
 mem:=by simp
 obj:=fun i h st c hc=>by
  obtain⟨h1,h2,⟨p,q,h3⟩,h4,h5⟩:=st;simp only[qf,yk,or_false] at hc;rcases hc with rfl | rfl | rfl | rfl | rfl
  ·exact⟨_,h1,fun v z=>by cases z⟩
  ·exact⟨_,h2,fun v z=>by cases z⟩
  ·exact⟨_,h3,fun v z=>by cases z⟩
  ·exact h4.get
  ·exact h5.get
 keep:=fun i h h' st k=>by
  obtain⟨h1,h2,⟨p,q,h3⟩,h4,h5⟩:=st;exact⟨k z (by simp) _ h1,k TI (by simp) _ h2,⟨p,q,k TO (by simp) _ h3⟩,h4.at fun o e=>k i1 (by simp) o e,h5.at fun o e=>k i2 (by simp) o e⟩
 item:=by
  intro X hP hw hK hc i pins s Z H E I hf st hg;subst hP hw hK;obtain⟨xs,ys,x,y,qa,qb,ex,ey⟩:=hg;obtain⟨us,ra,pa⟩:=I.seqA qa;obtain⟨ws,rb,pb⟩:=I.seqA qb;obtain⟨u,hu,ru⟩:=ra.get ex;obtain⟨v,hv,rv⟩:=rb.get ey;obtain⟨h1,h2,⟨p,q,h3⟩,h4,h5⟩:=st;refine AAH (xs:=us.toArray) (ys:=ws.toArray) (I.ok.hd hc) D h1 h2 h3 h4 h5 pa pb (by simpa using hu) (by simpa using hv) fun h' tk a1 a2 a3 a4 a5 a6=>?_;have lt:∀{c o},s.heap.get? c=some o->s.heap.objs.size≠c:=fun e=>jr3 (xk e);refine⟨.ref s.heap.objs.size,rfl,wpAny_letOwnedTupleGo_zip a1 fun g2 z2 k2=>?_⟩;have hn:H s.heap.objs.size=none:=I.hok.fresh (qg _);have k3:∀c o,c∉[z,TO,i1,i2]->s.heap.get? c=some o->g2.get? c=some o:=fun c o hc e=>by
   simp only[qf,yk,or_false,not_or] at hc;exact k2.extBut c o hc.1 (a6 c o hc.1 hc.2.1 hc.2.2.1 hc.2.2.2 e)
  refine⟨.ref s.heap.objs.size,upd H s.heap.objs.size (.tup [x,y]),I.turnedNew (ch:=[z,TO,i1,i2]) k3 (fun c hc=>hf c ?_) (qg _) ⟨?_,[u,v],.cons ru (.cons rv .nil),⟨_,k2.extBut _ _ (lt h1) a5,rfl,_,rfl⟩⟩,rfl,⟨_,x,y,hn,rfl,rfl,fun xs' ys' qa' qb'=>?_⟩,?_,fun c hc=>?_⟩
  ·simp only[qf,yk,or_false] at hc ⊢;rcases hc with h | h | h | h
   ·exact .inl h
   ·exact .inr (.inr (.inl h))
   ·exact .inr (.inr (.inr (.inl h)))
   ·exact .inr (.inr (.inr (.inr h)))
  ·show 2<=sizeLine;rw[sizeLine_eq];decide
  ·rw[I.injA qa' qa,I.injA qb' qb];exact⟨ex,ey⟩
  ·exact⟨z2,k3 _ _ (by simp[D.TIz,D.TITO,D.TIi1,D.TIi2]) h2,⟨_,_,k2.extBut _ _ D.TOz a2⟩,a3.at fun o e=>k2.extBut _ _ D.i1z e,a4.at fun o e=>k2.extBut _ _ D.i2z e⟩
  ·have hlt:s.heap.objs.size≠c:=by
    simp only[qf,yk,or_false] at hc;obtain⟨o4,e4,_⟩:=h4.get;obtain⟨o5,e5,_⟩:=h5.get;rcases hc with rfl | rfl | rfl | rfl | rfl
    ·exact lt h1
    ·exact lt h2
    ·exact lt h3
    ·exact lt e4
    ·exact lt e5
   rw[Ax hlt.symm];exact(hf c hc).1
 done:=by
  intro X hP hw hK hc i pins s Z H E I hf st hg;subst hP hw hK;obtain⟨xs,ys,qa,qb,e⟩:=hg;obtain⟨us,ra,pa⟩:=I.seqA qa;obtain⟨ws,rb,pb⟩:=I.seqA qb;have la:=ra.length;have lb:=rb.length;obtain⟨h1,h2,⟨p,q,h3⟩,h4,h5⟩:=st;refine AAp (xs:=us.toArray) (ys:=ws.toArray) (I.ok.hd hc) D h1 h2 h3 h4 h5 pa pb (by simp;lia) fun h' tk k=>⟨rfl,I.turnedL (ch:=[z,TO,i1,i2]) (fun c o hc e=>?_) fun c hc=>hf c ?_⟩
  ·simp only[qf,yk,or_false,not_or] at hc;exact k c o hc.1 hc.2.1 hc.2.2.1 hc.2.2.2 e
  simp only[qf,yk,or_false] at hc ⊢;rcases hc with h | h | h | h
  ·exact .inl h
  ·exact .inr (.inr (.inl h))
  ·exact .inr (.inr (.inr (.inl h)))
  ·exact .inr (.inr (.inr (.inr h)))
 self:=fun _ _ _ _ _ st h=>wpAny_pyIter_zip st.1 h
noncomputable abbrev zI(c:Bool)(h:Heap)(a:Addr):Heap:=h.push { cls:=.type (if c=true then "tuple_iterator" else "list_iterator"),data:=.fields #[.ref a,.int 0 0] }
noncomputable abbrev zU2(c d:Bool)(h:Heap)(a b:Addr):Heap:=zI d (zI c h a) b
noncomputable abbrev zU3(c d:Bool)(h:Heap)(a b:Addr):Heap:=(zU2 c d h a b).push { cls:=.type "tuple",data:=.seq #[.ref h.objs.size,.ref (zI c h a).objs.size] }
noncomputable abbrev zU4(c d:Bool)(h:Heap)(a b:Addr):Heap:=(zU3 c d h a b).push { cls:=.type "tuple",data:=.seq #[.none,.none] }
noncomputable abbrev zU5(c d:Bool)(h:Heap)(a b:Addr):Heap:=(zU4 c d h a b).push { cls:=.type "zip",data:=.fields #[.none,.bool false,.bool false,.ref (zU2 c d h a b).objs.size,.ref (zU3 c d h a b).objs.size] }
theorem IsA.push{h:Heap}{l:Addr}{ys:Array Value}{d:Bool}(t:IsA h l ys d)(o:Obj):IsA (h.push o) l ys d:=by
 cases d
 ·exact Heap.IsList.at t fun o e=>jv _ e
 ·exact Heap.IsTuple.push t _
theorem cB(c d:Bool)(l1 l2:Addr)(xs ys:Array Value):
 Meets (Builtin.«zip.__new__» ⟨[.type "zip",.ref l1,.ref l2],[]⟩) (fun _ R s=>IsA s.heap l1 xs c/\IsA s.heap l2 ys d/\R (.ok (.ret (.ref (zU4 c d s.heap l1 l2).objs.size))) { s with heap:=zU5 c d s.heap l1 l2 }):=
 .of_wp fun prog w A R s h=>by
  obtain⟨hp,g,dd,tk,os⟩:=s;obtain⟨t1,t2,h⟩:=h;have hsub:=sub_zip;have hL1:IsA (Shared.heap ⟨hp,g,dd,tk,os⟩) l1 xs c:=t1;have hL2:IsA (Shared.heap ⟨zI c hp l1,g,dd,tk,os⟩) l2 ys d:=t2.push _;cases c<;>cases d
  ·have a1:Heap.IsList (Shared.heap ⟨hp,g,dd,tk,os⟩) l1 xs:=hL1;have a2:Heap.IsList (Shared.heap ⟨hp.push { cls:=.type "list_iterator",data:=.fields #[.ref l1,.int 0 0] },g,dd,tk,os⟩) l2 ys:=hL2
   wp_walk using je8 a1,je8 a2
   exact⟨_,rfl,h⟩
  ·have a1:Heap.IsList (Shared.heap ⟨hp,g,dd,tk,os⟩) l1 xs:=hL1;have a2:Heap.IsTuple (Shared.heap ⟨hp.push { cls:=.type "list_iterator",data:=.fields #[.ref l1,.int 0 0] },g,dd,tk,os⟩) l2 ys:=hL2
   wp_walk using je8 a1,ji2 a2
   exact⟨_,rfl,h⟩
  ·have a1:Heap.IsTuple (Shared.heap ⟨hp,g,dd,tk,os⟩) l1 xs:=hL1;have a2:Heap.IsList (Shared.heap ⟨hp.push { cls:=.type "tuple_iterator",data:=.fields #[.ref l1,.int 0 0] },g,dd,tk,os⟩) l2 ys:=hL2
   wp_walk using ji2 a1,je8 a2
   exact⟨_,rfl,h⟩
  ·have a1:Heap.IsTuple (Shared.heap ⟨hp,g,dd,tk,os⟩) l1 xs:=hL1;have a2:Heap.IsTuple (Shared.heap ⟨hp.push { cls:=.type "tuple_iterator",data:=.fields #[.ref l1,.int 0 0] },g,dd,tk,os⟩) l2 ys:=hL2
   wp_walk using ji2 a1,ji2 a2
   exact⟨_,rfl,h⟩
theorem ItA.new{h:Heap}{i a:Addr}{c:Bool}(e:h.get? i=some { cls:=.type (if c=true then "tuple_iterator" else "list_iterator"),data:=.fields #[.ref a,.int 0 0] }):ItA h i a 0 c:=by
 cases c<;>exact⟨_,e,rfl,rfl⟩
theorem jy{prog:Program}{w:World}{A:Around}{E:Value->Shared->Prop}{s:Shared}{l1 l2:Addr}{xs ys:Array Value}{c d:Bool}{Q:Value->Shared->Prop}(t1:IsA s.heap l1 xs c)(t2:IsA s.heap l2 ys d)
 (h:∀h',IsZip h' (s.heap.objs.size+4) (s.heap.objs.size+2) (s.heap.objs.size+3) .none->IsPair h' (s.heap.objs.size+2) (.ref s.heap.objs.size) (.ref (s.heap.objs.size+1))->IsPair h' (s.heap.objs.size+3) .none .none->
  ItA h' s.heap.objs.size l1 0 c->ItA h' (s.heap.objs.size+1) l2 0 d->(∀y o,s.heap.get? y=some o->h'.get? y=some o)->Q (.ref (s.heap.objs.size+4)) { s with heap:=h' }):
 wpAny (model prog w) A (call (.type "zip") [.ref l1,.ref l2]) Q E s:=by
 refine callType_new F.called_zip nofun (F.typeCall_zip_2 _ _) (F.newCall_zip_2 _ _) (fun obj=>F.args_object_init_3 obj _ _) F.entry_zip_new (cB c d l1 l2 xs ys) ⟨t1,t2,?_⟩;have z1:(zI c s.heap l1).objs.size=s.heap.objs.size+1:=jh6 ..;have z2:(zU2 c d s.heap l1 l2).objs.size=s.heap.objs.size+2:=by rw[jh6,z1]
 have z3:(zU3 c d s.heap l1 l2).objs.size=s.heap.objs.size+3:=by rw[jh6,z2]
 have z4:(zU4 c d s.heap l1 l2).objs.size=s.heap.objs.size+4:=by rw[jh6,z3]
 have p1:∀y o,(zU4 c d s.heap l1 l2).get? y=some o->(zU5 c d s.heap l1 l2).get? y=some o:=fun y o e=>jv _ e;have p2:∀y o,(zU3 c d s.heap l1 l2).get? y=some o->(zU5 c d s.heap l1 l2).get? y=some o:=fun y o e=>p1 y o (jv _ e);have p3:∀y o,(zU2 c d s.heap l1 l2).get? y=some o->(zU5 c d s.heap l1 l2).get? y=some o:=fun y o e=>p2 y o (jv _ e);have p4:∀y o,(zI c s.heap l1).get? y=some o->(zU5 c d s.heap l1 l2).get? y=some o:=fun y o e=>p3 y o (jv _ e);have g5:(zU5 c d s.heap l1 l2).get? (zU4 c d s.heap l1 l2).objs.size=some _:=xa _ rfl;have g4:(zU5 c d s.heap l1 l2).get? (zU3 c d s.heap l1 l2).objs.size=some _:=p1 _ _ (xa _ rfl);have g3:(zU5 c d s.heap l1 l2).get? (zU2 c d s.heap l1 l2).objs.size=some _:=p2 _ _ (xa _ rfl);have g2:(zU5 c d s.heap l1 l2).get? (zI c s.heap l1).objs.size=some _:=p3 _ _ (xa _ rfl);have g1:(zU5 c d s.heap l1 l2).get? s.heap.objs.size=some _:=p4 _ _ (xa _ rfl);show _/\_;rw[z2,z3,z4] at g5;rw[z1,z2] at g3;rw[z3] at g4;rw[z1] at g2;rw[z4];exact⟨⟨_,g5,rfl⟩,h _ g5 g3 g4 (.new g1) (.new g2) fun y o x=>p4 y o (jv _ x)⟩
def xZ(c d:Bool)(K:Fr)(ta:TA):TI:=fun Z H R=>ta Z H fun vs H1=>∃a b,vs=[.ref a,.ref b]/\(∃xs ys,SqA K H1 a xs c/\SqA K H1 b ys d)/\R (aK K a b c d) H1
section
variable{X:Cx}
theorem Xd{c d:Bool}{a b:Expr}{ta:TA}{p pos:Pos}{es:List Expr}{kk:Nat}{tp:Pos}(hg:Gl X "zip")(hm:X.mg "zip"=none)(ha:PA X [a,b] ta)(hs:‹starEach [a,b] X.env=[(false,eval a X.env),(false,eval b X.env)]›)(hs2:‹starEach [b] X.env=[(false,eval b X.env)]›):
 PI X (.Tuple es kk tp) (.Call (.Name "zip" p) [a,b] [] pos) (xZ c d X.K ta):=by
 intro pins s Z H R I h;refine Call_ (Hm I hg hm boot_zip (ki (thn (ha (pos:=pos) pins s Z H _ I h) fun us s1 ⟨vs,H1,I1,r1,q1⟩=>?_) (by rw[hs,hs2]) (by rw[hs2];rfl)));obtain⟨x,y,e,⟨xs,ys,qa,qb⟩,q⟩:=q1;subst e;obtain⟨ia,ra,pa⟩:=I1.seqA qa;obtain⟨ib,rb,pb⟩:=I1.seqA qb;cases r1 with
 | cons r rr=>
  cases rr with
  | cons r' rr=>
   cases rr;cases (show _=Value.ref x from r);cases (show _=Value.ref y from r');refine jy pa pb fun h' hz hTI hTO hi1 hi2 hk=>?_;refine wpAny_pyIter_zip hz ?_;refine⟨_,_,_,_,H1,rfl,I1.kept (t':=s1.toks) fun c o e=>hk c o e,gb _ _ _ _ _ x y (yE pa.lt pb.lt),⟨hz,hTI,⟨_,_,hTO⟩,hi1,hi2⟩,fun c hc=>?_,q⟩;have hcs:s1.heap.objs.size<=c:=by
    simp only[qf,yk,or_false] at hc;rcases hc with rfl | rfl | rfl | rfl | rfl
    ·exact Zp _ _
    ·exact Zp _ _
    ·exact Zp _ _
    ·exact qg _
    ·exact Zp _ _
   exact I1.fpOk hcs (I1.hok.fresh hcs)
end
theorem XR{K:Fr}{ta:TA}{Z:St}{H:Hp}{R:It->Hp->Prop}{c d:Bool}(h:ta Z H fun vs H1=>∃a b,vs=[.ref a,.ref b]/\(∃xs ys,SqA K H1 a xs c/\SqA K H1 b ys d)/\R (aK K a b c d) H1):xZ c d K ta Z H R:=h
theorem qU{K:Fr}{a b:Addr}{c d:Bool}{xs ys:List V}{g:TG}{tb:TS}{D:Ends}{Z:St}{H:Hp}(Pv:Nat->St->Hp->Prop)(h0:Pv 0 Z H)(hl:∀i Z H,i<=min xs.length ys.length->Pv i Z H->SqA K H a xs c/\SqA K H b ys d)
 (hs:∀i x y T Z H,xs[i]?=some x->ys[i]?=some y->H T=none->Pv i Z H->g (.ref T) Z (upd H T (.tup [x,y])) fun σ2 H2=>tb { D with nx:=Pv (i+1),ct:=Pv (i+1),bk:=D.nx } σ2 H2)(hd:∀Z H,Pv (min xs.length ys.length) Z H->D.nx Z H):
 ∃W:Nat->Nat->St->Hp->Prop,(∃m,W 0 m Z H)/\∀i m Z H,W i m Z H->
  ((aK K a b c d).stop i H/\D.nx Z H)\/((aK K a b c d).go i H/\∃N:St->Hp->Prop,(∀Z' H',N Z' H'->∃m',m'<m/\W (i+1) m' Z' H')/\∀x H',(aK K a b c d).yld i H x H'->g x Z H' fun σ2 H2=>tb { D with nx:=N,ct:=N,bk:=D.nx } σ2 H2):=by
 refine⟨fun i m Z H=>m=min xs.length ys.length-i/\i<=min xs.length ys.length/\Pv i Z H,⟨_,rfl,vt _,h0⟩,?_⟩;rintro i m Z H ⟨rfl,hi,p⟩;obtain⟨qa,qb⟩:=hl i Z H hi p;by_cases hlt:i<min xs.length ys.length
 ·have lx:i<xs.length:=⋯
  have ly:i<ys.length:=⋯;refine .inr ⟨⟨xs,ys,xs[i],ys[i],qa,qb,by simp[lx],by simp[ly]⟩,Pv (i+1),fun Z' H' p'=>⟨min xs.length ys.length-(i+1),⋯,rfl,hlt,p'⟩,fun v H' y=>?_⟩;obtain⟨T,x,y,hT,e1,e2,h⟩:=y;subst e1 e2;obtain⟨ex,ey⟩:=h xs ys qa qb;exact hs i x y T Z H ex ey hT p
 ·have e:i=min xs.length ys.length:=⋯
  subst e;exact .inl ⟨⟨xs,ys,qa,qb,rfl⟩,hd Z H p⟩
theorem Ot{M:Model}{Γ:PySem.Ctx}{p:Pos}{t:Sem Fin}{fs:List Frame}{s s':Shared}{e:End}(h:Runs M Γ p t fs s e s'):s.toks<=s'.toks:=by
 induction h<;>(try simp only[Shared.setGen] at *)<;>lia
theorem aO{M:Model}{Γ:PySem.Ctx}{p:Pos}{g:Nat}{r:Resume}{s s':Shared}{x:GenResult}(h:Wakes M Γ p g r s x s'):s.toks<=s'.toks:=by
 unfold Wakes at h;split at h
 ·exact h.elim
 ·split at h
  ·obtain⟨_,_,h,_,_,rfl⟩:=h;have:=Ot h;exact this
  ·rw[h.2];exact qg _
  ·rw[h.2];exact qg _
 ·obtain⟨_,_,h,_,_,rfl⟩:=h;have:=Ot h;exact this
 ·rw[h.2];exact qg _
 ·rw[h.2];exact qg _
theorem wp_toks{α:Type}{M:Model}{Γ:PySem.Ctx}{Q:α->Pos->Shared->Prop}{E:Value->Pos->Shared->Prop}{n:Nat}(t:Sem α):∀{p:Pos} {s:Shared},n<=s.toks->Sem.wp M Γ t Q E p s->Sem.wp M Γ t (fun a p' s'=>Q a p' s'/\n<=s'.toks) (fun e p' s'=>E e p' s'/\n<=s'.toks) p s:=by
 induction t<;>intro p s hn h<;>rw[Sem.wp] at h ⊢
 all_goals first
  | exact⟨h,hn⟩
  | exact h
  | (rename_i ih;exact ih _ hn h)
  | (rename_i ih;exact ih _ (Nat.le_succ_of_le hn) h)
  | (rename_i ih;exact⟨h.1,ih _ hn h.2⟩)
  | (rename_i ih;obtain⟨o,h1,h2⟩:=h;exact⟨o,h1,ih _ hn h2⟩)
  | (rename_i ih;obtain⟨r,s1,h1,h2⟩:=h;exact⟨r,s1,h1,ih _ (qr hn (Ot h1)) h2⟩)
  | (rename_i ih;obtain⟨r,s1,h1,h2⟩:=h;exact⟨r,s1,h1,ih _ (qr hn (aO h1)) h2⟩)
theorem wpAny_toks{α:Type}{M:Model}{A:Around}{t:Sem α}{Q:α->Shared->Prop}{E:Value->Shared->Prop}{s:Shared}{n:Nat}(hn:n<=s.toks)(h:wpAny M A t Q E s):wpAny M A t (fun a s'=>Q a s'/\n<=s'.toks) (fun e s'=>E e s'/\n<=s'.toks) s:=fun Γ p hΓ =>wp_toks t hn (h Γ p hΓ)
theorem GX{α:Type}{M:Model}{A:Around}{t:Sem α}{Q:α->Shared->Prop}{E:Value->Shared->Prop}{s:Shared}{n:Nat}(hn:n<=s.toks)(h:wpAny M A t Q E s):wpAny M A t (fun a s'=>Q a s'/\n<=s'.toks) E s:=Qb (wpAny_toks hn h) (fun _ _ z=>z) fun _ _ z=>z.1
def PEp(X:Cx)(e:Expr)(t:TE):Prop:=
 ∀ ⦃pins:List (Addr×Obj)⦄ (s:Shared) (Z:St) (H:Hp) (Q:VK),1<=s.toks->Inv X pins Z H s->t Z H Q->wpAny (model X.prog X.w) X.A (eval e X.env) (EP X pins Z Q) X.xe s
def PTp(X:Cx)(e:Expr)(t:TT):Prop:=
 ∀ ⦃pins:List (Addr×Obj)⦄ (s:Shared) (Z:St) (H:Hp) (Q:Bool->Hp->Prop),1<=s.toks->Inv X pins Z H s->t Z H Q->wpAny (model X.prog X.w) X.A (isTrue e X.env (eval e X.env)) (TP X pins Z Q) X.xe s
def PWp(X:Cx)(e:Expr)(t:TT):Prop:=
 ∀ ⦃whole:Sem Value⦄ (pins:List (Addr×Obj)) (s:Shared) (Z:St) (H:Hp) (Q:Bool->Hp->Prop),1<=s.toks->Inv X pins Z H s->t Z H Q->wpAny (model X.prog X.w) X.A (isTrue e X.env whole) (TP X pins Z Q) X.xe s
def PSp(X:Cx)(st:Stmt)(t:TS):Prop:=
 ∀ ⦃pins:List (Addr×Obj)⦄ (s:Shared) (Z:St) (H:Hp) (D:Ends),1<=s.toks->Inv X pins Z H s->t D Z H->wpAny (model X.prog X.w) X.A (exec st X.env) (SP X pins D) X.xe s
def Vn(X:Cx)(st:List Stmt)(t:TS):Prop:=
 ∀ ⦃pins:List (Addr×Obj)⦄ (s:Shared) (Z:St) (H:Hp) (D:Ends),1<=s.toks->Inv X pins Z H s->t D Z H->wpAny (model X.prog X.w) X.A (execs st X.env) (SP X pins D) X.xe s
def PS0(X:Cx)(st:Stmt)(t:TS):Prop:=
 ∀ ⦃pins:List (Addr×Obj)⦄ (s:Shared) (Z:St) (H:Hp) (D:Ends),Inv X pins Z H s->t D Z H->wpAny (model X.prog X.w) X.A (exec st X.env) (fun f s'=>SP X pins D f s'/\1<=s'.toks) X.xe s
section
variable{X:Cx}{a b e o:Expr}{es rest:List Expr}{ta tb te to:TE}{tA tB':TT}{t u:TS}{st:Stmt}{sts:List Stmt}{pos apos cpos:Pos}
theorem PE.p(h:PE X e te):PEp X e te:=fun _ s Z H Q _=>h s Z H Q
theorem PT.p{tc:TT}(h:PT X e tc):PTp X e tc:=fun _ s Z H Q _=>h s Z H Q
theorem PS.p(h:PS X st t):PSp X st t:=fun _ s Z H D _=>h s Z H D
theorem PSs.p(h:PSs X sts t):Vn X sts t:=fun _ s Z H D _=>h s Z H D
theorem Ck(h1:PSp X st t)(h2:Vn X sts u):Vn X (st::sts) (lV t u):=by
 intro pins s Z H D hp I h;refine jk6 (thn (GX hp (h1 s Z H { D with nx:=u D } hp I h)) fun f s1 hZ=>?_);obtain⟨q,hp1⟩:=hZ;cases f with
 | next=>
  obtain⟨Z',H',I',q⟩:=q;exact h2 s1 Z' H' D hp1 I' q
 | ret v=>exact q
 | brk=>exact q
 | cont=>exact q
theorem ZV(h1:PSp X st t):Vn X [st] t:=by
 intro pins s Z H D hp I h;refine jk6 (thn (h1 s Z H D hp I h) fun f s1 q=>?_);cases f with
 | next=>exact jm2 q
 | ret v=>exact q
 | brk=>exact q
 | cont=>exact q
theorem iw(h1:PS0 X st t)(h2:Vn X sts u):PSs X (st::sts) (lV t u):=by
 intro pins s Z H D I h;refine jk6 (thn (h1 s Z H { D with nx:=u D } I h) fun f s1 hZ=>?_);obtain⟨q,hp1⟩:=hZ;cases f with
 | next=>
  obtain⟨Z',H',I',q⟩:=q;exact h2 s1 Z' H' D hp1 I' q
 | ret v=>exact q
 | brk=>exact q
 | cont=>exact q
theorem uq(i:Nat){x:Str}{op:Operator}{r:R2}{n:Int}{j:Option Str}{pos' pn pb:Pos}{k:Nat}(ho:OpR X (binaryOp op) r)(hb:PE X b tb)(hN:X.N.Nodup:=by assumption)(hi:X.N[i]?=some x:=by exact rfl)(hx:Loc X.env.scope x:=by walk_at"o")(hs:‹swapsWith (.BinOp (.Constant (.int n) k pn) op b pb) (some (.Name x pos')) pos.line X.env=pure false›)(hf:X.fn x=true\/X.env.scope.names.lookup x=some .local:=by first | exact .inl rfl | exact .inr rfl | assumption):
 PS0 X (.Assign [.Name x pos'] (.BinOp (.Constant (.int n) k pn) op b pb) pos) (aZ (tOp r (tC (.int n)) tb) (HR i)):=by
 intro pins s Z H D I h;have key:wpAny (model X.prog X.w) X.A (eval (.BinOp (.Constant (.int n) k pn) op b pb) X.env) (fun v s'=>EP X pins Z (fun v H'=>HR i v Z H' D.nx) v s'/\1<=s'.toks) X.xe s:=by
  refine wpAny_BinOp ?_;refine wpAny_Constant_int ?_;refine thn (GX (n:=1) (ju4 (vt _)) (hb _ Z H _ (I.tok _) h)) fun u s2 ⟨⟨y,H2,I2,r2,q2⟩,hp⟩=>?_;exact GX hp (ho pins s2 Z H2 (.int n) y _ u _ I2 ⟨_,rfl⟩ r2 q2)
 refine js7 (thn key fun v s1 ⟨⟨y,H1,I1,r1,q1⟩,hp⟩=>?_) hs;exact GX hp (Iv I1 hN hi hx r1 (fun s2 I2=>⟨_,H1,I2,q1⟩) hf)
theorem ug(i:Nat){x:Str}{e:Expr}{te:TE}{pos':Pos}(he:PEp X e te)(hN:X.N.Nodup:=by assumption)(hi:X.N[i]?=some x:=by exact rfl)(hx:Loc X.env.scope x:=by walk_at"o")(hs:‹swapsWith e (some (.Name x pos')) pos.line X.env=pure false›)(hf:X.fn x=true\/X.env.scope.names.lookup x=some .local:=by first | exact .inl rfl | exact .inr rfl | assumption):
 PSp X (.Assign [.Name x pos'] e pos) (aZ te (HR i)):=by
 intro pins s Z H D hp I h;refine js7 (thn (he s Z H _ hp I h) fun v s1 hZ=>?_) hs;obtain⟨y,H1,I1,r1,q1⟩:=hZ;exact Iv I1 hN hi hx r1 (fun s2 I2=>⟨_,H1,I2,q1⟩) hf
theorem uh(he:PEp X e te):PSp X (.Return (some e) pos) (yN te):=by
 intro pins s Z H D hp I h;exact wpAny_Return_some (thn (he s Z H _ hp I h) fun v s1 ⟨x,H1,I1,r1,q1⟩=>⟨x,Z,H1,I1,r1,q1⟩)
theorem oK{c:Expr}{as bs:List Stmt}{tc:TT}(hc:PTp X c tc)(ha:PSs X as t)(hb:PSs X bs u):PSp X (.If c as bs pos) (yP tc t u):=by
 intro pins s Z H D hp I h;refine wpAny_If (thn (hc s Z H _ hp I h) fun d s1 hZ=>?_);obtain⟨H1,I1,q1⟩:=hZ;cases d with
 | true=>exact ha s1 Z H1 D I1 q1
 | false=>exact hb s1 Z H1 D I1 q1
theorem PWp.pt{tc:TT}(h:PWp X e tc):PTp X e tc:=fun pins=>@h _ pins
theorem oJ(ha:PTp X a tA):PWp X (.BoolOp .And [a] pos) tA:=by
 intro wh pins s Z H Q hp I h;refine isTrue_and (thn (ha s Z H Q hp I h) fun c s1 e=>?_);cases c with
 | true=>exact isTrue_and_nil e
 | false=>exact e
theorem ue(ha:PTp X a tA):PWp X (.BoolOp .Or [a] pos) tA:=by
 intro wh pins s Z H Q hp I h;refine isTrue_or (thn (ha s Z H Q hp I h) fun c s1 e=>?_);cases c with
 | false=>exact isTrue_or_nil e
 | true=>exact e
theorem uf(ha:PTp X a tA)(hb:PWp X (.BoolOp .And (b::rest) pos) tB'):PWp X (.BoolOp .And (a::b::rest) pos) (yU tA tB'):=by
 intro wh pins s Z H Q hp I h;refine isTrue_and (thn (GX hp (ha s Z H _ hp I h)) fun c s1 ⟨⟨H1,I1,q1⟩,hp1⟩=>?_);cases c with
 | true=>exact hb (whole:=wh) pins s1 Z H1 Q hp1 I1 q1
 | false=>exact⟨H1,I1,q1⟩
theorem zc(ha:PTp X a tA)(hb:PWp X (.BoolOp .Or (b::rest) pos) tB'):PWp X (.BoolOp .Or (a::b::rest) pos) (tOr tA tB'):=by
 intro wh pins s Z H Q hp I h;refine isTrue_or (thn (GX hp (ha s Z H _ hp I h)) fun c s1 ⟨⟨H1,I1,q1⟩,hp1⟩=>?_);cases c with
 | true=>exact⟨H1,I1,q1⟩
 | false=>exact hb (whole:=wh) pins s1 Z H1 Q hp1 I1 q1
theorem ACp(ha:PEp X a ta)(hb:PEp X b tb){pins:List (Addr×Obj)}{s:Shared}{Z:St}{H:Hp}{R:V->V->Hp->Prop}(hp:1<=s.toks)(I:Inv X pins Z H s)
 (h:ta Z H fun x H1=>tb Z H1 fun y H2=>R x y H2){Q:Value->Shared->Prop}{f:Value->Value->Sem Value}
 (hf:∀v u s2 x y H2,Inv X pins Z H2 s2->RelV x v->RelV y u->R x y H2->wpAny (model X.prog X.w) X.A (f v u) Q X.xe s2):
 wpAny (model X.prog X.w) X.A (eval a X.env) (fun v s₁=>wpAny (model X.prog X.w) X.A (eval b X.env) (fun u s₂=>wpAny (model X.prog X.w) X.A (f v u) Q X.xe s₂) X.xe s₁) X.xe s:=by
 refine thn (GX hp (ha s Z H _ hp I h)) fun v s1 ⟨⟨x,H1,I1,r1,q1⟩,hp1⟩=>?_;refine thn (hb s1 Z H1 _ hp1 I1 q1) fun u s2 hZ=>?_;obtain⟨y,H2,I2,r2,q2⟩:=hZ;exact hf v u s2 x y H2 I2 r1 r2 q2
theorem oX{op:CmpOp}{r:R2}(ho:OpR X (compareOp op) r)(ha:PEp X a ta)(hb:PEp X b tb)(hm:behindInMarks op b=false):PEp X (.Compare a [op] [b] pos) (tOp r ta tb):=by
 intro pins s Z H Q hp I h;exact wpAny_Compare1 (ACp ha hb hp I h fun v u s2 x y H2 I2 rx ry q=>ho pins s2 Z H2 x y v u Q I2 rx ry q) hm
theorem ZR{op:CmpOp}{r:R2}(ho:OpR X (compareOp op) r)(ha:PEp X a ta)(hb:PEp X b tb)(hm:behindInMarks op b=false):PTp X (.Compare a [op] [b] pos) (lU (tOp r ta tb)):=by
 intro pins s Z H Q hp I h;refine jo4 (ACp ha hb hp I h fun v u s2 x y H2 I2 rx ry q=>thn (ho pins s2 Z H2 x y v u _ I2 rx ry q) fun c s3 hZ=>?_) hm;obtain⟨z,H3,I3,r3,k,e,q3⟩:=hZ;subst e;cases r3;exact jc1 ⟨H3,I3,q3⟩
def wy(y z:Str)(to:TE):TE:=fun Z H Q=>to Z H fun x H1=>∃w,x=.str w/\w.length<=1048576/\Q (.str (Txt.replace w y z)) H1
theorem ZX{y z:Str}{j k:Nat}{p1 p2:Pos}(ho:PEp X o to)(hyz:(y==z)=false:=by ac_rfl)(hz:z.length<=14:=by ac_rfl)
 (hbase:‹attributeBase o "replace" X.env (eval o X.env)=eval o X.env›)
 (hfew:‹((backTo cpos (starEach [.Constant (.str y) j p1,.Constant (.str z) k p2] X.env)).all (fun x=>!x.1)&&(backToKw cpos (keywordEach [] X.env)).all (fun x=>x.1.isSome)
  &&decide (([.Constant (.str y) j p1,.Constant (.str z) k p2]:List Expr).length+([]:List Keyword).length+(if ([]:List Keyword).isEmpty then 0 else 1)<30))=true›)
 (hline:‹(apos.endLine==cpos.line)=true›):PEp X (.Call (.Attribute o "replace" apos) [.Constant (.str y) j p1,.Constant (.str z) k p2] [] cpos) (wy y z to):=by
 intro pins s Z H Q hp I h;refine jm9 hbase hfew hline rfl (thn (GX hp (ho s Z H _ hp I h)) fun v s1 ⟨⟨x,H1,I1,r1,w,e,hw,q1⟩,hp1⟩=>?_);subst e;obtain⟨h1,h2⟩:=Wm (T:="str") I1 r1 rfl;obtain⟨tk,rfl⟩:=r1;refine⟨"str","str.replace",vc,PySem.F.slot_str_replace,PySem.F.type_str_replace,h1,h2,?_⟩;refine Calls.callWith_builtin rfl (Calls.evalArgs_plain ?_);show wpAny _ _ (spliced [(false,eval (.Constant (.str y) j p1) X.env),(false,eval (.Constant (.str z) k p2) X.env)]) _ _ s1;refine Calls.spliced_cons (Calls.Constant_str (Calls.spliced_cons (Calls.Constant_str (Calls.spliced_nil ?_))));exact SC.replaceW (jr3 hp1) (Nat.succ_ne_zero _) (vv (jo6 _)) hyz hw hz fun t' k'=>⟨.str _,H1,(I1.tok _),⟨_,rfl⟩,q1⟩
end
theorem Vn.nox{X:Cx}{st:List Stmt}{t:TS}(h:Vn X.nox st t):Vn X st t:=fun pins s Z H D hp I hw=>
 Qb (h s Z H D hp (I.wish _) hw) (fun _ _ q=>q.unwish) fun _ _ z=>False.elim z
def wZ(P:Program)(w:World)(K:Fr)(mg:Str->Option Value)(base:Heap)(k:Nat)(x:Str)(ps:List Str)(sp:Sp):Prop:=∃(f:Addr) (fd:FuncData),(∀vs H Q E,sp vs H Q E->vs.length=ps.length)/\
 (∀(A:Around) (outer:List Env) (s:Shared) (H:Hp) (args:Args) (us:List Value) (vs:List V) (Q:VK) (E:XK),1<=s.toks->Cv k A->Ux P w K mg base A outer s H->BindsTo s fd args (ps.zip us)->Vals vs us->sp vs H Q E->
  codeAny (model P w) A (.call (.ref f) args) (CR CX0 outer P w H s Q E) s)/\Binds K fd ps []/\PySem.W.keepIn K (.ref f)=true/\mg x=some (.ref f)
theorem wC{P:Program}{w:World}{K:Fr}{h:Heap}{mg:Str->Option Value}{base:Heap}{g n qual:Str}{st:Stmt}{N ps:List Str}{k:Nat}{sp:Sp}(X:K.In h)(G:h.Ns mainGlobals mg)(Q:FnG K g n qual st)(b:Gw n qual st ps)(S:CZ N ps (Az st))(len:∀{vs H Q E},sp vs H Q E->vs.length=ps.length)
 (hbody:∀{f:Addr} {cdv:Value} {A:Around} {outer:List Env} {s:Shared} (nd:N.Nodup) (H:Hp) (vs:List V) (Q:VK) (E:XK),Cv k (A.deeper (envOfC qual (Az st) s.heap.objs.size f cdv))->sp vs H Q E->
  ∃t,Vn (Qs CX0 P w K mg base N qual (Az st) f cdv A outer s H E).nox (Cz st) t/\t { nx:=fun _ H'=>Q .non H',rt:=Q } (start N vs) H):wZ P w K mg base (k+1) g ps sp:=by
 obtain⟨f,fd,a,F⟩:=Q;refine⟨f,fd,fun _ _ _ _=>len,fun A outer s H args us vs Q E hp hr e0 hb r hsp=>?_,F.binds b,F.kp,jg1 X G a⟩;obtain⟨oc,od,kV,doc,pm,an,cdv,ct,osl,rfl,lk,hcd⟩:=F.ex;have KX:K.In s.heap:=e0.mod.kin.keeps fun b o e=>(e0.bs b o e).1;have hkind:∀y∈ps.zip us,(Az st).names.lookup y.1=some .local\/((Az st).names.lookup y.1=some .cell/\((cellsFrom (s.heap.objs.size+1) (Az st).names []).lookup y.1).isSome=true):=fun⟨n,v⟩ hy=>by
  rcases S.par n (jp6 hy).1 with q | q
  ·exact .inl q
  ·exact .inr ⟨q,jm8 _ _ _ (.inl q)⟩
 refine codeAny_call_function hr.depth (KX _ _ lk) rfl S.co S.gen rfl (PySem.W.codeRec_of KX hcd) (hb _ _ _ _ ?_);refine Qb (GX hp (wpAny_newFunctionEnv_cells (Q:=fun env s1=>env=envOfC qual (Az st) s.heap.objs.size f cdv/\InCallC s env.locals (bindL env.kindOf (ps.zip us) fun _=>none) env.cells (bindC env.kindOf (ps.zip us) fun _=>none) s1) S.kind hkind fun env he s1 x=>⟨he,x⟩)) (fun env s1 z=>?_) fun _ _ z=>z;obtain⟨⟨he,x⟩,hp1⟩:=z;subst he;refine⟨(e0.mod.nolimit.keeps fun b o e=>(e0.bs b o e).1).keeps x.toInCall.keep,codeAny_func ?_⟩;obtain⟨t,ht,hq⟩:=hbody (outer:=outer) S.nd H vs Q E (hr.deeper _) hsp;refine Qb (ht.nox s1 (start N vs) H _ hp1 (V8 S hr.hd e0 (len hsp) r x) hq) (fun fl s' hs=>?_) fun e s' hs=>hs;cases fl with
 | ret u=>
  obtain⟨v,Z',H',J,rv,q⟩:=hs;exact⟨v,H',J.os,J.bare,J.base,J.hok,rv,q⟩
 | next=>
  obtain⟨Z',H',J,q⟩:=hs;exact⟨.non,H',J.os,J.bare,J.base,J.hok,rfl,q⟩
 | brk=>
  obtain⟨_,_,_,q⟩:=hs;exact False.elim q
 | cont=>
  obtain⟨_,_,_,q⟩:=hs;exact False.elim q
section
variable{X:Cx}{CX:CXT}{k:Nat}{f:Addr}{fd:FuncData}{ps:List Str}{sp:Sp}{ds:List Value}{dvs:List V}{E:XK}{x:Str}{e:Expr}{es:List Expr}{t:TA}{p pos apos cpos:Pos}
def mD(sp:Sp)(te:TE):TE:=fun Z H Q=>te Z H fun v H1=>sp [v] H1 Q E0
theorem M6{te:TE}(C:wZ X.prog X.w X.K X.mg X.base k x ps sp)(ha:PEp X e te)(hr:Cv k X.A:=by walk_at"hr")(hg:Gl X x:=by exact rfl)
 (hdb:(x==("__debug__":Str))=false:=by decide)(he:‹starEach (e::[]) X.env=(false,eval e X.env)::starEach [] X.env›):
 PEp X (.Call (.Name x p) [e] [] pos) (mD sp te):=by
 intro pins s Z H Q hp I h;obtain⟨f,fd,len,F,b,kp,m⟩:=C;refine ja1 (Qb (GX hp (JX (Q:=fun v s1=>v=.ref f/\s1=s) I hg m ⟨rfl,rfl⟩ hdb)) (fun v s1 z=>?_) fun _ _ z=>z);obtain⟨⟨rfl,rfl⟩,hp1⟩:=z;refine jc5 (h₀:=X.base) I.ok.mod.kin kp ?_ he rfl;rw[he];show wpAny _ _ (spliced ((false,eval e X.env)::backTo pos (starEach [] X.env))) _ _ _;refine Calls.spliced_cons (thn (GX hp1 (ha _ Z H _ hp1 I h)) fun u s1 ⟨⟨v,H1,I1,r1,q1⟩,hp2⟩=>Calls.spliced_nil ⟨I1.kIn,?_⟩);refine js8 (jj0 (F X.A X.stack s1 H1 ⟨[u],[]⟩ ([u]++[]) [v] Q E0 hp2 hr I1.env0 (b s1 [u] I1.kIn (len _ _ _ _ q1)) (.cons r1 .nil) q1) fun r s' hq=>?_);cases r with
 | error e=>exact(hq:False).elim
 | ok fl=>
  cases fl with
  | ret u=>exact I1.after hq
  | next=>exact False.elim hq
  | brk=>exact False.elim hq
  | cont=>exact False.elim hq
theorem zu{o:Expr}{to:TE}{T id:String}{name:Str}{r:V->List V->Hp->VK->Prop}(pa:PlainAttrs T)(slot:Slot T name id)(hty:typeOf (.builtin id)=pure (.type "method_descriptor"))(hm:MtR X id r)(ho:PEp X o to)(ha:PA X (e::es) t)
 (hbase:‹attributeBase o name X.env (eval o X.env)=eval o X.env›)
 (hfew:‹((backTo cpos (starEach (e::es) X.env)).all (fun x=>!x.1)&&(backToKw cpos (keywordEach [] X.env)).all (fun x=>x.1.isSome)
  &&decide ((e::es).length+([]:List Keyword).length+(if ([]:List Keyword).isEmpty then 0 else 1)<30))=true›)
 (hline:‹(apos.endLine==cpos.line)=true›)(hs:‹starEach (e::es) X.env=(false,eval e X.env)::starEach es X.env›)(hplain:‹(backTo cpos (starEach es X.env)).any (·.1)=false›):
 PEp X (.Call (.Attribute o name apos) (e::es) [] cpos) (tBM X.K T r to t):=by
 intro pins s Z H Q hp I h;refine jm9 hbase hfew hline rfl (thn (ho s Z H _ hp I h) fun v s1 hZ=>?_);obtain⟨x,H1,I1,r1,ty,q1⟩:=hZ;obtain⟨h1,h2⟩:=Wm I1 r1 ty;refine⟨T,id,pa,slot,hty,h1,h2,?_⟩;have hA:=ha (pos:=cpos) pins s1 Z H1 _ I1 q1;rw[hs] at hA ⊢;refine Calls.callWith_builtin (by show(false||(backTo cpos (starEach es X.env)).any (·.1))=false;rw[hplain]<;>rfl) (Calls.evalArgs_plain ?_);exact thn hA fun us s2 ⟨vs,H2,I2,r2,q2⟩=>hm pins s2 Z H2 x vs v us Q I2 r1 r2 q2
end
end L2
local macro_rules | `(tactic| fail "l")=> `(tactic| (intro _ _ _ _ h;(repeat (cases h;rename_i h));subst_vars;rfl))
local macro_rules | `(tactic| fail "v")=> `(tactic| ((with_reducible refine' L2.MK ?ev ?_);(case ev=>exact rfl)))
local macro_rules | `(tactic| fail "d")=> `(tactic| (refine' (?fw:L2.Vw _ _) ?pw ?xw;(case pw=>intro h;(repeat1' (first | with_reducible refine L2.Stp.go ?_ | fail "v"));exact h);(case fw=>exact fun _ x=>x)))
local macro_rules | `(tactic| fail"r")=> `(tactic| first | fail"d" | (with_reducible first | refine L2.ACN ?_ | refine L2.ADZ ?_) | ((with_reducible refine' L2.ACO ?es ?_);(case es=>exact rfl)) | ((with_reducible refine' L2.ACM ?es ?_);(case es=>exact rfl)) | (with_reducible first | refine L2.Vz ?_ | refine L2.zX ?_ | refine L2.oG ?_ | refine L2.oA ?_ | refine L2.uV ?_) | ((with_reducible refine' L2.Dj ?ec ?_);(case ec=>first | ((with_reducible show L2.ADJ _ _);exact⟨by decide,by decide,by decide⟩) | ((with_reducible show L2.rR _ _);exact L2.En (by decide) (by decide)) | (show (0:Int)<_;first | decide | lia))))
local macro_rules | `(tactic| symm)=> `(tactic| repeat fail "r")
local macro_rules | `(tactic| walk_at"fm")=> `(tactic| (repeat (first | exact List.forall_mem_nil _ | refine List.forall_mem_cons.mpr ⟨by with_unfolding_all rfl,?_⟩)))
local macro_rules | `(tactic| walk_at"f")=> `(tactic| ((with_reducible refine L2.JS ?_);(with_reducible first | refine L2.J4 ?_ | refine L2.xP ?_ | refine L2.XX ?_ | refine L2.XS ?_)))
namespace Fw
inductive Ex2{T0 T1:Type}(p:T0->T1->Prop):Prop where
 | i (x0:T0) (x1:T1) (h:p x0 x1):Ex2 p
inductive Ex3{T0 T1 T2:Type}(p:T0->T1->T2->Prop):Prop where
 | i (x0:T0) (x1:T1) (x2:T2) (h:p x0 x1 x2):Ex3 p
inductive Ex4{T0 T1 T2 T3:Type}(p:T0->T1->T2->T3->Prop):Prop where
 | i (x0:T0) (x1:T1) (x2:T2) (x3:T3) (h:p x0 x1 x2 x3):Ex4 p
inductive Ex5{T0 T1 T2 T3 T4:Type}(p:T0->T1->T2->T3->T4->Prop):Prop where
 | i (x0:T0) (x1:T1) (x2:T2) (x3:T3) (x4:T4) (h:p x0 x1 x2 x3 x4):Ex5 p
inductive Ex6{T0 T1 T2 T3 T4 T5:Type}(p:T0->T1->T2->T3->T4->T5->Prop):Prop where
 | i (x0:T0) (x1:T1) (x2:T2) (x3:T3) (x4:T4) (x5:T5) (h:p x0 x1 x2 x3 x4 x5):Ex6 p
inductive Ex7{T0 T1 T2 T3 T4 T5 T6:Type}(p:T0->T1->T2->T3->T4->T5->T6->Prop):Prop where
 | i (x0:T0) (x1:T1) (x2:T2) (x3:T3) (x4:T4) (x5:T5) (x6:T6) (h:p x0 x1 x2 x3 x4 x5 x6):Ex7 p
inductive Ex8{T0 T1 T2 T3 T4 T5 T6 T7:Type}(p:T0->T1->T2->T3->T4->T5->T6->T7->Prop):Prop where
 | i (x0:T0) (x1:T1) (x2:T2) (x3:T3) (x4:T4) (x5:T5) (x6:T6) (x7:T7) (h:p x0 x1 x2 x3 x4 x5 x6 x7):Ex8 p
inductive Ex9{T0 T1 T2 T3 T4 T5 T6 T7 T8:Type}(p:T0->T1->T2->T3->T4->T5->T6->T7->T8->Prop):Prop where
 | i (x0:T0) (x1:T1) (x2:T2) (x3:T3) (x4:T4) (x5:T5) (x6:T6) (x7:T7) (x8:T8) (h:p x0 x1 x2 x3 x4 x5 x6 x7 x8):Ex9 p
inductive ABV{T0 T1 T2 T3 T4 T5 T6 T7 T8 T9:Type}(p:T0->T1->T2->T3->T4->T5->T6->T7->T8->T9->Prop):Prop where
 | i (x0:T0) (x1:T1) (x2:T2) (x3:T3) (x4:T4) (x5:T5) (x6:T6) (x7:T7) (x8:T8) (x9:T9) (h:p x0 x1 x2 x3 x4 x5 x6 x7 x8 x9):ABV p
inductive An3(p0 p1 p2:Prop):Prop where
 | i (h0:p0) (h1:p1) (h2:p2):An3 p0 p1 p2
inductive An4(p0 p1 p2 p3:Prop):Prop where
 | i (h0:p0) (h1:p1) (h2:p2) (h3:p3):An4 p0 p1 p2 p3
inductive An5(p0 p1 p2 p3 p4:Prop):Prop where
 | i (h0:p0) (h1:p1) (h2:p2) (h3:p3) (h4:p4):An5 p0 p1 p2 p3 p4
inductive An6(p0 p1 p2 p3 p4 p5:Prop):Prop where
 | i (h0:p0) (h1:p1) (h2:p2) (h3:p3) (h4:p4) (h5:p5):An6 p0 p1 p2 p3 p4 p5
inductive An7(p0 p1 p2 p3 p4 p5 p6:Prop):Prop where
 | i (h0:p0) (h1:p1) (h2:p2) (h3:p3) (h4:p4) (h5:p5) (h6:p6):An7 p0 p1 p2 p3 p4 p5 p6
inductive An8(p0 p1 p2 p3 p4 p5 p6 p7:Prop):Prop where
 | i (h0:p0) (h1:p1) (h2:p2) (h3:p3) (h4:p4) (h5:p5) (h6:p6) (h7:p7):An8 p0 p1 p2 p3 p4 p5 p6 p7
inductive An9(p0 p1 p2 p3 p4 p5 p6 p7 p8:Prop):Prop where
 | i (h0:p0) (h1:p1) (h2:p2) (h3:p3) (h4:p4) (h5:p5) (h6:p6) (h7:p7) (h8:p8):An9 p0 p1 p2 p3 p4 p5 p6 p7 p8
inductive ABb(p0 p1 p2 p3 p4 p5 p6 p7 p8 p9:Prop):Prop where
 | i (h0:p0) (h1:p1) (h2:p2) (h3:p3) (h4:p4) (h5:p5) (h6:p6) (h7:p7) (h8:p8) (h9:p9):ABb p0 p1 p2 p3 p4 p5 p6 p7 p8 p9
inductive ABa(p0 p1 p2 p3 p4 p5 p6 p7 p8 p9 p10:Prop):Prop where
 | i (h0:p0) (h1:p1) (h2:p2) (h3:p3) (h4:p4) (h5:p5) (h6:p6) (h7:p7) (h8:p8) (h9:p9) (h10:p10):ABa p0 p1 p2 p3 p4 p5 p6 p7 p8 p9 p10
theorem Mf(r d:Int)(hd:d≠0):0<=r.fmod d*d/\(r.fmod d).natAbs<d.natAbs:=by
 rcases(by omega:0<d\/d<0) with h | h
 ·have a:=jm5 r h;have b:=Int.fmod_lt_of_pos r h;exact⟨jh7 a (jd5 h),by omega⟩
 ·have e:r.fmod d= -((-r).fmod (-d)):=by
   rw[Int.fmod_def,Int.fmod_def,Int.neg_fdiv_neg,jw5];omega
  have a:=jm5 (-r) (b:= -d) (by omega);have b:=Int.fmod_lt_of_pos (-r) (b:= -d) (by omega);rw[e];generalize (-r).fmod (-d)=z at*
  refine⟨?_,by omega⟩;have:=jh7 a (show 0<= -d by omega);rw[jw5];rw[Int.mul_neg] at this;omega
structure EqI(a b u v r u' v' r':Int):Prop where
 e1:u*a+v*b=r
 e2:u'*a+v'*b=r'
 g:Int.gcd r r'=Int.gcd a b
 ph:(u=1/\v=0/\r=a/\u'=0/\v'=1/\r'=b)\/
  (b≠0/\r≠0/\0<=r'*r/\r.natAbs<=b.natAbs/\r'.natAbs<=b.natAbs/\u'.natAbs*r.natAbs+u.natAbs*r'.natAbs<=b.natAbs/\u.natAbs<=b.natAbs+1)
theorem EqI.start(a b:Int):EqI a b 1 0 a 0 1 b:=⟨⋯,⋯,rfl,.inl ⟨rfl,rfl,rfl,rfl,rfl,rfl⟩⟩
theorem KH(u q x:Int):(u-q*x).natAbs<=u.natAbs+q.natAbs*x.natAbs:=by
 have h:=Int.natAbs_sub_le u (q*x);rw[jn4] at h;exact h
variable{r:Int}
theorem Rn{d:Int}(hd:d≠0)(hs:0<=d*r):(r-r.fdiv d*d).natAbs+(r.fdiv d).natAbs*d.natAbs=r.natAbs:=by
 have e:r.fmod d+r.fdiv d*d=r:=jn6 r d;have e2:r-r.fdiv d*d=r.fmod d:=by omega
 rw[e2,<-jn4];have fs:=Mf r d hd;rcases(by omega:0<d\/d<0) with h | h
 ·have r0:0<=r:=by
   rcases(by omega:0<=r\/r<0) with z | z
   ·exact z
   ·have:=jr6 h z;omega
  have q0:0<=r.fdiv d:=Int.fdiv_nonneg r0 (jd5 h);have a:=jm5 r h;have p:=jh7 q0 (jd5 h);omega
 ·have r0:r<=0:=by
   rcases(by omega:r<=0\/0<r) with z | z
   ·exact z
   ·have:=Int.mul_neg_of_neg_of_pos h z;omega
  have q0:0<=r.fdiv d:=Int.fdiv_nonneg_of_nonpos_of_nonpos r0 (jd5 h);have a:r.fmod d<=0:=by
   rcases(by omega:r.fmod d<=0\/0<r.fmod d) with z | z
   ·exact z
   ·have:=jr6 z h;omega
  have p:=jh7 q0 (show 0<= -d by omega);rw[Int.mul_neg] at p;omega
variable{a:Int}
theorem EqI.step{b u v u' v' r':Int}(I:EqI a b u v r u' v' r')(h:r'≠0):
 EqI a b u' v' r' (u-r.fdiv r'*u') (v-r.fdiv r'*v') (r-r.fdiv r'*r')/\(r-r.fdiv r'*r').natAbs<r'.natAbs:=by
 have e:r.fmod r'+r.fdiv r'*r'=r:=jn6 r r';have e2:r-r.fdiv r'*r'=r.fmod r':=⋯;have fs:=Mf r r' h;refine⟨⟨I.e2,?_,?_,?_⟩,by rw[e2];exact fs.2⟩
 ·have:=I.e1;have:=I.e2
  grind
 ·rw[Int.gcd_sub_mul_right_right,Int.gcd_comm];exact I.g
 ·right;rcases I.ph with ⟨h1,h2,h3,h4,h5,h6⟩ | ⟨hb,hr,hs,l1,l2,l3,l4⟩
  ·subst h1 h2 h3 h4 h5 h6;refine⟨h,h,by rw[e2];exact fs.1,qg _,by rw[e2];lia,?_,by simp⟩;simp
  ·have q:=Rn h hs;refine⟨hb,h,by rw[e2];exact fs.1,l2,by rw[e2];lia,?_,?_⟩
   ·have m:=KH u (r.fdiv r') u';generalize (r-r.fdiv r'*r').natAbs=A at*
    generalize (u-r.fdiv r'*u').natAbs=B at*
    generalize (r.fdiv r').natAbs=C at*
    have k1:B*r'.natAbs<=(u.natAbs+C*u'.natAbs)*r'.natAbs:=jj6 _ m;have k2:(u.natAbs+C*u'.natAbs)*r'.natAbs+u'.natAbs*A=u.natAbs*r'.natAbs+u'.natAbs*(A+C*r'.natAbs):=by grind
    rw[q] at k2;lia
   ·have:u'.natAbs*1<=u'.natAbs*r.natAbs:=jh3 _ ⋯;lia
theorem v_bound{b u v:Int}(hb:b≠0)(e:u*a+v*b=r)(l1:r.natAbs<=b.natAbs)(l4:u.natAbs<=b.natAbs+1):v.natAbs<=1+2*a.natAbs:=by
 have e1:v*b=r-u*a:=⋯;have h:=KH r u a;rw[<-e1,jn4] at h;have hb':0<b.natAbs:=⋯;have k:u.natAbs*a.natAbs<=(b.natAbs+1)*a.natAbs:=jj6 _ l4;have k2:a.natAbs*1<=a.natAbs*b.natAbs:=jh3 _ hb';have k3:v.natAbs*b.natAbs<=(1+2*a.natAbs)*b.natAbs:=by grind
 exact Nat.le_of_mul_le_mul_right k3 hb'
theorem EqI.bounds{b u v u' v' r':Int}(I:EqI a b u v r u' v' r'):
 u.natAbs<=b.natAbs+1/\v.natAbs<=1+2*a.natAbs/\u'.natAbs<=b.natAbs+1/\v'.natAbs<=1+2*a.natAbs/\r.natAbs<=a.natAbs+b.natAbs/\r'.natAbs<=b.natAbs:=by
 rcases I.ph with ⟨h1,h2,h3,h4,h5,h6⟩ | ⟨hb,hr,hs,l1,l2,l3,l4⟩
 ·subst h1 h2 h3 h4 h5 h6;refine⟨by simp,by simp,by simp,by simp,⋯,⋯⟩
 ·have:u'.natAbs*1<=u'.natAbs*r.natAbs:=jh3 _ ⋯;have lu:u'.natAbs<=b.natAbs+1:=⋯
  exact⟨l4,v_bound hb I.e1 l1 l4,lu,v_bound hb I.e2 l2 lu,⋯,l2⟩
theorem bU{d:Int}(hd:d≠0):(r.fdiv d).natAbs<=r.natAbs+1:=by
 have e:r.fmod d+r.fdiv d*d=r:=jn6 r d;have fs:=(Mf r d hd).2;have h:(r.fdiv d*d).natAbs<=r.natAbs+(r.fmod d).natAbs:=by omega
 rw[jn4] at h;have d1:1<=d.natAbs:=by omega
 generalize (r.fdiv d).natAbs=x at*
 generalize d.natAbs=y at*
 generalize r.natAbs=z at*
 rcases(by omega:x<=1\/2<=x) with c | c
 ·omega
 ·obtain⟨k,rfl⟩:∃k,x=k+1:=⟨x-1,by omega⟩;have:(k+1)*y=k*y+y:=jw1 k y;have:k*1<=k*y:=jh3 k d1;omega
structure Eqn(a b u v g:Int):Prop where
 eq:u*a+v*b=g
 gd:g=(Int.gcd a b:Int)
 bu:u.natAbs<=b.natAbs+1
 bv:v.natAbs<=1+2*a.natAbs
theorem EqI.done{b u v u' v':Int}(I:EqI a b u v r u' v' 0):(r<0->Eqn a b (-u) (-v) (-r))/\(¬r<0->Eqn a b u v r):=by
 have g:=I.g;rw[Int.gcd_zero_right] at g;have B:=I.bounds;refine⟨fun h=>⟨?_,⋯,⋯,⋯⟩,fun h=>⟨I.e1,⋯,B.1,B.2.1⟩⟩;have:=I.e1;rw[jw5,jw5];lia
theorem RN{b:Int}(ha:0<a):0<(Int.gcd a b:Int):=by
 have:Int.gcd a b≠0:=fun z=>by
  have:=Int.eq_zero_of_gcd_eq_zero_left z;lia
 lia
theorem qP{b:Int}(ha:0<a):(Int.gcd a b:Int)<=a:=jo9 ha (jk0 ..)
noncomputable def Cm(a b:Int):Int:=a/(Int.gcd a b:Int)*b
theorem Bx{b:Int}(ha:0<a)(hb:0<b):
 0<Cm a b/\a∣Cm a b/\b∣Cm a b/\Cm a b*(Int.gcd a b:Int)=a*b/\(∀t,a∣t->b∣t->Cm a b∣t)/\Cm a b=(Int.lcm a b:Int):=by
 have gp:=RN (b:=b) ha;obtain⟨x,hx⟩:(Int.gcd a b:Int)∣a:=jk0 ..;obtain⟨y,hy⟩:(Int.gcd a b:Int)∣b:=jn0 ..;have e1:a/(Int.gcd a b:Int)=x:=by
  have gne:(Int.gcd a b:Int)≠0:=⋯;generalize hg:(Int.gcd a b:Int)=g at*
  rw[hx];exact js1 x gne
 have e:Cm a b=x*b:=by unfold Cm;rw[e1]
 have pr:Cm a b*(Int.gcd a b:Int)=a*b:=by rw[e];conv=>rhs;rw[hx]
                                          grind
 have pl:(Int.lcm a b:Int)*(Int.gcd a b:Int)=a*b:=by
  have h:=Int.gcd_mul_lcm a b;have h2:((Int.gcd a b*Int.lcm a b:Nat):Int)=((a.natAbs*b.natAbs:Nat):Int):=by rw[h]
  rw[jl5,jl5,Int.natAbs_of_nonneg (jd5 ha),Int.natAbs_of_nonneg (jd5 hb)] at h2;rw[ji4];exact h2
 have el:Cm a b=(Int.lcm a b:Int):=Int.eq_of_mul_eq_mul_right (by lia:(Int.gcd a b:Int)≠0) (pr.trans pl.symm);refine⟨?_,?_,?_,pr,?_,el⟩
 ·have:0<Cm a b*(Int.gcd a b:Int):=by rw[pr];exact Int.mul_pos ha hb
  exact Int.pos_of_mul_pos_left this gp
 ·rw[el];exact Int.dvd_lcm_left ..
 ·rw[el];exact Int.dvd_lcm_right ..
 ·intro t h1 h2;rw[el];exact Int.coe_lcm_dvd h1 h2
theorem jR{b:Int}(ha:0<a)(hb:0<b):Cm a b=Cm b a:=by
 rw[(Bx ha hb).2.2.2.2.2,(Bx hb ha).2.2.2.2.2,Int.lcm_comm]
theorem vM{b:Int}(ha:0<a)(hb:0<b):Cm a b<=a*b:=by
 have f:=Bx ha hb;have gp:=RN (b:=b) ha;have h:Cm a b*1<=Cm a b*(Int.gcd a b:Int):=jb5 ⋯ (jd5 f.1);rw[f.2.2.2.1] at h;lia
noncomputable def On(n:Int)(b:Nat)(d:Int):Bool:=b.testBit (d%n).toNat
theorem ACX(b k:Nat):decide (((b:Nat):Int)/2^k%2=1)=b.testBit k:=by
 rw[jg3];have e:((b:Nat):Int)/2^k%2=((b/2^k%2:Nat):Int):=by
  rw[jo5,jk1,jg5];rfl
 rw[e,kr];simp only[decide_eq_true_eq];lia
theorem GZ(b k:Nat):((b:Nat):Int)/2^k=((b >>> k:Nat):Int):=by
 rw[yi,jk1,jg5];rfl
theorem Rk(b k:Nat):((b:Nat):Int)*2^k=((b <<< k:Nat):Int):=by
 rw[Nat.shiftLeft_eq,jl5,jg5];rfl
theorem je(k:Nat):(1:Int)*2^k-1=((2^k-1:Nat):Int):=by
 have:0<2^k:=ka k;rw[Int.natCast_sub ⋯,jg5];simp
theorem oN(k:Nat):(1:Int)*2^k=((2^k:Nat):Int):=by
 rw[jg5];simp
variable{b c:Nat}
theorem JG{w:Nat}(hb:b<2^w)(hc:c<2^w)(h:∀i,i<w->b.testBit i=c.testBit i):b=c:=by
 refine vx fun i=>?_;by_cases hi:i<w
 ·exact h i hi
 ·have p:2^w<=2^i:=vi nofun ⋯;rw[jf2 ⋯,jf2 ⋯]
theorem high{n i:Nat}(hb:b<2^n)(h:n<=i):b.testBit i=false:=by
 have p:2^n<=2^i:=vi nofun h;exact jf2 ⋯
theorem FW(c w:Nat):c &&& (2^w-1)<2^w:=by
 rw[jn9];exact jn2 _ (ka w)
theorem DQ(c w i:Nat)(h:i<w):(c &&& (2^w-1)).testBit i=c.testBit i:=by
 rw[ja5,je9];simp[h]
noncomputable def lat(n b s:Nat):Nat:=((b <<< s) ||| (b >>> (n-s))) &&& (2^n-1)
theorem KY(n b s:Nat):lat n b s<2^n:=FW _ _
theorem vN{n s i:Nat}(hb:b<2^n)(hs:s<n)(hi:i<n):(lat n b s).testBit i=b.testBit ((i+n-s)%n):=by
 unfold lat;rw[DQ _ _ _ hi,jd4,jo1,kq];by_cases h:s<=i
 ·have e:(i+n-s)%n=i-s:=by
   have:i+n-s=i-s+n:=⋯;rw[this,Nat.add_mod_right,je2 ⋯]
  rw[e,high hb (show n<=n-s+i by lia)];simp[h]
 ·have e:(i+n-s)%n=n-s+i:=by
   rw[je2 ⋯];lia
  rw[e];simp[h]
theorem idx{n d num:Int}(hn:0<n):(((d%n).toNat+n.toNat-(num%n).toNat)%n.toNat)=((d-num)%n).toNat:=by
 have h1:=ze d (show n≠0 by lia);have h2:=qo d hn;have h3:=ze num (show n≠0 by lia);have h4:=qo num hn;have e:(d-num)%n=(d%n+n-num%n)%n:=by
  rw[jv0,jv0 (d%n+n),jl2,js9,js9]
 have h5:=ze (d%n+n-num%n) (show n≠0 by lia);rw[e];have k:(((d%n).toNat+n.toNat-(num%n).toNat:Nat):Int)=d%n+n-num%n:=⋯;have k2:(n.toNat:Int)=n:=⋯;have:((((d%n).toNat+n.toNat-(num%n).toNat)%n.toNat:Nat):Int)=(d%n+n-num%n)%n:=by
  rw[jo5,k,k2]
 lia
theorem pY{n:Int}{num d:Int}(hn:0<n)(hb:b<2^n.toNat):On n (lat n.toNat b (num%n).toNat) d=On n b (d-num):=by
 unfold On;have h1:=ze d (show n≠0 by lia);have h2:=qo d hn;have h3:=ze num (show n≠0 by lia);have h4:=qo num hn;rw[vN hb ⋯ ⋯,idx hn]
structure Ek(n b w c:Nat):Prop where
 lt:c<2^w
 bit:∀i,i<w->c.testBit i=b.testBit (i%n)
theorem Ek.start{n:Nat}(h:b<2^n):Ek n b n b:=⟨h,fun i hi=>by rw[je2 hi]⟩
theorem Ek.dbl{n w:Nat}(S:Ek n b w c)(hd:n∣w):Ek n b (w*2) (c ||| (c <<< w)):=by
 have e:2^(w*2)=2^w*2^w:=by rw[Nat.mul_two,jq0]
 refine⟨?_,fun i hi=>?_⟩
 ·refine js5 (xi S.lt (vi nofun ⋯)) ?_;rw[Nat.shiftLeft_eq,e];exact Nat.mul_lt_mul_of_pos_right S.lt (ka w)
 ·rw[jd4,jo1];by_cases h:i<w
  ·rw[S.bit i h];simp[Nat.not_le.mpr h]
  ·rw[high S.lt ⋯,S.bit (i-w) ⋯];obtain⟨k,rfl⟩:=hd;have e2:i=(i-n*k)+n*k:=⋯
   have e3:i%n=(i-n*k)%n:=by conv=>lhs;rw[e2,Nat.add_mul_mod_self_left]
   rw[e3];simp;intro z;lia
variable{z:Nat}
theorem Ek.cut{n w:Nat}(S:Ek n b w c)(h:z<=w):Ek n b z (c &&& (2^z-1)):=
 ⟨FW _ _,fun i hi=>by rw[DQ _ _ _ hi,S.bit i ⋯]⟩
variable{c':Nat}
theorem Ek.uniq{n w:Nat}(S:Ek n b w c)(S':Ek n b w c'):c=c':=JG S.lt S'.lt fun i hi=>by rw[S.bit i hi,S'.bit i hi]
theorem Ek.on{n m:Int}(hn:0<n)(hm:0<m)(hd:n∣m)(S:Ek n.toNat b m.toNat c)(d:Int):On m c d=On n b d:=by
 unfold On;have h1:=ze d (show m≠0 by lia);have h2:=qo d hm;rw[S.bit _ ⋯]
 congr 1
 have e:(d%m)%n=d%n:=Int.emod_emod_of_dvd d hd;have h3:=ze d (show n≠0 by lia);have k:(((d%m).toNat%n.toNat:Nat):Int)=d%m%n:=by
  rw[jo5];have a1:((d%m).toNat:Int)=d%m:=⋯;have a2:(n.toNat:Int)=n:=⋯;rw[a1,a2]
 rw[e] at k;lia
noncomputable def hit(n:Int)(ds:List Int)(d:Int):Bool:=ds.any fun x=>decide ((d-x)%n=0)
structure RB(n:Int)(ds:List Int)(b:Nat):Prop where
 lt:b<2^n.toNat
 bit:∀d,On n b d=hit n ds d
theorem RB.nil(n:Int):RB n [] 0:=⟨ka _,fun d=>by unfold On hit;simp⟩
theorem Mi{n d x:Int}(hn:0<n):(d-x)%n=0<->d%n=x%n:=by
 rw[jv0];have h1:=ze d (show n≠0 by lia);have h2:=qo d hn;have h3:=ze x (show n≠0 by lia);have h4:=qo x hn;constructor
 ·intro h;have:=Int.dvd_of_emod_eq_zero h;obtain⟨k,hk⟩:=this;have:k=0:=by
   rcases Int.lt_trichotomy k 0 with z | z | z
   ·have:n*k<=n*(-1):=jb5 ⋯ ⋯;lia
   ·exact z
   ·have:n*1<=n*k:=jb5 ⋯ ⋯;lia
  subst this;lia
 ·intro h;rw[h];simp
theorem RB.snoc{n:Int}{ds:List Int}{x:Int}(hn:0<n)(h:RB n ds b):RB n (ds++[x]) (b ||| 2^(x%n).toNat):=by
 have h3:=ze x (show n≠0 by lia);have h4:=qo x hn;refine⟨js5 h.lt (Nat.pow_lt_pow_right nofun ⋯),fun d=>?_⟩;have h1:=ze d (show n≠0 by lia);have hb:=h.bit d;unfold On hit at*
 rw[jd4,hb,List.any_append,jk9]
 congr 1
 rw[jj1,List.any_nil,jo8,kr,decide_eq_true_eq,decide_eq_true_eq,Mi hn];lia
def Prm(r:Nat):Prop:=2<=r/\∀d,d∣r->d=1\/d=r
theorem Prm.euclid{r a:Nat}(h:Prm r)(hd:r∣a*b):r∣a\/r∣b:=by
 rcases h.2 _ (ju0 r a) with g | g
 ·exact .inr (Nat.Coprime.dvd_of_dvd_mul_left g hd)
 ·left;have:=jn1 r a
  rwa [g] at this
theorem Ti:∀(k q:Nat),q<=k->2<=q->∃r,Prm r/\r∣q
 | 0,q,h,h2=>⋯
 | k+1,q,h,h2=>by
  by_cases c:∃d,d∣q/\d≠1/\d≠q
  ·obtain⟨d,hd,h1,hq⟩:=c;have d0:d≠0:=fun z=>by subst z;have:=Nat.eq_zero_of_zero_dvd hd;lia
   have dl:=kx ⋯ hd;obtain⟨r,hr,hrd⟩:=Ti k d ⋯ ⋯;exact⟨r,hr,jl9 hrd hd⟩
  ·refine⟨q,⟨h2,fun d hd=>?_⟩,jv6 q⟩;by_cases h1:d=1
   ·exact .inl h1
   ·by_cases hq:d=q
    ·exact .inr hq
    ·exact absurd ⟨d,hd,h1,hq⟩ c
structure PI0(n:Nat)(ps:List Nat)(l f:Nat):Prop where
 l0:0<l
 ln:l<=n
 f2:2<=f
 low:∀q,2<=q->q∣l->f<=q
 all:∀r,Prm r->r∣n->r∈ps\/r∣l
 mem:∀p∈ps,2<=p/\p<=n
theorem PI0.start{n:Nat}(h:0<n):PI0 n [] n 2:=⟨h,qg _,⋯,fun q h _=>h,fun r _ h=>.inr h,fun p hp=>by cases hp⟩
theorem PI0.app{n:Nat}{ps:List Nat}{l f:Nat}(h:PI0 n ps l f)(hf:f∣l):PI0 n (ps++[f]) l f:=
 ⟨h.l0,h.ln,h.f2,h.low,fun r hr hd=>(h.all r hr hd).imp (fun z=>jg4 _ z) id,fun p hp=>by
  rcases vk.mp hp with z | z
  ·exact h.mem p z
  ·have e:p=f:=by simpa using z
   subst e;exact⟨h.f2,qr (kx h.l0 hf) h.ln⟩⟩
theorem PI0.div{n:Nat}{ps:List Nat}{l f:Nat}(h:PI0 n ps l f)(hf:f∣l)(hm:f∈ps):PI0 n ps (l/f) f/\l/f<l:=by
 obtain⟨k,rfl⟩:=hf;have f0:0<f:=by have:=h.f2;lia
 have e:f*k/f=k:=jh2 k f0;have k0:0<k:=Nat.pos_of_mul_pos_left h.l0;have kl:k<f*k:=by
  have:=jj6 k h.f2;lia
 rw[e];refine⟨⟨k0,by have:=h.ln;lia,h.f2,fun q h2 hq=>h.low q h2 (Nat.dvd_mul_left_of_dvd hq f),fun r hr hd=>?_,h.mem⟩,kl⟩;rcases h.all r hr hd with z | z
 ·exact .inl z
 ·rcases hr.euclid z with y | y
  ·have:f<=r:=h.low r hr.1 z;have:r<=f:=kx f0 y;have:r=f:=⋯
   subst this;exact .inl hm
  ·exact .inr y
theorem PI0.next{n:Nat}{ps:List Nat}{l f:Nat}(h:PI0 n ps l f)(hf:¬f∣l):PI0 n ps l (f+1):=
 ⟨h.l0,h.ln,by have:=h.f2;lia,fun q h2 hq=>by
  have:=h.low q h2 hq;have:q≠f:=fun z=>hf (z ▸ hq);lia,h.all,h.mem⟩
structure rH(n:Nat)(ps:List Nat):Prop where
 all:∀r,Prm r->r∣n->r∈ps
 mem:∀p∈ps,2<=p/\p<=n
theorem PI0.one{n:Nat}{ps:List Nat}{l f:Nat}(h:PI0 n ps l f)(e:¬1<l):rH n ps:=
 ⟨fun r hr hd=>by
  rcases h.all r hr hd with z | z
  ·exact z
  ·have:=kx h.l0 z;have:=hr.1;lia,h.mem⟩
theorem PI0.fin{n:Nat}{ps:List Nat}{l f:Nat}(h:PI0 n ps l f)(hf:¬f*f<=l)(e:1<l):rH n (ps++[l]):=
 ⟨fun r hr hd=>by
  rcases h.all r hr hd with z | z
  ·exact jg4 _ z
  ·refine yv _ ?_;obtain⟨k,hk⟩:=z;have k0:0<k:=by
    rcases ji0 k with z | z
    ·subst z;simp at hk;lia
    ·exact z
   have hk1:k=1:=by
    by_cases c:k=1
    ·exact c
    ·exfalso;have a:=h.low k ⋯ ⟨r,by rw[hk,jw0]⟩;have b:=h.low r hr.1 ⟨k,hk⟩;have:=Nat.mul_le_mul b a;lia
   subst hk1;simp at hk;simp[hk],fun p hp=>by
  rcases vk.mp hp with z | z
  ·exact h.mem p z
  ·have e:p=l:=by simpa using z
   subst e;exact⟨⋯,h.ln⟩⟩
structure Per(z c t:Nat):Prop where
 t0:0<t
 dv:t∣z
 bit:∀i j,i<z->j<z->i%t=j%t->c.testBit i=c.testBit j
theorem Per.mul{t u:Nat}(h:Per z c t)(u0:0<u)(h1:t∣u)(h2:u∣z):Per z c u:=⟨u0,h2,fun i j hi hj e=>h.bit i j hi hj (by
 obtain⟨k,rfl⟩:=h1;have a:=jf8 i t k;have b:=jf8 j t k;rw[<-a,<-b,e])⟩
theorem Per.of_shift{s:Nat}(s0:0<s)(hd:s∣z)(h:∀i,i+s<z->c.testBit i=c.testBit (i+s)):Per z c s:=by
 have up:∀k i,i+s*k<z->c.testBit i=c.testBit (i+s*k):=by
  intro k
  induction k with
  | zero=>intro i _;simp
  | succ k ih=>
   intro i hi;rw[Nat.mul_succ] at hi ⊢;rw[ih i ⋯,h (i+s*k) ⋯,jj2]
 have red:∀i,i<z->c.testBit i=c.testBit (i%s):=fun i hi=>by
  have e:=jv9 i s;have:=up (i/s) (i%s) ⋯;rw[e] at this;exact this.symm
 exact⟨s0,hd,fun i j hi hj e=>by rw[red i hi,red j hj,e]⟩
theorem Per.shift{s:Nat}(h:Per z c s):∀i,i+s<z->c.testBit i=c.testBit (i+s):=fun i hi=>h.bit i (i+s) ⋯ hi (by rw[Nat.add_mod_right])
theorem kY{s:Nat}(hc:c<2^z)(s0:0<s)(hd:s∣z)(z0:0<z):(c >>> s=c &&& (2^(z-s)-1))<->Per z c s:=by
 have sz:=kx z0 hd;constructor
 ·intro h;refine Per.of_shift s0 hd fun i hi=>?_;have:=xy (fun x=>x.testBit i) h;simp only[kq] at this;rw[DQ _ _ _ ⋯] at this;rw[<-this,jn8]
 ·intro h;refine vx fun i=>?_;rw[kq];by_cases hi:i<z-s
  ·rw[DQ _ _ _ hi,h.shift i ⋯,jn8]
  ·rw[high hc ⋯,high (FW c (z-s)) ⋯]
theorem Per.strt{s:Nat}(h:Per z c s)(hc:c<2^z)(z0:0<z):Ek s (c &&& (2^s-1)) z c:=⟨hc,fun i hi=>by
 have l:=jn2 i h.t0;have sz:=kx z0 h.dv;rw[DQ _ _ _ l];exact h.bit i (i%s) hi ⋯ (by rw[Nat.mod_mod])⟩
theorem Ek.comp{s n:Nat}(h:Ek s c' z c)(g:Ek z c n b)(hd:s∣z)(z0:0<z):Ek s c' n b:=⟨g.lt,fun i hi=>by
 rw[g.bit i hi,h.bit _ (jn2 i z0)];obtain⟨k,rfl⟩:=hd;rw[jf8]⟩
theorem Per.up{s t:Nat}(h:Ek s c' z c)(hd:s∣z)(s0:0<s)(g:Per s c' t):Per z c t:=by
 have hts:t∣s:=g.dv;refine⟨g.t0,jl9 hts hd,fun i j hi hj e=>?_⟩;rw[h.bit i hi,h.bit j hj];refine g.bit _ _ (jn2 i s0) (jn2 j s0) ?_;obtain⟨k,rfl⟩:=hts;rw[jf8,jf8,e]
def Tight(z c p:Nat):Prop:=¬(p∣z/\Per z c (z/p))
theorem Tight.keep{s p:Nat}(h:Ek s c' z c)(hd:s∣z)(s0:0<s)(z0:0<z)(p0:0<p)(g:Tight z c p):Tight s c' p:=fun⟨h1,h2⟩=>by
 refine g ⟨jl9 h1 hd,?_⟩;have a:=Per.up h hd s0 h2;obtain⟨k,rfl⟩:=h1;obtain⟨m,rfl⟩:=hd;have e1:p*k/p=k:=jh2 k p0;have e2:p*k*m/p=k*m:=by rw[jt6,jh2 _ p0]
 rw[e1] at a;rw[e2];have km:0<k*m:=by
  rcases ji0 (k*m) with z | z
  ·rw[jt6,z] at z0;simp at z0
  ·exact z
 exact a.mul km ⟨m,rfl⟩ ⟨p,by rw[jt6,jw0]⟩
structure Lst(n b z c:Nat):Prop where
 z0:0<z
 dv:z∣n
 lt:c<2^z
 st:Ek z c n b
 min:∀s,s<z->¬Per z c s
theorem Lst.of{n:Nat}{ps:List Nat}(P:rH n ps)(n0:0<n)(z0:0<z)(dv:z∣n)(lt:c<2^z)(st:Ek z c n b)(t:∀p∈ps,Tight z c p):Lst n b z c:=by
 refine⟨z0,dv,lt,st,fun s hs hp=>?_⟩;obtain⟨k,hk⟩:=hp.dv;have s0:=hp.t0;have k2:2<=k:=by
  rcases(by lia:k=0\/k=1\/2<=k) with z | z | z
  ·subst z;simp at hk;lia
  ·subst z;simp at hk;lia
  ·exact z
 obtain⟨r,hr,⟨m,hm⟩⟩:=Ti k k (qg _) k2;have rz:r∣z:=⟨s*m,by rw[hk,hm,jn3]⟩;refine t r (P.all r hr (jl9 rz dv)) ⟨rz,?_⟩;have r0:0<r:=by have:=hr.1;lia
 have e:z/r=s*m:=by rw[hk,hm,jn3,jh2 _ r0]
 rw[e];have sm:0<s*m:=by
  rcases ji0 (s*m) with q | q
  ·rw[hk,hm,jn3,q] at z0;simp at z0
  ·exact q
 exact hp.mul sm ⟨m,rfl⟩ ⟨r,by rw[hk,hm,jn3,jw0]⟩
noncomputable def cnt(b:Nat):Nat->Nat
 | 0=>0
 | k+1=>cnt b k+(if b.testBit k then 1 else 0)
theorem Tu:∀k,cnt 0 k=0
 | 0=>rfl
 | k+1=>by simp[cnt,Tu k]
theorem Tv(b:Nat):∀k,cnt b (k+1)=b%2+cnt (b/2) k
 | 0=>by
  simp only[cnt,jk4];have:=Nat.mod_two_eq_zero_or_one b;rcases this with h | h<;>simp[h]
 | k+1=>by
  have ih:=Tv b k;rw[cnt,ih];show b%2+cnt (b/2) k+_=b%2+(cnt (b/2) k+_);rw[je3];lia
noncomputable def CC(n:Int)(b:Nat)(d:Int):Int:=d/n*(cnt b n.toNat:Int)+(cnt b (d%n).toNat:Int)
theorem Ii{n:Int}(hn:0<n)(d:Int):CC n b (d+1)=CC n b d+(if On n b d then 1 else 0):=by
 have h1:=ze d (show n≠0 by lia);have h2:=qo d hn;have h3:=ji5 d n;unfold CC On;by_cases hl:d%n=n-1
 ·have hd:d+1=n*(d/n+1):=by rw[jt1,jg9];lia
  have e1:(d+1)/n=d/n+1:=by rw[hd];exact js1 _ ⋯
  have e2:(d+1)%n=0:=by rw[hd];exact Int.mul_emod_right _ _
  have e3:n.toNat=(d%n).toNat+1:=⋯;rw[e1,e2];show(d/n+1)*(cnt b n.toNat:Int)+((cnt b 0:Nat):Int)=_;have e4:(cnt b n.toNat:Int)=(cnt b (d%n).toNat:Int)+(if b.testBit (d%n).toNat then 1 else 0):=by
   rw[e3,cnt];split<;>simp
  have e5:((cnt b 0:Nat):Int)=0:=rfl;rw[Int.add_mul,Int.one_mul,e5];lia
 ·have e1:(d+1)/n=d/n:=by
   have:d+1=n*(d/n)+(d%n+1):=⋯;rw[this,ji3 _ _ ⋯,jc8 (a:=d%n+1) (b:=n) ⋯ ⋯,ju6]
  have e2:(d+1)%n=d%n+1:=by
   have:d+1=n*(d/n)+(d%n+1):=⋯;rw[this,jj4];exact ja8 ⋯ ⋯
  rw[e1,e2];have e3:(d%n+1).toNat=(d%n).toNat+1:=⋯;rw[e3,cnt];split<;>simp<;>lia
theorem QK{n:Int}{b:Nat}(hn:0<n)(d:Int):∀k:Nat,CC n b d<=CC n b (d+(k:Int))
 | 0=>by simp
 | k+1=>by
  have ih:=QK (b:=b) hn d k;have e:=Ii (b:=b) hn (d+(k:Int));have:d+((k+1:Nat):Int)=d+(k:Int)+1:=⋯;rw[this,e];split<;>lia
theorem RT{n:Int}(hn:0<n){d e:Int}(h:d<=e):CC n b d<=CC n b e:=by
 have:=QK (b:=b) hn d (e-d).toNat
 rwa [show d+((e-d).toNat:Int)=e by lia] at this
theorem qX(c d:Nat):(2*c) &&& (2*d+1)=2*(c &&& d):=by
 refine vx fun i=>?_;cases i with
 | zero=>rw[ja5];simp[jk4]
 | succ i=>
  rw[ja5,je3,je3,je3,show 2*c/2=c by lia,show(2*d+1)/2=d by lia,show 2*(c &&& d)/2=c &&& d by lia,ja5]
theorem vB(c:Nat):(2*c+1) &&& (2*c)=2*c:=by
 refine vx fun i=>?_;cases i with
 | zero=>rw[ja5];simp[jk4]
 | succ i=>
  rw[ja5,je3,je3,show 2*c/2=c by lia,show(2*c+1)/2=c by lia,Bool.and_self]
theorem fL:∀(k b:Nat),b.testBit k=true->(∀i,i<k->b.testBit i=false)->(b &&& (b-1))+2^k=b
 | 0,b,h,_=>by
  rw[jk4,decide_eq_true_eq] at h;obtain⟨c,rfl⟩:∃c,b=2*c+1:=⟨b/2,⋯⟩;rw[show 2*c+1-1=2*c by lia,vB]
 | k+1,b,h,g=>by
  have g0:=g 0 ⋯;rw[jk4,decide_eq_false_iff_not] at g0;obtain⟨c,rfl⟩:∃c,b=2*c:=⟨b/2,⋯⟩;rw[je3,show 2*c/2=c by lia] at h;have c0:c≠0:=by
   rintro rfl;rw[jc7] at h;exact Bool.noConfusion h
  have ih:=fL k c h fun i hi=>by
   have:=g (i+1) ⋯
   rwa [je3,show 2*c/2=c by lia] at this
  rw[show 2*c-1=2*(c-1)+1 by lia,qX,jr4];lia
theorem AAS(h:b≠0):∃k,b.testBit k=true/\∀i,i<k->b.testBit i=false:=by
 obtain⟨j,hj⟩:=Nat.exists_testBit_of_ne_zero h;have:∀n j,j<=n->b.testBit j=true->∃k,b.testBit k=true/\∀i,i<k->b.testBit i=false:=by
  intro n
  induction n with
  | zero=>
   intro j hj hb;exact⟨j,hb,fun i hi=>⋯⟩
  | succ n ih=>
   intro j hj hb;by_cases c:∃i,i<j/\b.testBit i=true
   ·obtain⟨i,hi,hb'⟩:=c;exact ih i ⋯ hb'
   ·exact⟨j,hb,fun i hi=>by
     cases e:b.testBit i with
     | false=>rfl
     | true=>exact absurd ⟨i,hi,e⟩ c⟩
 exact this j j (qg _) hj
theorem pR(k:Nat):(2^k).log2=k:=by
 have h0:(2:Nat)^k≠0:=by have:=ka k;lia
 exact Nat.log2_two_pow
theorem qL(h:b≠0):b.testBit b.log2=true/\∀i,b.log2<i->b.testBit i=false:=by
 have h1:=ju1 h;have h2:b<2^(b.log2+1):=ju2;constructor
 ·rw[jg3,decide_eq_true_eq];have p:=ka b.log2;have e:b/2^b.log2=1:=by
   rw[jr4] at h2;generalize 2^b.log2=w at*
   have a1:1<=b/w:=(Nat.le_div_iff_mul_le p).mpr ⋯;have a2:b/w<2:=(Nat.div_lt_iff_lt_mul p).mpr ⋯;lia
  rw[e]
 ·intro i hi;exact jf2 (xi h2 (vi nofun hi))
noncomputable def Lj(w:Nat):List Nat->Nat
 | []=>0
 | a::l=>a+2^w*Lj w l
noncomputable def fsum:List Nat->Nat
 | []=>0
 | a::l=>a+fsum l
def Dg(w f s:Nat):Prop:=∃l:List Nat,(∀a∈l,a<=w)/\f=Lj w l/\s=fsum l
theorem Dg.nil{w:Nat}:Dg w 0 0:=⟨[],(fun _ h=>nomatch h),rfl,rfl⟩
theorem Dg.cons{w a f s:Nat}(h:a<=w)(g:Dg w f s):Dg w (a+2^w*f) (a+s):=by
 obtain⟨l,h1,rfl,rfl⟩:=g;exact⟨a::l,fun x hx=>(qf.mp hx).elim (fun e=>e ▸ h) (h1 x),rfl,rfl⟩
def Ev(w f e:Nat):Prop:=∀i,e.testBit i=(f.testBit i&&decide (i%(2*w)<w))
theorem WK{w:Nat}:∀l:List Nat,Lj w l=0->fsum l=0
 | [],_=>rfl
 | a::l,e=>by
  have e:a+2^w*Lj w l=0:=e;have e1:a=0:=⋯;have e2:2^w*Lj w l=0:=⋯;have p:=ka w;rcases Nat.mul_eq_zero.mp e2 with z | z
  ·lia
  ·show a+fsum l=0;rw[e1,WK l z]
theorem Dg.last{w f s:Nat}(h:Dg w f s)(hl:f<2^w):f=s:=by
 obtain⟨l,_,rfl,rfl⟩:=h;cases l with
 | nil=>rfl
 | cons a l=>
  have hl:a+2^w*Lj w l<2^w:=hl;have z:Lj w l=0:=by
   rcases ji0 (Lj w l) with z | z
   ·exact z
   ·have:=Nat.le_mul_of_pos_right (2^w) z;lia
  show a+2^w*Lj w l=a+fsum l;rw[WK l z,z];simp
theorem Wa{w a h:Nat}(ha:a<2^w)(i:Nat):(a+2^w*h).testBit i=if i<w then a.testBit i else h.testBit (i-w):=by
 rw[jn8,Nat.testBit_two_pow_mul_add h ha]
theorem Ev.peel{w a h e:Nat}(w0:0<w)(ha:a<2^w)(H:Ev w (a+2^w*h) e):e=a+2^(2*w)*(e/2^(2*w))/\Ev w (h/2^w) (e/2^(2*w)):=by
 have e1:e%2^(2*w)=a:=by
  refine vx fun i=>?_;rw[jc4,H i,Wa ha];by_cases c:i<w
  ·rw[xz c,je2 ⋯];simp[c,show i<2*w by lia]
  ·rw[yb c];have:a.testBit i=false:=jf2 (xi ha (vi nofun ⋯));rw[this];by_cases c2:i<2*w
   ·rw[je2 c2];simp[c]
   ·simp[c2]
 refine⟨?_,fun i=>?_⟩
 ·have:=jv9 e (2^(2*w));rw[e1] at this;exact this.symm
 ·rw[<-yi,<-yi,kq,kq,H,Wa ha,yb ⋯,show 2*w+i-w=w+i by lia,Nat.add_mod_left]
theorem xm{w:Nat}(w0:0<w):∀l:List Nat,(∀a∈l,a<=w)->∀e1 e2,Ev w (Lj w l) e1->Ev w (Lj w l/2^w) e2->Dg (2*w) (e1+e2) (fsum l)/\e1+e2<=Lj w l
 | [],_,e1,e2,h1,h2=>by
  have z:∀e,Ev w 0 e->e=0:=fun e he=>vx fun i=>by rw[he i,jc7];rfl
  have h2:Ev w (0/2^w) e2:=h2;rw[Nat.zero_div] at h2;rw[z e1 h1,z e2 h2];exact⟨.nil,qg _⟩
 | [a],ha,e1,e2,h1,h2=>by
  have ha:=ha a qm;have h1:Ev w (a+2^w*0) e1:=h1;have h2:Ev w ((a+2^w*0)/2^w) e2:=h2;show Dg (2*w) (e1+e2) (a+0)/\e1+e2<=a+2^w*0;have al:a<2^w:=uj ha jp9;have z:∀e,Ev w 0 e->e=0:=fun e he=>vx fun i=>by rw[he i,jc7];rfl
  obtain⟨p1,p2⟩:=h1.peel w0 al;rw[Nat.zero_div] at p2;have p3:=z _ p2;rw[jr2,Nat.add_zero,jk3 al] at h2;have p4:=z _ h2;rw[p3,jr2,Nat.add_zero] at p1;rw[p1,p4,jr2];refine⟨?_,⋯⟩;have:=Dg.cons (w:=2*w) (a:=a) ⋯ (.nil)
  rwa [jr2] at this
 | a::b::l,hl,e1,e2,h1,h2=>by
  have ha:=hl a qm;have hb:=hl b (qv _ qm);have hg:∀x∈l,x<=w:=fun x hx=>hl x (qv _ (qv _ hx));have h1:Ev w (a+2^w*(b+2^w*Lj w l)) e1:=h1;have h2:Ev w ((a+2^w*(b+2^w*Lj w l))/2^w) e2:=h2;have ih:=xm w0 l hg;show Dg (2*w) (e1+e2) (a+(b+fsum l))/\e1+e2<=a+2^w*(b+2^w*Lj w l);generalize Lj w l=g at*
  generalize fsum l=s at*
  have al:a<2^w:=uj ha jp9;have bl:b<2^w:=uj hb jp9;have p:=ka w;have d1:(a+2^w*(b+2^w*g))/2^w=b+2^w*g:=by rw[Nat.add_mul_div_left _ _ p,jk3 al,jf9]
  have d2:(b+2^w*g)/2^w=g:=by rw[Nat.add_mul_div_left _ _ p,jk3 bl,jf9]
  rw[d1] at h2;obtain⟨p1,p2⟩:=h1.peel w0 al;obtain⟨p3,p4⟩:=h2.peel w0 bl;rw[d2] at p2;obtain⟨i1,i2⟩:=ih _ _ p2 p4;have:=Dg.cons (w:=2*w) (a:=a+b) ⋯ i1;refine⟨?_,?_⟩
  ·rw[p1,p3];rw[Nat.mul_add] at this;have e:a+2^(2*w)*(e1/2^(2*w))+(b+2^(2*w)*(e2/2^(2*w)))=a+b+(2^(2*w)*(e1/2^(2*w))+2^(2*w)*(e2/2^(2*w))):=⋯
   rw[e,<-jj2 a b s];exact this
  ·have m:=jh3 (2^(2*w)) i2;rw[Nat.mul_add] at m;have q1:b<=2^w*b:=Nat.le_mul_of_pos_left b p;have q2:2^w*(2^w*g)=2^(2*w)*g:=by rw[<-jt6,<-jq0,Nat.two_mul]
   rw[Nat.mul_add,q2];lia
theorem Dg.pair{w f s:Nat}(w0:0<w)(h:Dg w f s){e1 e2:Nat}(h1:Ev w f e1)(h2:Ev w (f/2^w) e2):Dg (2*w) (e1+e2) s/\e1+e2<=f:=by
 obtain⟨l,hl,rfl,rfl⟩:=h;exact xm w0 l hl e1 e2 h1 h2
theorem Dg.start:∀(n b:Nat),b<2^n->Dg 1 b (cnt b n)
 | 0,b,h=>by
  have:b=0:=by simp at h;exact h
  subst this;exact .nil
 | n+1,b,h=>by
  have:=Dg.cons (w:=1) (a:=b%2) ⋯ (Dg.start n (b/2) (by rw[jr4] at h;lia));rw[Tv]
  rwa [Nat.pow_one,jv9] at this
theorem Kg:∀{k:Nat},(∀i,i<k->b.testBit i=c.testBit i)->cnt b k=cnt c k
 | 0,_=>rfl
 | k+1,h=>by
  rw[cnt,cnt,Kg (fun i hi=>h i ⋯),h k ⋯]
theorem Tw(b:Nat):∀k,cnt b k<=k
 | 0=>qg _
 | k+1=>by
  have:=Tw b k;rw[cnt];split<;>lia
theorem RQ(b h:Nat):∀k,cnt b (h+k)=cnt b h+cnt (b/2^h) k
 | 0=>rfl
 | k+1=>by
  show cnt b (h+k)+_=cnt b h+(cnt (b/2^h) k+_);rw[RQ b h k,<-yi,kq,jj2];rfl
def Pl(b k l s p:Nat):Prop:=∀j,l.testBit j=true->cnt l j=s->b.testBit (p+j)=true/\cnt b (p+j)=k
theorem Pl.low{k l s p h:Nat}(H:Pl b k l s p):Pl b k (l &&& (2^h-1)) s p:=fun j hj hc=>by
 have jh:j<h:=by
  refine je1 fun z=>?_;rw[ja5,je9] at hj;simp[show ¬j<h by lia] at hj
 rw[DQ _ _ _ jh] at hj;rw[Kg (c:=l) fun i hi=>DQ _ _ _ ⋯] at hc;exact H j hj hc
theorem Pl.up{k l s p h:Nat}(H:Pl b k l s p)(hs:cnt l h<=s):Pl b k (l/2^h) (s-cnt l h) (p+h):=fun j hj hc=>by
 rw[<-yi,kq] at hj;rw[jj2];exact H (h+j) hj (by rw[RQ,hc];lia)
theorem gH{k:Nat}(h:0<cnt b k):b≠0:=by
 rintro rfl;rw[Tu] at h;lia
theorem qu{b:Nat}:∀{k:Nat},b<2^k->b≠0->0<cnt b k
 | 0,h,h0=>by simp at h;lia
 | k+1,h,h0=>by
  rw[Tv];by_cases m:b%2=0
  ·have:=qu (b:=b/2) (k:=k) (by rw[jr4] at h;lia) ⋯;lia
  ·lia
theorem ADM{n:Int}{p:Nat}(hn:0<n)(hp:p<n.toNat)(x:Int):CC n b (x*n+(p:Int))=x*(cnt b n.toNat:Int)+(cnt b p:Int):=by
 unfold CC;have e1:(x*n+(p:Int))/n=x:=by
  rw[ji4,ji3 _ _ ⋯,jc8 ⋯ ⋯,ju6]
 have e2:(x*n+(p:Int))%n=(p:Int):=by
  rw[ji4,jj4];exact ja8 ⋯ ⋯
 rw[e1,e2,zh]
theorem ACy{n:Int}{p:Nat}(hn:0<n)(hp:p<n.toNat)(x:Int):On n b (x*n+(p:Int))=b.testBit p:=by
 unfold On;have e2:(x*n+(p:Int))%n=(p:Int):=by
  rw[ji4,jj4];exact ja8 ⋯ ⋯
 rw[e2,zh]
noncomputable def pc(b j:Nat):Nat:=b/2^(256*j)%2^256
theorem S7(b j i:Nat):(pc b j).testBit i=(decide (i<256)&&b.testBit (256*j+i)):=by
 unfold pc;rw[jc4,<-yi,kq]
theorem ACW(b j:Nat):pc b j<2^256:=jn2 _ (ka _)
theorem pA(b p:Nat):pc (b ||| 2^p) (p/256)=pc b (p/256) ||| 2^(p%256):=by
 refine vx fun i=>?_;rw[S7,jd4,jd4,S7,jk9,jk9];by_cases c:i<256
 ·have:(p=256*(p/256)+i)=(p%256=i):=propext ⟨fun h=>⋯,fun h=>⋯⟩;simp[c,this]
 ·have:¬p%256=i:=⋯
  simp[c,this]
theorem o9{p j:Nat}(h:j≠p/256):pc (b ||| 2^p) j=pc b j:=by
 refine vx fun i=>?_;rw[S7,jd4,S7,jk9];by_cases c:i<256
 ·have:¬p=256*j+i:=⋯
  simp[c,this]
 ·simp[c]
theorem ux(b m:Nat):b%2^(256*m) ||| (pc b m <<< (256*m))=b%2^(256*(m+1)):=by
 refine vx fun i=>?_;rw[jd4,jo1,jc4,jc4,S7];by_cases c:i<256*m
 ·simp[c,show ¬256*m<=i by lia,show i<256*(m+1) by lia]
 ·by_cases c2:i<256*(m+1)
  ·simp[c,c2,show 256*m<=i by lia,show i-256*m<256 by lia,show 256*m+(i-256*m)=i by lia]
  ·simp[c,c2,show ¬i-256*m<256 by lia]
structure Rw(on:Int->Bool)(rw:List Int):Prop where
 srt:rw.Pairwise (· < ·)
 all:∀r∈rw,on r=true
 cov:∀r,on r=true->(∃x∈rw,x<=r)->(∃y∈rw,r<=y)->r∈rw
theorem rJ{n m:Int}(hd:n∣m)(d k:Int):On n b (d+m*k)=On n b d:=by
 unfold On;obtain⟨c,rfl⟩:=hd;rw[Int.mul_assoc,jj3]
def Kth(n1:Int)(b1:Nat)(n2:Int)(b2:Nat)(k d:Int):Prop:=On n1 b1 d=true/\∃b e,On n2 b2 b=true/\On n2 b2 e=true/\b<=d/\d<e/\(∀r,b<r->r<e->On n2 b2 r=false)/\(0<k->CC n1 b1 (d+1)-CC n1 b1 b=k)/\(k<0->CC n1 b1 e-CC n1 b1 d= -k)
theorem ABX{n:Int}(hn:0<n)(d j:Int):CC n b (d+n*j)=CC n b d+j*(cnt b n.toNat:Int):=by
 unfold CC;rw[Int.add_mul_ediv_left _ _ ⋯,jj3,Int.add_mul];lia
theorem OD{n:Int}:CC n b 0=0:=by
 unfold CC;rw[Int.zero_ediv,Int.zero_emod];show 0*_+((cnt b 0:Nat):Int)=0;rw[Int.zero_mul];rfl
structure Dn(n:Int)(b:Nat)(ds:List Int):Prop where
 len:(ds.length:Int)=(cnt b n.toNat:Int)
 at':∀(j:Nat) (x:Int),ds[j]?=some x->On n b x=true/\CC n b x=(j:Int)/\0<=x/\x<n
noncomputable def Ka(n:Int)(ds:List Int)(P:Int):Int:=P/(ds.length:Int)*n+(ds[(P%(ds.length:Int)).toNat]?).getD 0
theorem Dn.day{n:Int}{ds:List Int}(hn:0<n)(D:Dn n b ds)(h:0<ds.length)(P:Int):On n b (Ka n ds P)=true/\CC n b (Ka n ds P)=P:=by
 have m0:=ze P (show (ds.length:Int)≠0 by lia);have m1:=qo P (show (0:Int)<(ds.length:Int) by lia);have hl:(P%(ds.length:Int)).toNat<ds.length:=⋯;obtain⟨x,hx⟩:∃x,ds[(P%(ds.length:Int)).toNat]?=some x:=⟨_,zo hl⟩;obtain⟨a1,a2,a3,a4⟩:=D.at' _ _ hx;have e:Ka n ds P=x+n*(P/(ds.length:Int)):=by
  unfold Ka;rw[hx,ji4];show _+x=_;lia
 have p:=ji5 P (ds.length:Int);rw[e];constructor
 ·unfold On at a1 ⊢
  rwa [jj3]
 ·rw[ABX hn,a2,<-D.len,ji4];lia
section
variable{o1 o2 p1 p2:Int->Bool}{t:Int}
end
section
variable{o1 o2:Int->Bool}{d r1 r2 p q:Int}
def kj(o:Int->Bool)(d r:Int):Prop:=r<=d/\o r=true/\∀e,r<e->e<=d->o e=false
def kh(o:Int->Bool)(d r:Int):Prop:=d<=r/\o r=true/\∀e,d<=e->e<r->o e=false
end
theorem jG{n:Int}{d:Int}(hn:0<n)(h:kj (On n b) d r):d-n<r:=by
 refine Int.not_le.mp fun z=>?_;have:=h.2.2 (r+n) ⋯ ⋯;have e:=rJ (b:=b) (ju7 n) r 1;rw[jg9,h.2.1] at e;rw[e] at this;cases this
theorem jF{n:Int}{d:Int}(hn:0<n)(h:kh (On n b) d r):r<d+n:=by
 refine Int.not_le.mp fun z=>?_;have:=h.2.2 (r-n) ⋯ ⋯;have e:=rJ (b:=b) (ju7 n) (r-n) 1;rw[jg9,show r-n+n=r by lia,h.2.1] at e;rw[<-e] at this;cases this
noncomputable abbrev Tm:=Int×Int×Int×Int
structure OkT(t:Tm):Prop where
 sg:t.1=1\/t.1= -1
 n0:1<=t.2.2.2
 n1:t.2.2.2<=1000
 a0:0<=t.2.1
 a1:t.2.1<=t.2.2.2
 b0:0<=t.2.2.1
 b1:t.2.2.1<t.2.2.2
noncomputable def onT(t:Tm)(k:Int):Bool:=decide (t.2.2.2<=(t.2.1*k+t.2.2.1)%t.2.2.2+t.2.1)
noncomputable def ctT(t:Tm)(k:Int):Int:=(t.2.1*k+t.2.2.1)/t.2.2.2
noncomputable def SU(ts:List Tm)(k:Int):Int:=(ts.map fun t=>t.1*ctT t k).sum
noncomputable def UP(base:Int)(ts:List Tm)(k:Int):Int:=base*k+SU ts k
noncomputable def ONS(ts:List Tm)(k:Int):Int:=((ts.filter fun t=>onT t k).map fun t=>t.1).sum
noncomputable def AT(base:Int)(ts:List Tm)(k:Int):Int:=base+ONS ts k
noncomputable def falls(ts:List Tm):Int:=((ts.filter fun t=>decide (t.1= -1)).length:Int)
theorem wB{t:Tm}(h:OkT t)(k:Int):ctT t (k+1)=ctT t k+(if onT t k=true then 1 else 0):=by
 unfold ctT onT;obtain⟨s,a,b,n⟩:=t;have n0:=h.n0;have a0:=h.a0;have a1:=h.a1;dsimp only at n0 a0 a1 ⊢;have e:a*(k+1)+b=a*k+b+a:=by rw[jt1,jg9];lia
 rw[e];generalize a*k+b=y;have q:=ji5 y n;have r0:=ze y (show n≠0 by lia);have r1:=qo y (show 0<n by lia);by_cases c:n<=y%n+a
 ·rw[decide_eq_true c,xz rfl];have h:y+a=n*(y/n+1)+(y%n+a-n):=by rw[jt1,jg9];lia
  conv=>lhs;rw[h]
  rw[ji3 _ _ ⋯,jc8 (a:=y%n+a-n) (b:=n) ⋯ ⋯];lia
 ·rw[decide_eq_false c,yb zk];have h:y+a=n*(y/n)+(y%n+a):=⋯
  conv=>lhs;rw[h]
  rw[ji3 _ _ ⋯,jc8 (a:=y%n+a) (b:=n) ⋯ ⋯]
theorem wA{t:Tm}(h:OkT t):ctT t 0=0:=by
 unfold ctT;rw[Int.mul_zero,jv1];exact jc8 h.b0 h.b1
theorem gR:∀{ts:List Tm} (_:∀t∈ts,OkT t) (k:Int),SU ts (k+1)=SU ts k+ONS ts k
 | [],_,k=>rfl
 | t::ts,h,k=>by
  have ih:=gR (ts:=ts) (fun x hx=>h x (qv _ hx)) k;have s:=wB (h t qm) k;unfold SU ONS at*
  rw[zv,zv,Zl,Zl,ih,s,jh5];by_cases c:onT t k=true
  ·rw[xz c,xz c,zv,Zl,jt1,jg9];lia
  ·rw[yb c,yb c,ju6];lia
theorem gQ:∀{ts:List Tm} (_:∀t∈ts,OkT t),SU ts 0=0
 | [],_=>rfl
 | t::ts,h=>by
  have ih:=gQ (ts:=ts) (fun x hx=>h x (qv _ hx));unfold SU at*
  rw[zv,Zl,ih,wA (h t qm)];simp
theorem YT:∀{ts:List Tm} (_:∀t∈ts,OkT t) (k:Int),-falls ts<=ONS ts k
 | [],_,k=>by show(-((0:Nat):Int))<=0;lia
 | t::ts,h,k=>by
  have ih:=YT (ts:=ts) (fun x hx=>h x (qv _ hx)) k;have sg:=(h t qm).sg;unfold falls ONS at*
  rw[jh5,jh5];by_cases c:onT t k=true
  ·rw[xz c,zv,Zl];rcases sg with z | z
   ·rw[yb (by rw[decide_eq_true_eq];lia)];lia
   ·rw[xz (decide_eq_true z),qh];lia
  ·rw[yb c];split
   ·rw[qh];lia
   ·lia
variable{base:Int}
theorem wV{ts:List Tm}(h:∀t∈ts,OkT t)(k:Int):UP base ts (k+1)=UP base ts k+AT base ts k:=by
 unfold UP AT;rw[gR h,jt1,jg9];lia
theorem wU{ts:List Tm}(h:∀t∈ts,OkT t):UP base ts 0=0:=by
 unfold UP;rw[gQ h,Int.mul_zero];rfl
theorem wW{ts:List Tm}(h:∀t∈ts,OkT t)(hf:falls ts<=base){j k:Int}(jk:j<=k):UP base ts j<=UP base ts k:=by
 have:∀m:Nat,UP base ts j<=UP base ts (j+(m:Int)):=by
  intro m
  induction m with
  | zero=>simp
  | succ m ih=>
   have e:=wV (base:=base) h (j+(m:Int));have l:=YT h (j+(m:Int));unfold AT at e;rw[show j+((m+1:Nat):Int)=j+(m:Int)+1 by lia,e];lia
 have:=this (k-j).toNat
 rwa [show j+((k-j).toNat:Int)=k by lia] at this
noncomputable def PER(ts:List Tm):Int:=ts.foldl (fun p t=>Cm p t.2.2.2) 1
theorem ABQ{ts:List Tm}(h:∀t∈ts,OkT t)(hf:falls ts<base){P:Int}(P0:0<P):0<UP base ts P:=by
 have m:=wW h (jt0 (falls ts)) (show (0:Int)<=P by lia);rw[wU h] at m;unfold UP at*
 have:(falls ts+1)*P<=base*P:=jd6 ⋯ ⋯;rw[Int.add_mul,Int.one_mul] at this;lia
theorem wg{ts:List Tm}(h:∀t∈ts,OkT t)(k:Int):ONS ts k<=(ts.length:Int):=by
 unfold ONS
 induction ts with
 | nil=>exact jt0 0
 | cons t ts ih=>
  have i:=ih fun x hx=>h x (qv _ hx);have sg:=(h t qm).sg;rw[jh5,qh];split
  ·rw[zv,Zl];lia
  ·lia
theorem mH:∀{ls:List Int},(∀n∈ls,0<=n/\n<=1000)->0<=ls.sum/\ls.sum<=1000*(ls.length:Int)
 | [],_=>by simp
 | a::ls,h=>by
  have i:=mH (ls:=ls) fun n hn=>h n (qv _ hn);have:=h a qm;rw[Zl,qh];lia
noncomputable def aJ(ls:List Int)(lp:Int)(ts:List Tm)(y:Int):List Int:=ls.set (lp-1).toNat (ls.getD (lp-1).toNat 0+ONS ts y)
structure Jt(ls:List Int)(lp:Int)(ts:List Tm):Prop where
 l0:1<=ls.length
 l1:ls.length<=20
 m:∀n∈ls,0<=n/\n<=1000
 p0:1<=lp
 p1:lp<=(ls.length:Int)
 f0:falls ts<=ls.getD (lp-1).toNat 0
 f1:falls ts<ls.sum
 ok:∀t∈ts,OkT t
 few:ts.length<=6
theorem Jt.sum{ls:List Int}{lp:Int}{ts:List Tm}(g:Jt ls lp ts):0<=ls.sum/\ls.sum<=20000:=by
 have:=mH g.m;have:=g.l1;lia
theorem getD_mem'{ls:List Int}{i:Nat}(h:i<ls.length):ls.getD i 0∈ls:=by
 rw[jj5,zo h];exact jk2 h
theorem rK{ls:List Int}{lp:Int}{ts:List Tm}(g:Jt ls lp ts)(y:Int):∀n∈aJ ls lp ts y,0<=n/\n<=1006:=by
 intro n hn;have p0:=g.p0;have p1:=g.p1;unfold aJ at hn;rcases List.mem_or_eq_of_mem_set hn with z | z
 ·have:=g.m n z;omega
 ·have:=g.m _ (getD_mem' (ls:=ls) (i:=(lp-1).toNat) (by omega));have l:=YT g.ok y;have u:=wg g.ok y;have:=g.few;have:=g.f0;omega
theorem rM{ls:List Int}{lp:Int}{ts:List Tm}{y:Int}:(aJ ls lp ts y).length=ls.length:=by
 unfold aJ;rw[List.length_set]
theorem eO{p L:Nat}{f:Nat->Bool}(h:∀i,i+p<L->f i=f (i+p)):∀(k j:Nat),j<=k->j<L->f j=f (j%p)
 | 0,j,hk,_=>by
  have:j=0:=⋯;subst this;rw[Nat.zero_mod]
 | k+1,j,hk,hj=>by
  by_cases c:j<p
  ·rw[je2 c]
  ·by_cases p0:p=0
   ·subst p0;rw[Nat.mod_zero]
   ·have e:=h (j-p) ⋯;rw[Nat.sub_add_cancel ⋯] at e;have e2:j%p=(j-p)%p:=Nat.mod_eq_sub_mod ⋯;rw[<-e,eO h k (j-p) ⋯ ⋯,e2]
theorem vY:∀(k p q:Nat) (f:Nat->Bool),p+q<=k->0<p->0<q->(∀i,i+p<p+q-Nat.gcd p q->f i=f (i+p))->(∀i,i+q<p+q-Nat.gcd p q->f i=f (i+q))->
 ∀j,j<p+q-Nat.gcd p q->f j=f (j%Nat.gcd p q):=by
 intro k
 induction k with
 | zero=>intro p q f hk p0 q0;lia
 | succ k ih=>
  have main:∀(p q:Nat) (f:Nat->Bool),p+q<=k+1->0<p->p<q->(∀i,i+p<p+q-Nat.gcd p q->f i=f (i+p))->(∀i,i+q<p+q-Nat.gcd p q->f i=f (i+q))->
   ∀j,j<p+q-Nat.gcd p q->f j=f (j%Nat.gcd p q):=by
   intro p q f hk p0 pq hp hq j hj;have eg:Nat.gcd p (q-p)=Nat.gcd p q:=by
    have:q=(q-p)+p:=⋯
    conv=>rhs;rw[this,Nat.gcd_add_self_right]
   have gp:Nat.gcd p q∣p:=ju0 p q;have gr:Nat.gcd p q∣q-p:=by rw[<-eg];exact jn1 p (q-p)
   have gl:=kx p0 gp;have gl2:=kx (show 0<q-p by lia) gr;have e1:p+(q-p)-Nat.gcd p q=q-Nat.gcd p q:=⋯;have:=ih p (q-p) f ⋯ p0 ⋯ (fun i hi=>by
    rw[eg,e1] at hi;exact hp i ⋯) (fun i hi=>by
    rw[eg,e1] at hi;have a:=hq i ⋯;have b:=hp (i+(q-p)) ⋯;rw[a,b]
    congr 1
    lia)
   rw[eg,e1] at this;rw[eO hp j j (qg _) hj,this (j%p) (by have:=jn2 j p0;lia),Nat.mod_mod_of_dvd j gp]
  intro p q f hk p0 q0 hp hq j hj;rcases Nat.lt_trichotomy p q with c | c | c
  ·exact main p q f hk p0 c hp hq j hj
  ·subst c;rw[Nat.gcd_self] at hj ⊢;rw[je2 ⋯]
  ·rw[Nat.gcd_comm] at hp hq hj ⊢;rw[jn8 p q] at hp hq hj;exact main q p f ⋯ q0 c hq hp j hj
theorem On.turn{n:Int}(b:Nat){d e:Int}(h:d%n=e%n):On n b d=On n b e:=by unfold On;rw[h]
theorem Xm{n i:Nat}(h:i<n):On (n:Int) b (i:Int)=b.testBit i:=by
 unfold On;rw[ja8 ⋯ ⋯,zh]
theorem Lst.on{n:Nat}(L:Lst n b z c)(n0:0<n)(e:Int):On (n:Int) b e=On (z:Int) c e:=by
 have:=L.z0;exact Ek.on (n:=(z:Int)) (m:=(n:Int)) ⋯ ⋯ (Int.natCast_dvd_natCast.mpr L.dv) (by rw[zh,zh];exact L.st) e
theorem Lst.tight{n n' b' z':Nat}(L:Lst n b z c)(L':Lst n' b' z' c')(h:∀e:Int,On (z:Int) c e=On (z':Int) c' e):z∣z':=by
 have z0:=L.z0;have z0':=L'.z0;have gz:Nat.gcd z z'∣z:=ju0 z z';have g0:0<Nat.gcd z z':=Nat.gcd_pos_of_pos_left z' z0;have gl:=kx z0 gz;have gl2:=kx z0' (jn1 z z');have key:=vY (z+z') z z' (fun i=>On (z:Int) c (i:Nat)) (qg _) z0 z0' (fun i _=>On.turn c (by
  rw[jl4,jl2])) (fun i hi=>by
  show On (z:Int) c (i:Nat)=On (z:Int) c ((i+z':Nat):Int);rw[h,h];exact On.turn c' (by rw[jl4,jl2]))
 have per:Per z c (Nat.gcd z z'):=⟨g0,gz,fun i j hi hj e=>by
  have a:On (z:Int) c (i:Nat)=On (z:Int) c ((i%Nat.gcd z z':Nat):Int):=key i ⋯;have b:On (z:Int) c (j:Nat)=On (z:Int) c ((j%Nat.gcd z z':Nat):Int):=key j ⋯;rw[Xm hi] at a;rw[Xm hj] at b;rw[a,b,e]⟩
 have ge:Nat.gcd z z'=z:=by
  rcases Nat.lt_or_ge (Nat.gcd z z') z with y | y
  ·exact absurd per (L.min _ y)
  ·lia
 rw[<-ge];exact jn1 z z'
theorem Lst.same{n n' b' z':Nat}(L:Lst n b z c)(L':Lst n' b' z' c')(h:∀e:Int,On (z:Int) c e=On (z':Int) c' e):z=z'/\c=c':=by
 have e:z=z':=Nat.dvd_antisymm (L.tight L' h) (L'.tight L fun e=>(h e).symm);subst e;refine⟨rfl,JG L.lt L'.lt fun i hi=>?_⟩;have:=h (i:Nat)
 rwa [Xm hi,Xm hi] at this
noncomputable def Ny(z:Int)(ds:List Int):List Int:=ds.drop 1++(ds.take 1).map (· +z)
noncomputable def mids(z:Int)(ds:List Int):List Int:=List.zipWith (fun x y=>(x+y)/2+1) ds (Ny z ds)
theorem dG(z:Int)(ds:List Int):(Ny z ds).length=ds.length:=by
 unfold Ny;rw[qc,ja7,jp,jb6];lia
noncomputable abbrev Wd:=List Nat
noncomputable def kL:Wd:=[40]
noncomputable def kR:Wd:=[41]
noncomputable def opd(p:Wd):Wd:=p.dropWhile (· ==40)
noncomputable def core(p:Wd):Wd:=((opd p).reverse.dropWhile (· ==41)).reverse
noncomputable def HX(p:Wd):List Wd:=List.replicate (p.length-(opd p).length) kL++[core p]++List.replicate ((opd p).length-(core p).length) kR
theorem O4(p:Wd):(opd p).length<=p.length:=(jm6 _).length_le
theorem RP(p:Wd):(core p).length<=(opd p).length:=by
 unfold core;rw[jh1];have:=(jm6 (· ==41) (l:=(opd p).reverse)).length_le
 rwa [jh1] at this
noncomputable def jn:List Wd->Wd
 | []=>[]
 | [w]=>w
 | w::y::r=>w++32::jn (y::r)
noncomputable def bA:List Wd->List Wd
 | []=>[]
 | p::r=>(40::p)::r
noncomputable def bB:List Wd->List Wd
 | []=>[]
 | [p]=>[p++[41]]
 | p::q::r=>p::bB (q::r)
theorem JZ{w:Wd}{r:List Wd}(h:r≠[]):jn (w::r)=w++32::jn r:=by
 cases r with
 | nil=>exact absurd rfl h
 | cons y r=>rfl
theorem qG:∀{ps qs:List Wd},ps≠[]->qs≠[]->jn (ps++qs)=jn ps++32::jn qs
 | [],_,h,_=>absurd rfl h
 | [w],qs,_,h=>by rw[List.singleton_append,JZ h];rfl
 | w::y::r,qs,_,h=>by
  rw[jf5,JZ (by simp),qG (by simp) h];show _=(w++32::jn (y::r))++_;simp
theorem ACd{ps:List Wd}(h:ps≠[]):jn (bA ps)=40::jn ps:=by
 match ps,h with
 | [w],_=>rfl
 | w::y::r,_=>rfl
theorem xY:∀{ps:List Wd},ps≠[]->jn (bB ps)=jn ps++[41]
 | [],h=>absurd rfl h
 | [w],_=>rfl
 | w::y::r,_=>by
  have ih:=xY (ps:=y::r) (by simp);have ne:bB (y::r)≠[]:=by cases r<;>simp[bB]
  show jn (w::bB (y::r))=_;rw[JZ ne,ih];show _=(w++32::jn (y::r))++[41];simp
theorem mK:∀{w:Wd} {ws:List Wd},(∀p∈w::ws,32∉p)->L2.spl 32 (jn (w::ws))=w::ws
 | w,[],h=>L2.Ws 32 w (h w qm)
 | w,y::r,h=>by
  show L2.spl 32 (w++32::jn (y::r))=_;rw[L2.Q8 32 w _ (h w qm),mK fun p hp=>h p (qv _ hp)]
theorem Nz{ps:List Wd}(h:ps≠[]):bA ps≠[]:=by cases ps<;>simp_all [bA]
theorem Wh{ps:List Wd}(h:ps≠[]):bB ps≠[]:=by
 match ps,h with
 | [w],_=>simp[bB]
 | w::y::r,_=>simp[bB]
theorem rA:∀(ps:List Wd) {qs:List Wd},qs≠[]->bB (ps++qs)=ps++bB qs
 | [],_,_=>rfl
 | [p],q::r,_=>rfl
 | p::y::r,qs,h=>by
  have:=rA (y::r) h;rw[jf5] at this ⊢;show bB (p::y::(r++qs))=_;show p::bB (y::(r++qs))=_;rw[this];rfl
theorem NQ(p:Wd):opd (40::p)=opd p:=by simp[opd,jb8]
theorem Gs(p:Wd):core (40::p)=core p:=by unfold core;rw[NQ]
theorem Xi{p q:Wd}(h:opd p≠[]):opd (p++q)=opd p++q:=by
 unfold opd at*
 induction p with
 | nil=>exact absurd rfl h
 | cons a p ih=>
  by_cases e:a=40
  ·subst e;simp only[jf5,jb8,beq_self_eq_true,if_true] at*
   exact ih h
  ·simp[jb8,e]
theorem La{p:Wd}(h:opd p≠[]):core (p++[41])=core p:=by
 unfold core;rw[Xi h,jp7];simp[jb8]
theorem Ke{p:Wd}(h:core p≠[]):opd p≠[]:=fun e=>h (by unfold core;rw[e];rfl)
theorem V1(p:Wd):HX (40::p)=kL::HX p:=by
 have:=O4 p;unfold HX;rw[NQ,Gs,qh,Nat.succ_sub this,ja4];rfl
theorem V0{p:Wd}(h:core p≠[]):HX (p++[41])=HX p++[kR]:=by
 have h2:=Ke h;have:=RP p;unfold HX;rw[La h2,Xi h2,qc,qc,show p.length+[41].length-((opd p).length+[41].length)=p.length-(opd p).length by simp,show(opd p).length+[41].length-(core p).length=(opd p).length-(core p).length+1 by simp;lia,List.replicate_succ'];simp
theorem O8{p:Wd}(h1:p.head?≠some 40)(h2:p.getLast?≠some 41):core p=p:=by
 have e1:opd p=p:=by
  cases p with
  | nil=>rfl
  | cons a r=>
   have:a≠40:=fun e=>h1 (by rw[e];rfl);simp[opd,jb8,this]
 unfold core;rw[e1];cases e:p.reverse with
 | nil=>rw[List.dropWhile_nil];rw[List.reverse_eq_nil_iff.mp e];rfl
 | cons a r=>
  have:a≠41:=fun z=>h2 (by rw[List.getLast?_eq_head?_reverse,e,z];rfl);have e2:(a::r).dropWhile (· ==41)=a::r:=by simp[jb8,this]
  rw[e2,<-e,List.reverse_reverse]
theorem iu{p:Wd}(h1:p.head?≠some 40)(h2:p.getLast?≠some 41):HX p=[p]:=by
 have e1:opd p=p:=by
  cases p with
  | nil=>rfl
  | cons a r=>
   have:a≠40:=fun e=>h1 (by rw[e];rfl);simp[opd,jb8,this]
 unfold HX;rw[O8 h1 h2,e1];simp
theorem fG{ps:List Wd}(h:ps≠[]):∃l p,ps=l++[p]:=⟨ps.dropLast,ps.getLast h,(List.dropLast_concat_getLast h).symm⟩
theorem gM{l:List Wd}{p:Wd}:bB (l++[p])=l++[p++[41]]:=rA l (by simp)
noncomputable def tks(ps:List Wd):List Wd:=ps.flatMap HX
theorem lQ{w:Wd}{ps:List Wd}(h:HX w=[w]):tks (w::ps)=w::tks ps:=by
 unfold tks;rw[je6,h];rfl
theorem sI(ps qs:List Wd):tks (ps++qs)=tks ps++tks qs:=jh0
theorem lO{ps:List Wd}(ne:ps≠[])(co:∀p∈ps,core p≠[]):tks (bB (bA ps))=kL::(tks ps++[kR]):=by
 match ps,ne with
 | [f],_=>
  show HX ((40::f)++[41])++[]=kL::((HX f++[])++[kR]);rw[V0 (by rw[Gs];exact co f qm),V1];simp
 | f::y::r,_=>
  obtain⟨l,p,e⟩:=fG (ps:=y::r) (by simp);have E:bB (bA (f::y::r))=(40::f)::(l++[p++[41]]):=by
   show(40::f)::bB (y::r)=_;rw[e,gM]
  rw[E,e];unfold tks;rw[je6,jh0,je6,jt8,je6,jh0,je6,jt8,V1,V0 (co p (by rw[e];simp))];simp
theorem Rc{ps:List Wd}(ne:ps≠[])(bl:∀p∈ps,32∉p):L2.spl 32 (jn ps)=ps:=by
 cases ps with
 | nil=>exact absurd rfl ne
 | cons w ws=>exact mK bl
theorem Vv(c a:Nat)(h:a≠c):∀l:List Nat,l.count a=((L2.spl c l).map fun q=>q.count a).sum
 | []=>rfl
 | b::l=>by
  have ih:=Vv c a h l;by_cases e:b=c
  ·subst e;rw[L2.Wt,zv,Zl,List.count_nil,List.count_cons_of_ne (Ne.symm h),ih,jf9]
  ·rw[L2.Mj l e,zv,Zl,jv2,jv2,ih]
   conv=>lhs;rw[L2.Ky c l,zv,Zl]
   lia
theorem Yb{ws:List Wd}{q:Wd}(h:q∈bB (bA ws))(ne:ws≠[]):∃w∈ws,q=w\/q=40::w\/q=w++[41]\/q=40::w++[41]:=by
 have A:∀q∈bA ws,∃w∈ws,q=w\/q=40::w:=fun q hq=>by
  cases ws with
  | nil=>exact absurd rfl ne
  | cons f r=>
   rcases qf.mp hq with z | z
   ·exact⟨f,qm,.inr z⟩
   ·exact⟨q,qv _ z,.inl rfl⟩
 obtain⟨l,p,e⟩:=fG (Nz ne);rw[e] at A;rw[e,gM] at h;rcases vk.mp h with z | z
 ·obtain⟨w,hw,h⟩:=A q (jg4 _ z);exact⟨w,hw,h.elim .inl fun h=>.inr (.inl h)⟩
 ·obtain⟨w,hw,h⟩:=A p (yv _ qm);rw[zw.mp z];rcases h with h | h
  ·exact⟨w,hw,.inr (.inr (.inl (by rw[h])))⟩
  ·exact⟨w,hw,.inr (.inr (.inr (by rw[h])))⟩
theorem Xy(h:c≠32):∀{ws:List Wd},c∈jn ws->∃w∈ws,c∈w
 | [],m=>(nomatch m)
 | [w],m=>⟨w,qm,m⟩
 | w::x::r,m=>by
  rw[JZ (by simp)] at m;rcases vk.mp m with m | m
  ·exact⟨w,qm,m⟩
  ·rcases qf.mp m with m | m
   ·exact absurd m h
   ·obtain⟨y,hy,z⟩:=Xy h m;exact⟨y,qv _ hy,z⟩
end Fw
namespace Fw
open PySem L2 PyProof.Rows
noncomputable def top(i:Nat):Stmt:=PySem.Challenge.pw_feastwheel_k96_whole_put_shorter.main.body.getD i (.Pass ⟨0,0,0,0⟩)
noncomputable abbrev iY:Stmt:=top 19
noncomputable abbrev VM:Stmt:=top 20
noncomputable abbrev ZG:Stmt:=top 21
noncomputable abbrev VG:Stmt:=top 22
noncomputable abbrev Y5:Stmt:=top 24
noncomputable abbrev MJ:Stmt:=top 33
noncomputable abbrev iZ:Stmt:=top 34
noncomputable abbrev bL:Stmt:=top 35
noncomputable abbrev nU:Stmt:=top 36
noncomputable abbrev Ms:Stmt:=top 42
noncomputable abbrev aq:Stmt:=top 43
noncomputable abbrev ie:Stmt:=top 44
noncomputable abbrev zQ:Stmt:=top 45
noncomputable abbrev ZJ:Stmt:=top 47
noncomputable abbrev ig:Stmt:=top 48
noncomputable abbrev Yx:Stmt:=top 49
noncomputable abbrev Y6:Stmt:=top 50
noncomputable abbrev VP:Stmt:=top 51
noncomputable abbrev uL:Stmt:=top 52
noncomputable abbrev VN:Stmt:=top 53
noncomputable abbrev zU:Stmt:=top 54
noncomputable abbrev nQ:Stmt:=top 55
noncomputable abbrev nO:Stmt:=top 56
noncomputable abbrev iK:Stmt:=top 57
noncomputable abbrev XC:Stmt:=top 58
noncomputable abbrev uM:Stmt:=top 59
noncomputable abbrev bC:Stmt:=top 62
noncomputable abbrev bI:Stmt:=top 63
noncomputable abbrev iT:Stmt:=top 64
noncomputable abbrev XF:Stmt:=top 65
noncomputable abbrev bJ:Stmt:=top 66
noncomputable abbrev Rt:Stmt:=top 67
noncomputable abbrev iU:Stmt:=top 68
noncomputable abbrev iM:Stmt:=top 73
noncomputable abbrev W8:Stmt:=top 74
noncomputable abbrev iW:Stmt:=top 75
noncomputable abbrev Rv:Stmt:=top 76
noncomputable abbrev Oh:Stmt:=top 77
noncomputable abbrev Y7:Stmt:=top 78
noncomputable abbrev GC:Stmt:=inClass (top 79) 0
noncomputable abbrev XN:Stmt:=inClass (top 79) 1
noncomputable abbrev R0:Stmt:=inClass (top 79) 2
noncomputable abbrev Om:Stmt:=inClass (top 79) 3
noncomputable abbrev Qd:Stmt:=top 86
noncomputable abbrev Ga:Stmt:=inClass (top 87) 0
noncomputable abbrev Oj:Stmt:=inClass (top 87) 1
noncomputable abbrev VR:Stmt:=inClass (top 87) 3
noncomputable abbrev ZL:Stmt:=inClass (top 87) 4
noncomputable abbrev Rq:Stmt:=top 91
noncomputable abbrev Yy:Stmt:=top 92
noncomputable abbrev W9:Stmt:=top 93
noncomputable abbrev au:Stmt:=top 94
noncomputable abbrev Y4:Stmt:=top 95
noncomputable abbrev Qf:Stmt:=top 96
noncomputable abbrev Mw:Stmt:=inClass (top 98) 0
noncomputable abbrev s_same:Stmt:=top 103
noncomputable abbrev Qc:Stmt:=top 110
noncomputable abbrev Qg:Stmt:=top 111
noncomputable abbrev Rx:Stmt:=top 112
noncomputable abbrev XJ:Stmt:=top 113
noncomputable abbrev bK:Stmt:=top 115
noncomputable abbrev zO:Stmt:=top 116
noncomputable abbrev uK:Stmt:=top 117
noncomputable abbrev zP:Stmt:=top 118
noncomputable abbrev Ru:Stmt:=top 119
noncomputable abbrev zR:Stmt:=top 120
noncomputable abbrev ACH:Stmt:=top 121
noncomputable abbrev uN:Stmt:=top 122
noncomputable abbrev HH:Stmt:=inClass (top 124) 0
noncomputable abbrev Ol:Stmt:=inClass (top 124) 1
noncomputable abbrev J1:Stmt:=inClass (top 124) 3
noncomputable abbrev JP:Stmt:=inClass (top 124) 4
noncomputable abbrev JQ:Stmt:=inClass (top 124) 5
noncomputable abbrev SM:Stmt:=inClass (top 125) 0
noncomputable abbrev Vb:Stmt:=inClass (top 126) 0
noncomputable abbrev ZK:Stmt:=top 127
noncomputable abbrev Qk:Stmt:=inClass (top 128) 0
noncomputable abbrev U9:Stmt:=top 129
noncomputable abbrev XH:Stmt:=top 130
noncomputable abbrev Gm:Stmt:=inClass (top 131) 0
noncomputable abbrev Rz:Stmt:=inClass (top 132) 0
noncomputable abbrev Qm:Stmt:=inClass (top 133) 0
noncomputable abbrev Mv:Stmt:=inClass (top 134) 0
noncomputable abbrev SJ:Stmt:=inClass (top 135) 0
noncomputable abbrev Mt:Stmt:=inClass (top 136) 0
noncomputable abbrev Oo:Stmt:=inClass (top 137) 0
noncomputable abbrev Qh:Stmt:=inClass (top 138) 0
noncomputable abbrev Oi:Stmt:=inClass (top 139) 0
noncomputable abbrev Qj:Stmt:=inClass (top 140) 0
noncomputable abbrev Qi:Stmt:=inClass (top 141) 0
noncomputable abbrev R8:Stmt:=inClass (top 142) 0
noncomputable abbrev Oq:Stmt:=inClass (top 143) 0
noncomputable abbrev Mu:Stmt:=inClass (top 147) 0
noncomputable abbrev Va:Stmt:=inClass (top 147) 1
noncomputable abbrev VV:Stmt:=inClass (top 147) 2
noncomputable abbrev ak:Stmt:=top 148
noncomputable abbrev Yu:Stmt:=top 149
noncomputable abbrev VF:Stmt:=top 150
noncomputable abbrev VD:Stmt:=top 151
noncomputable abbrev Yv:Stmt:=top 152
noncomputable abbrev Yw:Stmt:=top 153
noncomputable abbrev HF:Stmt:=top 154
noncomputable abbrev JN:Stmt:=top 155
noncomputable abbrev J0:Stmt:=top 156
noncomputable abbrev Ik:Stmt:=top 157
noncomputable abbrev Jz:Stmt:=top 158
noncomputable abbrev Y9:Stmt:=top 159
noncomputable abbrev Y8:Stmt:=top 160
noncomputable abbrev bD:Stmt:=top 161
noncomputable abbrev Yz:Stmt:=top 162
noncomputable abbrev VB:Stmt:=top 164
noncomputable abbrev az:Stmt:=top 165
noncomputable abbrev iR:Stmt:=top 166
noncomputable abbrev iQ:Stmt:=top 172
noncomputable abbrev Ry:Stmt:=top 173
noncomputable abbrev Ys:Stmt:=top 174
noncomputable abbrev Yt:Stmt:=top 175
noncomputable abbrev ao:Stmt:=top 176
noncomputable abbrev W7:Stmt:=top 177
noncomputable abbrev Yp:Stmt:=top 178
noncomputable abbrev Yr:Stmt:=top 179
noncomputable abbrev Rp:Stmt:=top 183
noncomputable abbrev Yq:Stmt:=top 184
noncomputable abbrev Ro:Stmt:=top 187
noncomputable abbrev iV:Stmt:=top 188
noncomputable abbrev ZC:Stmt:=top 189
noncomputable abbrev VH:Stmt:=top 190
noncomputable abbrev zT:Stmt:=top 191
noncomputable abbrev Ql:Stmt:=inClass (top 192) 0
noncomputable abbrev bM:Stmt:=inClass (top 192) 1
noncomputable abbrev VL:Stmt:=top 194
noncomputable abbrev VJ:Stmt:=top 195
noncomputable abbrev bH:Stmt:=top 196
noncomputable abbrev ZD:Stmt:=top 197
noncomputable abbrev bF:Stmt:=top 198
noncomputable abbrev bG:Stmt:=top 199
noncomputable abbrev ZF:Stmt:=top 200
noncomputable abbrev dq:Stmt:=top 201
def nF(K:Fr):Sp:=fun vs H Q _=>Ex3 fun(a:Addr) (ns:List Int) (k:Int)=>An5 (vs=[.ref a,.int k]) (SqL K H a (ns.map V.int)) (0<=k) (ns.length<=63) (Q (.int (ns.getD k.toNat 0)) H)
def sX:Sp:=fun vs H Q _=>∃i:Int,vs=[.int i]/\Q (.bl true) H
variable{K:Fr}{a:Addr}{H:Hp}{Q:VK}{E:XK}
theorem K3{ns:List Int}{k:Int}(hS:SqL K H a (ns.map V.int))(hl:ns.length<=63)(hk:0<=k)(h:Q (.int (ns.getD k.toNat 0)) H):nF K ([.ref a,.int k]++[]) H Q E:=⟨a,ns,k,rfl,hS,hk,hl,h⟩
variable{i:Int}
theorem ZP(h:Q (.bl true) H):sX ([.int i]++[]) H Q E:=⟨i,rfl,h⟩
theorem gP{ns:List Int}{k:Int}(h0:0<=k)(h:k<(ns.length:Int)):atI (ns.map V.int) k=some (.int (ns.getD k.toNat 0)):=by
 have hk:k.toNat<ns.length:=⋯;have ek:k=((k.toNat:Nat):Int):=⋯;have q:atI (ns.map V.int) ((k.toNat:Nat):Int)=some (.int ns[k.toNat]):=DY (by rw[qq,zo hk]<;>rfl);rw[<-ek] at q;rw[q];simp[List.getD,hk]
theorem p40:(10:Int)^(40:Int).toNat=10000000000000000000000000000000000000000:=nofun
theorem p39:(10:Int)^(39:Int).toNat=1000000000000000000000000000000000000000:=nofun
theorem bt_of{x:Int}(h1: -1000000000000000000000000000000000000000000000000000000000000<=x)(h2:x<=1000000000000000000000000000000000000000000000000000000000000):Bt 200 x:=by
 unfold Bt;have:(2:Nat)^200=1606938044258990275541962092341162602522202993782792835301376:=nofun;lia
theorem Ij{a b:V}:([a,b]:List V).length<=sizeLine:=by show 2<=sizeLine;decide
variable{y:V}
theorem at0{x:V}:atI [x,y] 0=some x:=rfl
theorem at1{x:V}:atI [x,y] 1=some y:=rfl
local macro_rules | `(tactic| symm)=> `(tactic| (repeat (first | fail "r" | ((with_reducible refine' Fw.K3 ?hc1 ?hc2 ?hc3 ?_);(case hc1=>assumption);(case hc2=>assumption);(case hc3=>decide)) | with_reducible refine Fw.ZP ?_)))
local macro_rules | `(tactic| exists $e)=> `(tactic| (refine $e;symm))
def mV:Sp:=fun vs H Q _=>∃n:Int,An3 (vs=[.int n]) (1<=n) (Q .non H)
def ADU:Sp:=fun vs H Q _=>Ex2 fun(a b:Int)=>An4 (vs=[.int a,.int b]) (Bt 500 a) (Bt 500 b) (∀(p:Addr) (u v g:Int) (H':Hp),Aw H H'->H' p=some (.tup [.int u,.int v,.int g])->Eqn a b u v g->Q (.ref p) H')
def iD:Sp:=fun vs H Q _=>Ex2 fun(a b:Int)=>An4 (vs=[.int a,.int b]) (Bt 500 a) (Bt 500 b) (∀H',Aw H H'->Q (.int (Int.gcd a b:Int)) H')
def nD:Sp:=fun vs H Q _=>Ex2 fun(a b:Int)=>An6 (vs=[.int a,.int b]) (0<a) (0<b) (Bt 500 a) (Bt 500 b) (∀H',Aw H H'->Q (.int (Cm a b)) H')
theorem ABM{x z:V}:atI [x,y,z] 0=some x:=rfl
theorem ABL{x z:V}:atI [x,y,z] 1=some y:=rfl
theorem aH{x z:V}:atI [x,y,z] 2=some z:=rfl
theorem three{a b c:V}:([a,b,c]:List V).length<=sizeLine:=by show 3<=sizeLine;decide
theorem two{a b:V}:([a,b]:List V).length<=sizeLine:=by show 2<=sizeLine;decide
theorem gK{k m:Nat}{x y:Int}(h:Bt k y)(l:x.natAbs<=4*y.natAbs+4)(hk:k+4<=m):Bt m x:=by
 unfold Bt at*
 have p:2^(k+4)<=2^m:=vi nofun hk;have e:2^(k+4)=2^k*16:=by rw[jq0]
 lia
theorem AAz{k m:Nat}{x y z:Int}(h:Bt k y)(h':Bt k z)(l:x.natAbs<=y.natAbs+z.natAbs+4)(hk:k+4<=m):Bt m x:=by
 unfold Bt at*
 have p:2^(k+4)<=2^m:=vi nofun hk;have e:2^(k+4)=2^k*16:=by rw[jq0]
 lia
theorem Ca{k:Nat}{x:Int}(h0:0<=x)(h1:x<18446744073709551616)(hk:64<=k):Bt k x:=Bt.mono (k:=64) (by unfold Bt;lia) hk
def zG:Sp:=fun vs H Q _=>∃n:Int,An4 (vs=[.int n]) (0<=n) (n<=1000000) (Q (.int ((2^n.toNat-1:Nat):Int)) H)
def ABp(K:Fr):Sp:=fun vs H Q _=>Ex4 fun(a:Addr) (n d:Int) (b:Nat)=>An4 (vs=[.ref a,.int d]) (SqT K H a [.int n,.int (b:Int)]) (0<n) (Q (.bl (On n b d)) H)
variable{b:Nat}
theorem Ir{n:Nat}(h:b<2^n):Bt n (b:Int):=by unfold Bt;rw[Int.natAbs_natCast];exact h
theorem zz(b k:Nat):decide (V.int (((b:Nat):Int)/2^k%2)=V.int 1)=b.testBit k:=by
 rw[<-ACX,kr];simp
theorem bt1:Bt 1 1:=by unfold Bt;decide
variable{c:Nat}
theorem eq2{n:Int}(h:b=c):Tp [V.int n,V.int (b:Int)] [V.int n,V.int (c:Int)]=true:=by
 subst h;show((n==n)&&(((b:Int)==(b:Int))&&true))=true;simp
theorem Us{k:Nat}{d n:Int}(h:Bt k d)(hn:0<n):Bt k (d/n):=by
 refine h.le ?_;rcases ju9 d 0 with c | c
 ·have h1:d/n<0:=Int.ediv_neg_of_neg_of_pos c hn;have h2:d<=d/n:=(Int.le_ediv_iff_mul_le hn).mpr (by
   have:=Int.mul_le_mul_of_nonpos_left (show d<=0 by lia) (show 1<=n by lia);lia)
  lia
 ·have h1:0<=d/n:=jl3 c ⋯;have h2:d/n<=d:=jj9 n c;lia
def tM:Sp:=fun vs H Q _=>Ex3 fun(b k n:Nat)=>An5 (vs=[.int (b:Int),.int (k:Int)]) (b<2^n) (n<=150000) (k<cnt b n) (∀(p:Nat) H',Aw H H'->b.testBit p=true->cnt b p=k->Q (.int (p:Int)) H')
theorem wJ{k:Nat}(h:k<=150000):Bt 18 (k:Int):=Ir (uj h nofun)
theorem yD{k:Nat}{n d:Int}(hn:0<n)(h1:n<=150000)(hd:Bt k d):Bt (k+19) (CC n b d):=by
 have m0:=ze d (show n≠0 by lia);have m1:=qo d hn;have c1:=Tw b n.toNat;have c2:=Tw b (d%n).toNat;unfold CC;exact((Us hd hn).mul (wJ ⋯)).add ((wJ ⋯).mono ⋯)
theorem Sh{f:Int->Int->V}{j:Int}(h:Q (f i j) H)(a:0<=i:=by lia)(b:i<18446744073709551616:=by lia)(c:0<=j:=by lia)(d:j<18446744073709551616:=by lia):rI gW f (.int i) (.int j) H Q:=Dj ⟨64,64,Ca a b nofun,Ca c d nofun,nofun⟩ h
def gh:Sp:=fun vs H Q _=>∃n:Int,An3 (vs=[.int n]) (n<=150000) (Q .non H)
def iG(K:Fr):Sp:=fun vs H Q _=>Ex4 fun(a:Addr) (n z:Int) (b:Nat)=>An8 (vs=[.ref a,.int z]) (SqT K H a [.int n,.int (b:Int)]) (0<n) (n<=300000) (b<2^n.toNat) (0<z) (z<=150000) (∀c:Nat,Ek n.toNat b z.toNat c->Q (.int (c:Int)) H)
theorem wQ(b k:Nat):decide (V.int (Builtin.bitAnd ((b:Int)/2^k) 1)=V.int 1)=b.testBit k:=by
 rw[GZ,show(1:Int)=((1:Nat):Int) from rfl,Cu,Nat.and_one_is_mod,<-zz]
 congr 1
 rw[GZ];have e:(((b >>> k:Nat):Int)%2)=((b >>> k%2:Nat):Int):=⋯;rw[e];rfl
noncomputable def S5(b k:Nat):List V:=(List.range k).map fun j=>V.int ((pc b j:Nat):Int)
theorem M9(b k:Nat):(S5 b k).length=k:=by unfold S5;simp
theorem NK{k j:Nat}(h:j<k):(S5 b k)[j]?=some (V.int ((pc b j:Nat):Int)):=by
 unfold S5;rw[qq,List.getElem?_range h];rfl
theorem jA(k:Nat):(List.replicate k [V.int 0]).flatten=S5 0 k:=by
 unfold S5;have:(fun j=>V.int ((pc 0 j:Nat):Int))=fun _=>V.int 0:=by
  funext j
  unfold pc;simp
 rw[this,List.map_const',je7]
 induction k with
 | zero=>rfl
 | succ k ih=>rw[ja4,kc,ih,ja4];rfl
theorem o8{k p:Nat}(h:p/256<k):(S5 b k).set (p/256) (V.int ((pc b (p/256) ||| 2^(p%256):Nat):Int))=S5 (b ||| 2^p) k:=by
 refine List.ext_getElem? fun j=>?_;rw[List.getElem?_set];by_cases hj:j<k
 ·rw[NK hj];by_cases c:p/256=j
  ·rw[xz c,xz (by rw[M9];lia)];subst c;rw[NK hj,pA]
  ·rw[yb c,NK hj,o9 (Ne.symm c)]
 ·have e:∀b,(S5 b k)[j]?=none:=fun b=>ji7 (by rw[M9];lia);rw[yb ⋯,e,e]
def gn(K:Fr):Sp:=fun vs H Q _=>Ex3 fun(a:Addr) (ds:List Int) (n:Int)=>An5 (vs=[.int n,.ref a]) (SqL K H a (ds.map V.int)) (0<n) (n<=150000) (∀(p:Addr) (b:Nat) (H':Hp),Aw H H'->H' p=some (.tup [.int n,.int (b:Int)])->RB n ds b->Q (.ref p) H')
theorem uW{n:Int}(hn:0<n)(hb:b<2^n.toNat):b%2^(256*((n/256+1).toNat))=b:=
 je2 (xi hb (vi nofun ⋯))
structure Bo(f:Bool->Bool->Bool)(n1:Int)(b1:Nat)(n2:Int)(b2:Nat)(z:Int)(c:Nat):Prop where
 lt:c<2^z.toNat
 bit:∀i,i<z.toNat->c.testBit i=f (b1.testBit (i%n1.toNat)) (b2.testBit (i%n2.toNat))
def tO(K:Fr):Sp:=fun vs H Q _=>Ex3 fun(a:Addr) (n:Int) (b:Nat)=>An6 (vs=[.ref a]) (SqT K H a [.int n,.int (b:Int)]) (0<n) (n<=150000) (b<2^n.toNat) (∀(p:Addr) (c:Nat),H p=none->c<2^n.toNat->(∀i,i<n.toNat->c.testBit i=!b.testBit i)->Q (.ref p) (upd H p (.tup [.int n,.int (c:Int)])))
noncomputable def dl(b m:Nat):List Nat:=(List.range m).filter fun i=>b.testBit i
noncomputable def dli(b m:Nat):List Int:=(dl b m).map fun(i:Nat)=>(i:Int)
theorem qd(b m k:Nat):dl b (m+k)=dl b m++((List.range k).filter fun i=>b.testBit (m+i)).map fun i=>m+i:=by
 unfold dl;rw[List.range_add,jd7,jv4];rfl
theorem vo{n:Nat}(hb:b<2^n)(k:Nat):dl b (n+k)=dl b n:=by
 rw[qd];have:((List.range k).filter fun i=>b.testBit (n+i))=[]:=by
  rw[List.filter_eq_nil_iff];intro i _;rw[high hb ⋯];exact zk
 rw[this,jr0,ya]
theorem AAr(b m:Nat):(dl b m).length<=m:=by
 unfold dl;exact qr (jb9 _ _) (by simp)
theorem mem_dl{m i:Nat}:i∈dl b m<->i<m/\b.testBit i=true:=by
 unfold dl;rw[jc3,jh8]
theorem YB(b m:Nat):(dli b m).length<=m:=by
 unfold dli;rw[jp];exact AAr b m
def nA(K:Fr):Sp:=fun vs H Q _=>Ex3 fun(a:Addr) (n:Int) (b:Nat)=>An6 (vs=[.ref a]) (SqT K H a [.int n,.int (b:Int)]) (0<n) (n<=150000) (b<2^n.toNat) (∀(l:Addr) (H':Hp),H l=none->Aw H H'->H' l=some (.lst ((dli b n.toNat).map V.int))->Q (.ref l) H')
theorem iz(b m i:Nat):(Builtin.bitAnd (((b/2^m%2^256:Nat):Int)/2^i) 1 != 0)=(decide (i<256)&&b.testBit (m+i)):=by
 have h:(b/2^m%2^256).testBit i=(decide (i<256)&&b.testBit (m+i)):=by
  rw[jc4,<-yi,kq]
 rw[GZ,show(1:Int)=((1:Nat):Int) from rfl,Cu,Nat.and_one_is_mod,<-h,jg3,yi,kr];simp only[bne_iff_ne,decide_eq_true_eq];lia
theorem Zn(b m:Nat):((dli b m).map V.int)++(((((List.range 256).map fun i=>V.int (0+(i:Nat)))).filter fun v=>match v with | .int d=>b.testBit (m+d.toNat) | _=>false).map fun v=>match v with | .int d=>V.int ((m:Int)+d) | _=>.non)=(dli b (m+256)).map V.int:=by
 unfold dli;rw[qd,uu,uu]
 congr 1
 rw[jv4,va,va,va];have e:((fun v:V=>match v with | .int d=>b.testBit (m+d.toNat) | _=>false) ∘ fun i:Nat=>V.int (0+(i:Nat)))=fun i=>b.testBit (m+i):=by
  funext i
  show b.testBit (m+(0+(i:Int)).toNat)=_;rw[show (0+(i:Int)).toNat=i by lia]
 rw[e];refine jk7 fun i _=>?_;show V.int ((m:Int)+(0+(i:Int)))=V.int (((m+i:Nat):Int));rw[show (m:Int)+(0+(i:Int))=((m+i:Nat):Int) by lia]
theorem jq(xs:List Int):Im (xs.map V.int) (some 1) none=(xs.drop 1).map V.int:=jr xs 1
theorem jo(xs:List V):Im xs none (some 1)=xs.take 1:=ql xs 1
theorem qp{b:Addr}{xs ys:List Int}{Z:L2.St}{te:TE}(ha:SqL K H a (xs.map V.int))(hb:SqL K H b (ys.map V.int))(hl:xs.length<sizeLine)(f:Int->Int->Int)
 (he:∀(x y:Int) (H':Hp) (Q':VK),Q' (.int (f x y)) H'->te (some (.int x)::some (.int y)::Z) H' Q')
 (h:∀(D:Addr) (H':Hp),H D=none->Aw H H'->H' D=some (.lst ((List.zipWith f xs ys).map V.int))->Q (.ref D) H'):
 Uy 2 (qQ K 2 (WF (HR 0) (WF (HR 1) vX))) dR te Z Q (aK K a b false false) H:=by
 intro D hD;have zl:(List.zipWith f xs ys).length=min xs.length ys.length:=List.length_zipWith;refine⟨fun i m zs H2=>i<=min xs.length ys.length/\m=min xs.length ys.length-i/\zs=((List.zipWith f xs ys).take i).map V.int/\H2 D=some (.lst zs)/\Aw H H2,⟨_,vt _,rfl,rfl,Am,Av hD _⟩,?_⟩;rintro i m zs H2 ⟨hi,rfl,rfl,hz,s2⟩;refine⟨hz,?_⟩;by_cases c:i<min xs.length ys.length
 ·have c1:i<xs.length:=⋯
  have c2:i<ys.length:=⋯;have ex:(xs.map V.int)[i]?=some (.int xs[i]):=by rw[qq,zo c1];rfl
  have ey:(ys.map V.int)[i]?=some (.int ys[i]):=by rw[qq,zo c2];rfl
  refine .inr ⟨⟨_,_,_,_,s2.seq ha,s2.seq hb,ex,ey⟩,?_,min xs.length ys.length-(i+1),⋯,?_⟩
  ·rw[jp,jb6];lia
  rintro v H3 ⟨T,x,y,hT,rfl,rfl,hxy⟩ ρ hρ;obtain⟨gx,gy⟩:=hxy _ _ (s2.seq ha) (s2.seq hb);rw[ex] at gx;rw[ey] at gy;cases gx;cases gy;obtain⟨p,q,rfl⟩:∃p q,ρ=[p,q]:=by
   match ρ,hρ with
   | [p,q],_=>exact⟨p,q,rfl⟩
  refine⟨T,[.int xs[i],.int ys[i]],rfl,SqT.of Am,rfl,.int xs[i],[.int ys[i]],rfl,.int ys[i],[],rfl,⟨rfl,[some (.int xs[i]),some (.int ys[i])],rfl,rfl,?_⟩⟩;refine RD ?_;rw[xz rfl];have nT:D≠T:=Bj hz hT;refine he _ _ _ _ ⟨by rw[Ax nT];exact hz,⋯,rfl,?_,Am,?_⟩
  ·rw[jw3,uu]
   congr 1
   have:(List.zipWith f xs ys)[i]?=some (f xs[i] ys[i]):=by
    rw[List.getElem?_zipWith',zo c1,zo c2];rfl
   rw[this];rfl
  ·exact Eo hD (s2.trans (Av hT _))
 ·have e:i=min xs.length ys.length:=⋯
  refine .inl ⟨⟨_,_,s2.seq ha,s2.seq hb,by rw[jp,jp];exact e⟩,h D H2 hD s2 ?_⟩;rw[hz,vn ⋯]
def yu(K:Fr):Sp:=fun vs H Q _=>Ex5 fun(a:Addr) (n f e:Int) (b:Nat)=>An8 (vs=[.ref a,.int f,.int e]) (SqT K H a [.int n,.int (b:Int)]) (0<n) (n<=150000) (b<2^n.toNat) (Bt 250 f) (Bt 250 e) (∀H',Aw H H'->Q (.int (CC n b e-CC n b f)) H')
def yj:Sp:=fun vs H Q _=>Ex2 fun(b n:Nat)=>An4 (vs=[.int (b:Int)]) (b<2^n) (n<=150000) (∀H',Aw H H'->Q (.int ((cnt b n:Nat):Int)) H')
def uE(K:Fr):Sp:=fun vs H Q _=>Ex4 fun(a:Addr) (n d:Int) (b:Nat)=>An7 (vs=[.ref a,.int d]) (SqT K H a [.int n,.int (b:Int)]) (0<n) (n<=150000) (b<2^n.toNat) (Bt 260 d) (∀H',Aw H H'->Q (.int (CC n b d)) H')
theorem fZ{w z f:Nat}(w0:0<w)(hf:f<2^z)(S:Ek (2*w) (2^w-1) z c)(k:Nat):Ev w (f/2^k) ((f/2^k) &&& c):=fun i=>by
 rw[ja5];have fl:f/2^k<2^z:=uj (Nat.div_le_self _ _) hf;by_cases h:i<z
 ·rw[S.bit i h,je9]
 ·rw[high fl ⋯];rfl
structure RC(K:Fr)(CR C:Addr):Prop where
 cl:Cls K C
 k:Dr K C "kept"
 m:Dr K C "made_of"
 w:Dr K C "words"
 ca:PySem.W.findIn K (.ref C) "__class__"=some (some (.builtin "object.__class__"))
 ob:PySem.W.mroIn K C (.type "object")=some true
 isr:PySem.W.kitOne K (.ref C) (.ref CR)=some true
noncomputable def rF(p pm pw:Addr):List (Str×V):=[("kept",.ref p),("made_of",.ref pm),("words",.ref pw)]
structure Gh(K:Fr)(CR:Addr)(CL:List Addr)(H:Hp)(x:Addr)(n:Int)(b:Nat):Prop where
 ex:∃C dx p pm pw,C∈CL/\RC K CR C/\H x=some (.ins C dx (rF p pm pw))/\H p=some (.tup [.int n,.int (b:Int)])
 n0:0<n
 n1:n<=150000
 lt:b<2^n.toNat
variable{x:Addr}{H':Hp}
def KB(x:Addr)(H H':Hp):Prop:=∀y o,y≠x->H y=some o->H' y=some o
variable{H1:Hp}
theorem KB.pre(s:Aw H H1)(k:KB x H1 H'):KB x H H':=fun y o h e=>k y o h (s _ _ e)
variable{o:HO}
theorem V4{dx:Addr}{o':HO}(hx:H1 x=none)(hd:H1 dx=none)(ne:dx≠x)(k:KB x (upd (upd H1 dx o) x o') H'):Aw H1 H':=fun y u e=>by
 have y1:y≠x:=Bj e hx;have y2:y≠dx:=Bj e hd;exact k y u y1 (by rw[Ax y1,Ax y2];exact e)
def Ww(K:Fr)(CR:Addr):Sp:=fun vs H Q _=>Ex6 fun(x p pm pw C dx:Addr)=>An4 (vs=[.ref x,.ref p,.ref pm,.ref pw]) (H x=some (.ins C dx [])) (RC K CR C) (∀H',KB x H H'->H' x=some (.ins C dx (rF p pm pw))->Q .non H')
def Kz(K:Fr)(CR:Addr)(CL:List Addr):Sp:=fun vs H Q _=>Ex3 fun(x:Addr) (n:Int) (b:Nat)=>An3 (vs=[.ref x]) (Gh K CR CL H x n b) (∀p,H p=some (.tup [.int n,.int (b:Int)])->Q (.ref p) H)
def di(K:Fr)(CR:Addr)(CL:List Addr):Sp:=fun vs H Q _=>Ex4 fun(x:Addr) (n d:Int) (b:Nat)=>An3 (vs=[.ref x,.int d]) (Gh K CR CL H x n b) (Q (.bl (On n b d)) H)
structure xr(K:Fr)(H:Hp)(a1 a2:Addr)(n1 n2:Int)(b1 b2:Nat):Prop where
 s1:SqT K H a1 [.int n1,.int (b1:Int)]
 s2:SqT K H a2 [.int n2,.int (b2:Int)]
 p1:0<n1
 p2:0<n2
 l1:n1<=150000
 l2:n2<=150000
 k1:b1<2^n1.toNat
 k2:b2<2^n2.toNat
def ADV(K:Fr):Sp:=fun vs H Q _=>Ex6 fun(a1 a2:Addr) (n1 n2:Int) (b1 b2:Nat)=>An9 (vs=[.ref a1,.ref a2]) (SqT K H a1 [.int n1,.int (b1:Int)]) (SqT K H a2 [.int n2,.int (b2:Int)]) (0<n1) (0<n2) (n1<=150000) (n2<=150000) (Cm n1 n2<=150000) (∀H',Aw H H'->Q (.int (Cm n1 n2)) H')
def Pk(K:Fr):Sp:=fun vs H Q _=>Ex4 fun(a:Addr) (n z:Int) (b:Nat)=>An9 (vs=[.ref a,.int z]) (SqT K H a [.int n,.int (b:Int)]) (0<n) (n<=150000) (b<2^n.toNat) (0<z) (z<=150000) (n∣z) (∀(p:Addr) (c:Nat),H p=none->Ek n.toNat b z.toNat c->Q (.ref p) (upd H p (.tup [.int z,.int (c:Int)])))
def tZ(K:Fr):Sp:=fun vs H Q _=>Ex4 fun(a:Addr) (n num:Int) (b:Nat)=>An6 (vs=[.ref a,.int num]) (SqT K H a [.int n,.int (b:Int)]) (0<n) (n<=150000) (b<2^n.toNat) (∀p,H p=none->Q (.ref p) (upd H p (.tup [.int n,.int ((lat n.toNat b (num%n).toNat:Nat):Int)])))
theorem fQ{n z:Int}(n0:0<n)(z0:0<z)(h:n∣z):Cm n z=z:=by
 have f:=Bx n0 z0;have h1:Cm n z∣z:=f.2.2.2.2.1 _ h (ju7 _);exact Int.dvd_antisymm ⋯ ⋯ h1 f.2.2.1
theorem lcm_self{n:Int}(h:0<n):Cm n n=n:=fQ h h (ju7 n)
noncomputable abbrev Rel:=Int->Nat->Int->Nat->Int->Nat->Prop
variable{c':Nat}
theorem Bo.uniq{f:Bool->Bool->Bool}{n1 n2 z:Int}{b1 b2:Nat}(B:Bo f n1 b1 n2 b2 z c)(B':Bo f n1 b1 n2 b2 z c'):c=c':=JG B.lt B'.lt fun i hi=>by rw[B.bit i hi,B'.bit i hi]
theorem RB.uniq{n:Int}{ds:List Int}{b':Nat}(n0:0<n)(B:RB n ds b)(B':RB n ds b'):b=b':=JG B.lt B'.lt fun i hi=>by
 have e:=(B.bit (i:Int)).trans (B'.bit (i:Int)).symm;unfold On at e
 rwa [ja8 ⋯ ⋯,zh] at e
def OtR(n:Int)(b c:Nat):Prop:=c<2^n.toNat/\∀i,i<n.toNat->c.testBit i=!b.testBit i
theorem OtR.uniq{n:Int}(h:OtR n b c)(g:OtR n b c'):c=c':=JG h.1 g.1 fun i hi=>by rw[h.2 i hi,g.2 i hi]
noncomputable def ltr(n:Int)(b:Nat)(s:Int):Nat:=lat n.toNat b (s%n).toNat
inductive Uw(J:Bool->Bool->Bool)(n:Int):Nat->Nat->Int->Nat->Prop
 | stop {t f:Nat} {s:Int}:n<=(s.natAbs:Int)->Uw J n t f s t
 | step {t f x y z r:Nat} {s:Int}:(s.natAbs:Int)<n->Bo and n (ltr n t s) n f n x->Bo J n t n x n y->Bo and n f n (ltr n f s) n z->Uw J n y z (2*s) r->Uw J n t f s r
theorem Uw.uniq{J:Bool->Bool->Bool}{n:Int}{t f:Nat}{s:Int}{r r':Nat}(h:Uw J n t f s r):Uw J n t f s r'->r=r':=by
 induction h with
 | stop a=>
  intro g;cases g with
  | stop=>rfl
  | step b=>lia
 | step a B1 B2 B3 _ ih=>
  intro g;cases g with
  | stop b=>lia
  | step _ C1 C2 C3 h=>
   cases B1.uniq C1;cases B2.uniq C2;cases B3.uniq C3;exact ih h
def GR(J:Bool->Bool->Bool)(n:Int)(b c:Nat)(e:Int)(g:Nat):Prop:=∃o,OtR n c o/\Uw J n b o e g
theorem GR.uniq{J:Bool->Bool->Bool}{n e:Int}{g g':Nat}:GR J n b c e g->GR J n b c e g'->g=g':=fun⟨_,h1,h2⟩ ⟨_,g1,g2⟩=>by
 cases h1.uniq g1;exact h2.uniq g2
def UpR(e:Int):Rel:=fun n1 b1 n2 b2 z c=>∃r s g,Ek n1.toNat b1 z.toNat r/\Ek n2.toNat b2 z.toNat s/\GR or z s (ltr z r e) e g/\Bo and z r z g z c
theorem UpR.uniq{e n1 n2 z:Int}{b1 b2:Nat}:UpR e n1 b1 n2 b2 z c->UpR e n1 b1 n2 b2 z c'->c=c':=fun⟨_,_,_,h1,h2,h3,h4⟩ ⟨_,_,_,g1,g2,g3,g4⟩=>by
 cases h1.uniq g1;cases h2.uniq g2;cases h3.uniq g3;exact h4.uniq g4
def TiR:Rel:=fun n1 b1 n2 b2 z c=>∃r s,Ek n1.toNat b1 z.toNat r/\Ek n2.toNat b2 z.toNat s/\GR or z r s 1 c
theorem TiR.uniq{n1 n2 z:Int}{b1 b2:Nat}:TiR n1 b1 n2 b2 z c->TiR n1 b1 n2 b2 z c'->c=c':=fun⟨_,_,h1,h2,h3⟩ ⟨_,_,g1,g2,g3⟩=>by
 cases h1.uniq g1;cases h2.uniq g2;exact h3.uniq g3
def ACz(n:Int)(b c:Nat):Prop:=∃e,RB n (mids n (dli b n.toNat)) e/\TiR n b n e n c
noncomputable def bn(a b:Bool):Bool:=a&&!b
def NeR:Rel:=fun n1 b1 n2 b2 z c=>0<n1/\∃a x u y v,ACz n1 b1 a/\Bo and n2 b2 n1 a z x/\UpR (-1) n1 b1 z x z u/\Bo bn n2 b2 n1 a z y/\UpR 1 n1 b1 z y z v/\Bo or z u z v z c
theorem NeR.uniq{n1 n2 z:Int}{b1 b2:Nat}:NeR n1 b1 n2 b2 z c->NeR n1 b1 n2 b2 z c'->c=c':=fun⟨n0,_,_,_,_,_,⟨_,a1,a2⟩,h2,h3,h4,h5,h6⟩ ⟨_,_,_,_,_,_,⟨_,c1,c2⟩,g2,g3,g4,g5,g6⟩=>by
 cases a1.uniq n0 c1;cases a2.uniq c2;cases h2.uniq g2;cases h3.uniq g3;cases h4.uniq g4;cases h5.uniq g5;exact h6.uniq g6
inductive KlR(z:Int)(s:Nat)(e:Int):Int->Nat->Nat->Prop
 | stop {p:Int} {t c:Nat}:¬(1<p/\0<t)->UpR e z t z s z c->KlR z s e p t c
 | step {p:Int} {t g o t' c:Nat}:1<p->0<t->GR xor z t s e g->Bo and z t z g z o->(p%2=1->t'=o)->(¬p%2=1->Bo bn z t z o z t')->KlR z s e ((p+1)/2) t' c->KlR z s e p t c
theorem KlR.uniq{z e:Int}{s:Nat}{p:Int}{t:Nat}(h:KlR z s e p t c):KlR z s e p t c'->c=c':=by
 induction h with
 | stop a U=>
  intro g;cases g with
  | stop _ V=>exact U.uniq V
  | step b b'=>exact absurd ⟨b,b'⟩ a
 | @step p _ _ _ _ _ a a' G B o o' _ ih=>
  intro g;cases g with
  | stop b=>exact absurd ⟨a,a'⟩ b
  | step _ _ G' B' q q' h=>
   cases G.uniq G';cases B.uniq B';by_cases c:p%2=1
   ·cases (o c).trans (q c).symm;exact ih h
   ·cases (o' c).uniq (q' c);exact ih h
def KtR(k:Int):Rel:=fun n1 b1 n2 b2 z c=>∃(r s x:Nat) (e:Int),Ek n2.toNat b2 z.toNat s/\(0<k->e=1/\x=s)/\(¬0<k->e= -1/\x=ltr z s (-1))/\Ek n1.toNat b1 z.toNat r/\KlR z x e (k.natAbs:Int) r c
theorem KtR.uniq{k n1 n2 z:Int}{b1 b2:Nat}:KtR k n1 b1 n2 b2 z c->KtR k n1 b1 n2 b2 z c'->c=c':=fun⟨_,_,_,_,h1,h2,h3,h4,h5⟩ ⟨_,_,_,_,g1,g2,g3,g4,g5⟩=>by
 cases h1.uniq g1;cases h4.uniq g4;by_cases c:0<k
 ·obtain⟨rfl,rfl⟩:=h2 c;obtain⟨rfl,rfl⟩:=g2 c;exact h5.uniq g5
 ·obtain⟨rfl,rfl⟩:=h3 c;obtain⟨rfl,rfl⟩:=g3 c;exact h5.uniq g5
noncomputable def evl(k d n:Int)(b:Nat):List Int:=(List.range (dli b n.toNat).length).map fun(i:Nat)=>Ka n (dli b n.toNat) (CC n b d%k+(i:Int)*k)
section
variable(K:Fr)
def spJ(R:Rel):Sp:=fun vs H Q _=>Ex6 fun(a1 a2:Addr) (n1 n2:Int) (b1 b2:Nat)=>An4 (vs=[.ref a1,.ref a2]) (xr K H a1 a2 n1 n2 b1 b2) (Cm n1 n2<=150000) (∀(p:Addr) (c:Nat) (H':Hp),Aw H H'->H' p=some (.tup [.int (Cm n1 n2),.int (c:Int)])->c<2^(Cm n1 n2).toNat->R n1 b1 n2 b2 (Cm n1 n2) c->Q (.ref p) H')
def ADS(mg:Str->Option Value)(L:List (Str×Sp)):Sp:=fun vs H Q _=>Ex9 fun(a1 a2 f:Addr) (n e:Int) (b c:Nat) (x:Str) (J:Bool->Bool->Bool)=>ABa (vs=[.ref a1,.ref a2,.int e,.ref f]) ((x,spJ K (Bo J))∈L) (mg x=some (.ref f)) (H a1=some (.tup [.int n,.int (b:Int)])) (SqT K H a2 [.int n,.int (c:Int)]) (0<n) (n<=150000) (b<2^n.toNat) (c<2^n.toNat) (e=1\/e= -1) (∀(p:Addr) (g:Nat) (H':Hp),Aw H H'->H' p=some (.tup [.int n,.int (g:Int)])->g<2^n.toNat->GR J n b c e g->Q (.ref p) H')
def ABq:Sp:=fun vs H Q _=>Ex3 fun(a:Addr) (n:Int) (b:Nat)=>An6 (vs=[.ref a]) (SqT K H a [.int n,.int (b:Int)]) (0<n) (n<=150000) (b<2^n.toNat) (∀(p:Addr) (c:Nat) (H':Hp),Aw H H'->H' p=some (.tup [.int n,.int (c:Int)])->c<2^n.toNat->ACz n b c->Q (.ref p) H')
def ADR:Sp:=fun vs H Q _=>Ex7 fun(k:Int) (a1 a2:Addr) (n1 n2:Int) (b1 b2:Nat)=>An5 (vs=[.int k,.ref a1,.ref a2]) (xr K H a1 a2 n1 n2 b1 b2) (k≠0) (Cm n1 n2<=150000) (∀(p:Addr) (c:Nat) (H':Hp),Aw H H'->H' p=some (.tup [.int (Cm n1 n2),.int (c:Int)])->c<2^(Cm n1 n2).toNat->KtR k n1 b1 n2 b2 (Cm n1 n2) c->Q (.ref p) H')
def ADT:Sp:=fun vs H Q _=>Ex5 fun(k d:Int) (a:Addr) (n:Int) (b:Nat)=>ABb (vs=[.int k,.ref a,.int d]) (SqT K H a [.int n,.int (b:Int)]) (0<n) (n<=150000) (b<2^n.toNat) (Bt 250 d) (Bt 400 k) (1<=k) (n*k<=150000) (∀(p:Addr) (c:Nat) (H':Hp),Aw H H'->H' p=some (.tup [.int (n*k),.int (c:Int)])->RB (n*k) (evl k d n b) c->Q (.ref p) H')
end
theorem fP{n k:Int}(hn:0<n)(hk:0<k):k<=n*k:=by
 have:=jd6 (show 1<=n by lia) (jd5 hk);lia
theorem vL{n k:Int}(hn:0<n)(hk:0<k):n<=n*k:=by
 have:=jb5 (show 1<=k by lia) (jd5 hn);lia
noncomputable def tmV(t:Tm):List V:=[.int t.1,.int t.2.1,.int t.2.2.1,.int t.2.2.2]
inductive Tms(H:Hp):List V->List Tm->Prop
 | nil:Tms H [] []
 | cons {p:Addr} {t:Tm} {vs:List V} {ts:List Tm}:H p=some (.tup (tmV t))->Tms H vs ts->Tms H (.ref p::vs) (t::ts)
theorem Tms.same(s:Aw H H'):∀{vs:List V} {ts:List Tm},Tms H vs ts->Tms H' vs ts
 | _,_,.nil=>.nil
 | _,_,.cons h t=>.cons (s _ _ h) (Tms.same s t)
theorem Tms.len:∀{vs:List V} {ts:List Tm},Tms H vs ts->vs.length=ts.length
 | _,_,.nil=>rfl
 | _,_,.cons _ t=>by rw[qh,qh,Tms.len t]
theorem Tms.mem{x:V}:∀{vs:List V} {ts:List Tm},Tms H vs ts->x∈vs->∃p t,x=.ref p/\t∈ts/\H p=some (.tup (tmV t))
 | _,_,.nil,h=>nomatch h
 | _,_,.cons g r,h=>by
  rcases qf.mp h with e | e
  ·exact⟨_,_,e,qm,g⟩
  ·obtain⟨p,t,e1,e2,e3⟩:=Tms.mem r e;exact⟨p,t,e1,qv _ e2,e3⟩
theorem Tms.at:∀{vs:List V} {ts:List Tm},Tms H vs ts->∀{i:Nat} {x:V},vs[i]?=some x->∃p t,x=.ref p/\ts[i]?=some t/\H p=some (.tup (tmV t))
 | _,_,.nil,i,x,h=>by simp at h
 | _,_,.cons g r,0,x,h=>by
  injection h with h;exact⟨_,_,h.symm,rfl,g⟩
 | _,_,.cons g r,i+1,x,h=>Tms.at r (i:=i) h
noncomputable def Uz(H:Hp)(v:V):Option Tm:=match v with
 | .ref p=>match H p with
  | some (.tup [.int s,.int a,.int b,.int n])=>some (s,a,b,n)
  | _=>none
 | _=>none
theorem JK{p:Addr}{t:Tm}(h:H p=some (.tup (tmV t))):Uz H (.ref p)=some t:=by
 unfold Uz tmV at*
 simp only[h]
theorem Tms.fm(g:Tm->Bool)(f:Tm->V):∀{vs:List V} {ts:List Tm},Tms H vs ts->(vs.filter fun v=>((Uz H v).map g).getD false).map (fun v=>((Uz H v).map f).getD .non)=(ts.filter g).map f
 | _,_,.nil=>rfl
 | _,_,.cons (p:=p) (t:=t) h r=>by
  rw[jh5,jh5,JK h];show(if g t=true then _ else _:List V).map _=_;by_cases c:g t=true
  ·rw[xz c,xz c,zv,zv,Tms.fm g f r,JK h];rfl
  ·rw[yb c,yb c,Tms.fm g f r]
theorem rD{t:Tm}:atI (tmV t) 0=some (V.int t.1):=rfl
theorem rC{t:Tm}:atI (tmV t) 1=some (V.int t.2.1):=rfl
theorem wO{t:Tm}:atI (tmV t) 2=some (V.int t.2.2.1):=rfl
theorem Vm{t:Tm}:atI (tmV t) 3=some (V.int t.2.2.2):=rfl
structure TmT(K:Fr)(H:Hp)(p:Addr)(ts:List Tm):Prop where
 ex:∃vs,SqT K H p vs/\Tms H vs ts
 ok:∀t∈ts,OkT t
 few:ts.length<=6
theorem TmT.same{p:Addr}{ts:List Tm}(T:TmT K H p ts)(s:Aw H H'):TmT K H' p ts:=by
 obtain⟨vs,h1,h2⟩:=T.ex;exact⟨⟨vs,s.tup h1,h2.same s⟩,T.ok,T.few⟩
def mQ:Sp:=fun vs H Q _=>Ex3 fun(p:Addr) (k:Int) (t:Tm)=>An5 (vs=[.ref p,.int k]) (H p=some (.tup (tmV t))) (OkT t) (Bt 400 k) (Q (.bl (onT t k)) H)
def tK(K:Fr):Sp:=fun vs H Q _=>Ex3 fun(p:Addr) (k:Int) (ts:List Tm)=>An4 (vs=[.ref p,.int k]) (TmT K H p ts) (Bt 400 k) (∀H',Aw H H'->Q (.int (SU ts k)) H')
def m8:Sp:=fun vs H Q _=>Ex2 fun(p:Addr) (t:Tm)=>An4 (vs=[.ref p]) (H p=some (.tup (tmV t))) (OkT t) (Q (.bl true) H)
def tX(K:Fr):Sp:=fun vs H Q _=>Ex3 fun(p:Addr) (b:Int) (ts:List Tm)=>An3 (vs=[.int b,.ref p]) (TmT K H p ts) (∀H',Aw H H'->Q (.int (b-falls ts)) H')
structure aL(b:Int)(ts:List Tm):Prop where
 b0:0<=b
 b1:b<=20000
 fl:falls ts<=b
def gq(K:Fr):Sp:=fun vs H Q _=>Ex3 fun(p:Addr) (b:Int) (ts:List Tm)=>An4 (vs=[.int b,.ref p]) (TmT K H p ts) (aL b ts) (∀H',Aw H H'->Q .non H')
def my(K:Fr):Sp:=fun vs H Q _=>Ex2 fun(p:Addr) (ts:List Tm)=>An3 (vs=[.ref p]) (TmT K H p ts) (∀H',Aw H H'->Q (.int (PER ts)) H')
theorem Mz{ts:List Tm}(h:∀t∈ts,OkT t):∀(i:Nat),i<=6->0<PER (ts.take i)/\PER (ts.take i)<=1000^i
 | 0,_=>⟨(show (0:Int)<1 by decide),(show (1:Int)<=1 by decide)⟩
 | i+1,hi=>by
  obtain⟨h1,h2⟩:=Mz h i ⋯;rw[ja0];cases e:ts[i]? with
  | none=>
   simp only[Option.toList_none,ya];refine⟨h1,ju8 h2 ?_⟩;rw[Int.pow_succ];have:(0:Int)<1000^i:=Int.pow_pos nofun;lia
  | some t=>
   have ok:=h t (xb e);have e2:PER (ts.take i++(some t).toList)=Cm (PER (ts.take i)) t.2.2.2:=by
    unfold PER;rw[jd8,js2];rfl
   rw[e2];have n0:=ok.n0;refine⟨(Bx h1 ⋯).1,ju8 (vM h1 ⋯) ?_⟩;rw[Int.pow_succ];exact Int.mul_le_mul h2 ok.n1 ⋯ (jd5 (Int.pow_pos nofun))
theorem zr{i:Nat}(h:i<=6):(1000:Int)^i<=1000000000000000000:=by
 have:=vi (n:=1000) nofun h;rw[show(1000:Int)^i=((1000^i:Nat):Int) from(jg5 1000 i).symm];lia
theorem eQ{ts:List Tm}(h:∀t∈ts,OkT t):∀(i:Nat),i<=6->∀t∈ts.take i,t.2.2.2∣PER (ts.take i)
 | 0,_=>fun t ht=>by simp at ht
 | i+1,hi=>by
  obtain⟨h1,_⟩:=Mz h i ⋯;have ih:=eQ h i ⋯;rw[ja0];cases e:ts[i]? with
  | none=>
   simp only[Option.toList_none,ya];exact ih
  | some u=>
   have ok:=h u (xb e);have e2:PER (ts.take i++(some u).toList)=Cm (PER (ts.take i)) u.2.2.2:=by
    unfold PER;rw[jd8,js2];rfl
   have n0:=ok.n0;have f:=Bx h1 (show 0<u.2.2.2 by lia);rw[e2];intro t ht;rcases vk.mp ht with z | z
   ·exact jw8 (ih t z) f.2.1
   ·rw[jd8,zw] at z;subst z;exact f.2.2.1
noncomputable def mF(b:Int)(p:Addr)(c s:Int):List (Str×V):=[("base",.int b),("terms",.ref p),("full_count",.int c),("full_sum",.int s)]
structure Me(K:Fr)(C:Addr)(H:Hp)(x:Addr)(b:Int)(ts:List Tm):Prop where
 ex:∃dx p,H x=some (.ins C dx (mF b p (PER ts) (UP b ts (PER ts))))/\TmT K H p ts
 gd:aL b ts
 po:0<UP b ts (PER ts)
def yX(K:Fr)(C:Addr):Sp:=fun vs H Q _=>Ex7 fun(x p dx:Addr) (k b:Int) (ts:List Tm) (fs:List (Str×V))=>An9 (vs=[.ref x,.int k]) (H x=some (.ins C dx fs)) (fs.lookup (Str.ofString "base")=some (V.int b)) (fs.lookup (Str.ofString "terms")=some (V.ref p)) (TmT K H p ts) (0<=b) (b<=20000) (Bt 400 k) (∀H',Aw H H'->Q (.int (UP b ts k)) H')
def W0(K:Fr)(C:Addr):Sp:=fun vs H Q _=>Ex6 fun(x dx:Addr) (b:Int) (v:V) (us:List V) (ts:List Tm)=>An9 (vs=[.ref x,.int b,v]) (H x=some (.ins C dx [])) (Tms H us ts) (( v=.non/\us=[])\/∃l,v=.ref l/\H l=some (.lst us)) (∀t∈ts,OkT t) (ts.length<=6) (aL b ts) (0<UP b ts (PER ts)) (∀H',(∀y o,y≠x->H y=some o->H' y=some o)->Me K C H' x b ts->Q .non H')
theorem Me.same{C:Addr}{b:Int}{ts:List Tm}(M:Me K C H x b ts)(s:Aw H H'):Me K C H' x b ts:=by
 obtain⟨dx,p,e,T⟩:=M.ex;exact⟨⟨dx,p,s _ _ e,T.same s⟩,M.gd,M.po⟩
theorem Me.meth{C:Addr}{b:Int}{ts:List Tm}(M:Me K C H x b ts):∃dx fs,H x=some (.ins C dx fs)/\fs.lookup (Str.ofString "seek")=none/\fs.lookup (Str.ofString "at")=none/\fs.lookup (Str.ofString "upto")=none/\fs.lookup (Str.ofString "period")=none:=by
 obtain⟨dx,p,e,T⟩:=M.ex;exact⟨dx,_,e,rfl,rfl,rfl,rfl⟩
def ADW(K:Fr)(C:Addr):Sp:=fun vs H Q _=>Ex4 fun(x:Addr) (k b:Int) (ts:List Tm)=>An4 (vs=[.ref x,.int k]) (Me K C H x b ts) (Bt 400 k) (∀H',Aw H H'->Q (.int (AT b ts k)) H')
def ABo(K:Fr)(C:Addr):Sp:=fun vs H Q _=>Ex3 fun(x:Addr) (b:Int) (ts:List Tm)=>An3 (vs=[.ref x]) (Me K C H x b ts) (Q (.int (PER ts)) H)
theorem vU{C:Addr}{dx:Addr}{b:Int}{v:V}{us:List V}{ts:List Tm}(hx:H1 x=none)(hdx:H1 dx=none)(ne:dx≠x)(hT:Tms H1 us ts)(hv:(v=.non/\us=[])\/∃l,v=.ref l/\H1 l=some (.lst us))(ok:∀t∈ts,OkT t)(few:ts.length<=6)(g:aL b ts)(po:0<UP b ts (PER ts))
 (q:∀H',Aw H1 H'->Me K C H' x b ts->Q .non H'):W0 K C [.ref x,.int b,v] (upd (upd H1 dx (.own x)) x (.ins C dx [])) Q E:=by
 have k4:Aw H1 (upd (upd H1 dx (.own x)) x (.ins C dx [])):=(Av hdx _).trans (Av (by rw[Ax (Ne.symm ne)];exact hx) _);have x4:upd (upd H1 dx (.own x)) x (.ins C dx []) x=some (.ins C dx []):=Am;refine⟨x,dx,b,v,us,ts,rfl,x4,hT.same k4,?_,ok,few,g,po,fun H5 k5 M=>q _ (fun y o h=>k5 y o (fun e=>by subst e;rw[hx] at h;cases h) (k4 y o h)) M⟩;rcases hv with z | ⟨l,z,e⟩
 ·exact .inl z
 ·exact .inr ⟨l,z,k4 _ _ e⟩
def But(l:Addr)(H H':Hp):Prop:=∀y o,y≠l->H y=some o->H' y=some o
variable{l:Addr}
theorem But.upd:But l H (L2.upd H l o):=fun y o hy h=>by rw[Ax hy];exact h
structure NoT(o:HO):Prop where
 t:∀vs,o≠.tup vs
 f:∀ob u,o≠.frz ob u
variable{xs:List V}
theorem NoT.lst:NoT (.lst xs):=⟨fun _ z=>(nomatch z),fun _ _ z=>(nomatch z)⟩
theorem NoT.ins{C d:Addr}{fs:List (Str×V)}:NoT (.ins C d fs):=⟨fun _ z=>(nomatch z),fun _ _ z=>(nomatch z)⟩
theorem Tms.but(hl:H l=some o)(no:NoT o)(k:But l H H'):∀{vs:List V} {ts:List Tm},Tms H vs ts->Tms H' vs ts
 | _,_,.nil=>.nil
 | _,_,.cons g r=>.cons (k _ _ (G5 g hl (Ne.symm (no.t _))) g) (Tms.but hl no k r)
variable{vs:List V}
theorem dh{p:Addr}(hl:H l=some o)(no:NoT o)(k:But l H H')(h:SqT K H p vs):SqT K H' p vs:=by
 rcases h with (h | ⟨o,h⟩) | h
 ·exact .inl (.inl (k _ _ (G5 h hl (Ne.symm (no.t _))) h))
 ·exact .inl (.inr ⟨o,k _ _ (G5 h hl (Ne.symm (no.f _ _))) h⟩)
 ·exact .inr h
theorem TmT.but{p:Addr}{ts:List Tm}(hl:H l=some o)(no:NoT o)(k:But l H H')(T:TmT K H p ts):TmT K H' p ts:=by
 obtain⟨vs,h1,h2⟩:=T.ex;exact⟨⟨vs,dh hl no k h1,h2.but hl no k⟩,T.ok,T.few⟩
theorem Me.butX{C:Addr}{b:Int}{ts:List Tm}(M:Me K C H x b ts)(hl:H l=some o)(no:NoT o)(ne:x≠l)(k:But l H H'):Me K C H' x b ts:=by
 obtain⟨dx,p,e,T⟩:=M.ex;exact⟨⟨dx,p,k _ _ ne e,T.but hl no k⟩,M.gd,M.po⟩
theorem Me.but{C:Addr}{b:Int}{ts:List Tm}(M:Me K C H x b ts)(hl:H l=some (.lst xs))(k:But l H H'):Me K C H' x b ts:=by
 obtain⟨dx,p,e,T⟩:=M.ex;exact M.butX hl .lst (G5 e hl (by intro z;cases z)) k
theorem Jt.gm{ls:List Int}{lp:Int}{ts:List Tm}(g:Jt ls lp ts):aL ls.sum ts:=⟨g.sum.1,g.sum.2,jd5 g.f1⟩
theorem eN{ts:List Tm}(ok:∀t∈ts,OkT t)(few:ts.length<=6):0<PER ts/\PER ts<=1000000000000000000/\∀t∈ts,t.2.2.2∣PER ts:=by
 obtain⟨h1,h2⟩:=Mz ok 6 nofun;have hd:=eQ ok 6 nofun;rw[vn few] at h1 h2 hd;exact⟨h1,ju8 h2 (zr nofun),hd⟩
theorem Jt.po{ls:List Int}{lp:Int}{ts:List Tm}(g:Jt ls lp ts):0<UP ls.sum ts (PER ts):=ABQ g.ok g.f1 (eN g.ok g.few).1
noncomputable def sF(s lp:Int)(p y:Addr):List (Str×V):=[("start",.int s),("months",.ref p),("leap",.int lp),("years",.ref y)]
structure Hi(K:Fr)(CS CM:Addr)(H:Hp)(x:Addr)(s:Int)(ls:List Int)(lp:Int)(ts:List Tm):Prop where
 ex:∃dx p y,H x=some (.ins CS dx (sF s lp p y))/\SqT K H p (ls.map V.int)/\Me K CM H y ls.sum ts
 gd:Jt ls lp ts
 bs:Bt 290 s
section
variable{K:Fr}{CS CM:Addr}{H H':Hp}{x:Addr}{s:Int}{ls:List Int}{lp:Int}{ts:List Tm}
theorem Hi.same(S:Hi K CS CM H x s ls lp ts)(e:Aw H H'):Hi K CS CM H' x s ls lp ts:=by
 obtain⟨dx,p,y,h1,h2,h3⟩:=S.ex;exact⟨⟨dx,p,y,e _ _ h1,e.tup h2,h3.same e⟩,S.gd,S.bs⟩
theorem Hi.but(S:Hi K CS CM H x s ls lp ts)(hl:H l=some (.lst xs))(k:But l H H'):Hi K CS CM H' x s ls lp ts:=by
 obtain⟨dx,p,y,h1,h2,h3⟩:=S.ex;exact⟨⟨dx,p,y,k _ _ (G5 h1 hl (by intro z;cases z)) h1,dh hl .lst k h2,h3.but hl k⟩,S.gd,S.bs⟩
theorem Hi.meth(S:Hi K CS CM H x s ls lp ts):∃dx fs,H x=some (.ins CS dx fs)/\fs.lookup (Str.ofString "year_start")=none/\fs.lookup (Str.ofString "year_at")=none/\fs.lookup (Str.ofString "lengths")=none/\fs.lookup (Str.ofString "cycle")=none/\fs.lookup (Str.ofString "date_of")=none/\fs.lookup (Str.ofString "day_of")=none:=by
 obtain⟨dx,p,y,e,_⟩:=S.ex;exact⟨dx,_,e,rfl,rfl,rfl,rfl,rfl,rfl⟩
end
def tL(K:Fr):Sp:=fun vs H Q _=>Ex4 fun(l:Addr) (lp:Int) (ls:List Int) (ts:List Tm)=>An4 (vs=[.ref l,.int lp]) (SqL K H l (ls.map V.int)) (Jt ls lp ts) (Q .non H)
def Q9(K:Fr)(CS CM:Addr):Sp:=fun vs H Q _=>Ex9 fun(x dx ll:Addr) (s lp:Int) (v:V) (us:List V) (ls:List Int) (ts:List Tm)=>An8 (vs=[.ref x,.int s,.ref ll,.int lp,v]) (H x=some (.ins CS dx [])) (H ll=some (.lst (ls.map V.int))) (Tms H us ts) (( v=.non/\us=[])\/∃l,v=.ref l/\H l=some (.lst us)) (Jt ls lp ts) (Bt 290 s) (∀H',(∀y o,y≠x->H y=some o->H' y=some o)->Hi K CS CM H' x s ls lp ts->Q .non H')
theorem qJ{CS CM:Addr}{dx ll:Addr}{s lp:Int}{v:V}{us:List V}{ls:List Int}{ts:List Tm}(hx:H1 x=none)(hdx:H1 dx=none)(ne:dx≠x)(hl:H1 ll=some (.lst (ls.map V.int)))(hT:Tms H1 us ts)(hv:(v=.non/\us=[])\/∃l,v=.ref l/\H1 l=some (.lst us))(g:Jt ls lp ts)(bs:Bt 290 s)
 (q:∀H',Aw H1 H'->Hi K CS CM H' x s ls lp ts->Q .non H'):Q9 K CS CM [.ref x,.int s,.ref ll,.int lp,v] (upd (upd H1 dx (.own x)) x (.ins CS dx [])) Q E:=by
 have k4:Aw H1 (upd (upd H1 dx (.own x)) x (.ins CS dx [])):=(Av hdx _).trans (Av (by rw[Ax (Ne.symm ne)];exact hx) _);have x4:upd (upd H1 dx (.own x)) x (.ins CS dx []) x=some (.ins CS dx []):=Am;refine⟨x,dx,ll,s,lp,v,us,ls,ts,rfl,x4,k4 _ _ hl,hT.same k4,?_,g,bs,fun H5 k5 M=>q _ (fun y o h=>k5 y o (fun e=>by subst e;rw[hx] at h;cases h) (k4 y o h)) M⟩;rcases hv with z | ⟨l,z,e⟩
 ·exact .inl z
 ·exact .inr ⟨l,z,k4 _ _ e⟩
def ADQ(K:Fr)(CS CM:Addr):Sp:=fun vs H Q _=>Ex6 fun(x:Addr) (n s:Int) (ls:List Int) (lp:Int) (ts:List Tm)=>An4 (vs=[.ref x,.int n]) (Hi K CS CM H x s ls lp ts) (Bt 390 n) (∀H',Aw H H'->Q (.int (s+UP ls.sum ts n)) H')
def yz(K:Fr)(CS CM:Addr):Sp:=fun vs H Q _=>Ex6 fun(x:Addr) (n s:Int) (ls:List Int) (lp:Int) (ts:List Tm)=>An4 (vs=[.ref x,.int n]) (Hi K CS CM H x s ls lp ts) (Bt 390 n) (∀(p:Addr) H',H p=none->Aw H H'->H' p=some (.lst ((aJ ls lp ts n).map V.int))->Q (.ref p) H')
def ABy(K:Fr)(CS CM:Addr):Sp:=fun vs H Q _=>Ex5 fun(x:Addr) (s:Int) (ls:List Int) (lp:Int) (ts:List Tm)=>An3 (vs=[.ref x]) (Hi K CS CM H x s ls lp ts) (∀(p:Addr) H',Aw H H'->H' p=some (.tup [.int (PER ts),.int (UP ls.sum ts (PER ts))])->Q (.ref p) H')
def yq:Sp:=fun _ _ _ _=>False
noncomputable def oI(o:Option Int):V:=match o with | none=>.non | some i=>.int i
def okM(m:Option Int):Prop:=∀i,m=some i->1<=i
structure Bg where
 (s f h a b:Int)
noncomputable def Bg.ts(g:Bg):List Tm:=[(1,g.a,g.b,2)]
noncomputable def Bg.D(g:Bg):Int:=2*(g.f+g.h)+g.a
noncomputable def Bg.Y(g:Bg)(y:Int):Int:=g.s+UP [g.f,g.h].sum g.ts y
noncomputable def Bg.L(g:Bg)(y:Int):List Int:=aJ [g.f,g.h] 2 g.ts y
def Q5(K:Fr)(CS CM:Addr)(H:Hp)(x:Addr)(g:Bg):Prop:=Hi K CS CM H x g.s [g.f,g.h] 2 g.ts
structure SmC(g:Bg):Prop where
 s:g.s.natAbs<10^40
 f0:1<=g.f
 f1:g.f<=6
 g0:1<=g.h
 g1:g.h<=6
 a0:0<=g.a
 a1:g.a<=2
 b0:0<=g.b
 b1:g.b<=1
variable{g:Bg}
theorem SmC.d(o:SmC g):1<=g.D/\g.D<=26:=by
 obtain⟨_,f0,f1,g0,g1,a0,a1,_,_⟩:=o;unfold Bg.D;lia
theorem Bg.per(g:Bg):PER g.ts=2:=by
 show Cm 1 2=2;ac_rfl
theorem SmC.up(o:SmC g):UP [g.f,g.h].sum g.ts 2=g.D:=by
 have:=o.b0;have:=o.b1;show(g.f+(g.h+0))*2+(1*((g.a*2+g.b)/2)+0)=2*(g.f+g.h)+g.a;lia
noncomputable def plD(n i:Int):Int:=if 0<i then i-1 else n+i
noncomputable def X8(f n:Int)(d:Option Int):List Int:=match d with
 | none=>(List.range n.toNat).map fun i:Nat=>f+(i:Int)
 | some i=>if plD n i<0\/n<=plD n i then [] else [f+plD n i]
noncomputable def yrL:List Int->Int->Int->Option Int->Option Int->List Int
 | [],_,_,_,_=>[]
 | n::ls,f,k,m,i=>(if m=none\/m=some k then X8 f n i else [])++yrL ls (f+n) (k+1) m i
theorem vm{f n:Int}(n0:0<=n)(i:Option Int):((X8 f n i).length:Int)<=n:=by
 unfold X8;cases i with
 | none=>
  simp only[jp,je7];lia
 | some i=>
  simp only[];generalize plD n i=pl;split<;>simp<;>lia
noncomputable def dtS(g:Bg)(m i:Option Int)(r st:Int):Nat->List Int
 | 0=>[]
 | k+1=>dtS g m i r st k++yrL (g.L (r+(k:Int)*st)) (g.Y (r+(k:Int)*st)) 1 m i
noncomputable def dtL(g:Bg)(m i:Option Int)(st rs:Int):List Int:=dtS g m i (rs%st) st (Builtin.Range.rangeSize (rs%st) 2 st).toNat
def sZ:Sp:=fun vs H Q _=>Ex3 fun(m d:Option Int) (st:Int)=>An5 (vs=[oI m,oI d,.int st]) (okM m) (d≠some 0) (1<=st) (Q .non H)
def uC:Sp:=fun vs H Q _=>Ex3 fun(f n:Int) (d:Option Int)=>An4 (vs=[.int f,.int n,oI d]) (0<=n) (n<=10000) (∀(l:Addr) (H':Hp),H l=none->Aw H H'->H' l=some (.lst ((X8 f n d).map V.int))->Q (.ref l) H')
def zH(K:Fr)(CS CM:Addr):Sp:=fun vs H Q _=>Ex5 fun(x:Addr) (g:Bg) (y:Int) (m d:Option Int)=>An5 (vs=[.ref x,.int y,oI m,oI d]) (Q5 K CS CM H x g) (0<=y) (y<=100) (∀(l:Addr) (H':Hp),H l=none->Aw H H'->H' l=some (.lst ((yrL (g.L y) (g.Y y) 1 m d).map V.int))->(yrL (g.L y) (g.Y y) 1 m d).length<=30000->Q (.ref l) H')
def Yo(K:Fr)(CS CM:Addr):Sp:=fun vs H Q _=>Ex6 fun(x:Addr) (g:Bg) (st rs:Int) (m d:Option Int)=>An8 (vs=[.ref x,oI m,oI d,.int st,.int rs]) (Q5 K CS CM H x g) (SmC g) (okM m) (d≠some 0) (1<=st) (st<=2) (∀(p:Addr) (c:Nat) (H':Hp),Aw H H'->H' p=some (.tup [.int g.D,.int (c:Int)])->RB g.D (dtL g m d st rs) c->Q (.ref p) H')
noncomputable def cpl(z:Str):List Nat:=z.cps.toList
variable{z:Str}
theorem Eu{y:Str}(h:cpl y=cpl z):y=z:=by
 cases y;cases z;simp only[cpl] at h;exact xy Str.mk (jf4.mp h)
noncomputable def G8(cs:List Nat):List Nat:=if cs.head?=some 45 then cs.drop 1 else cs
structure N7(cs:List Nat):Prop where
 lo:1<=(G8 cs).length
 hi:(G8 cs).length<=60
 dg:∀c∈G8 cs,48<=c/\c<=57
 z0:(G8 cs).head?=some 48->cs=[48]
noncomputable def KC(cs:List Nat):Int:=if cs.head?=some 45 then -((PySem.NumText.digitsVal (G8 cs):Nat):Int) else ((PySem.NumText.digitsVal (G8 cs):Nat):Int)
theorem Du(z:Str):(cpl z).length=z.length:=kg
theorem V9(h:N7 (cpl z)):PySem.intText? z=some (KC (cpl z)):=by
 have hl:z.length<=4300:=by
  have:=h.hi;rw[<-Du];unfold G8 at this;split at this
  ·rw[ja7] at this;lia
  ·lia
 unfold KC;by_cases e:(cpl z).head?=some 45
 ·rw[xz e];have ef:G8 (cpl z)=(cpl z).drop 1:=by unfold G8;rw[xz e]
  have hz:z.cps.toList=45::(cpl z).drop 1:=by
   show cpl z=_;generalize cpl z=cs at e;cases cs with
   | nil=>cases e
   | cons a r=>
    injection e with e;rw[e];rfl
  rw[ef];refine PySem.intText_neg hz (fun c hc=>h.dg c (by rw[ef];exact hc)) (fun z0=>?_) hl;have:=h.lo;rw[ef,z0] at this;simp at this
 ·rw[yb e];have ef:G8 (cpl z)=cpl z:=by unfold G8;rw[yb e]
  rw[ef];refine PySem.intText_digits (fun c hc=>h.dg c (by rw[ef];exact hc)) (fun z0=>?_) hl;have:=h.lo;rw[ef] at this;have z1:cpl z=[]:=z0;rw[z1] at this;simp at this
theorem Pn(h:1<=z.length):cpl (Txt.slice z (some 1) none)=(cpl z).drop 1:=by
 rw[slice_from_eq (b:=(z.length:Int)) nofun (by omega) rfl];show((List.drop 1 z.cps.toList).take ((z.length:Int)-1).toNat)=_;rw[vn]
 ·rfl
 ·rw[ja7];have:z.cps.toList.length=z.length:=Du z;omega
theorem iH(z:Str):cpl (Txt.slice z none (some 1))=(cpl z).take 1:=by
 by_cases h:1<=z.length
 ·have e:=slice_closes_toL (x:=z) (j:=1) nofun ⋯;rw[eq_of_beq e];rfl
 ·have e0:(cpl z).length=0:=by rw[Du];lia
  have e1:(cpl (Txt.slice z none (some 1))).length=0:=by
   have:=Txt.slice_le z none (some 1);rw[Du];lia
  rw[jc2.mp e0,jc2.mp e1];rfl
theorem iI{lo hi:Option Int}(h:c∈cpl (Txt.slice z lo hi)):c∈cpl z:=by
 unfold Txt.slice at h;split at h
 ·exact h
 ·simp only[cpl] at h;obtain⟨i,_,hi⟩:=jr1.mp h;have hi':z.cps.toList[i]?=some c:=by rw[Array.getElem?_toList];exact hi
  exact xb hi'
theorem Fb:asc z=true<->∀c∈cpl z,c<128:=by
 unfold asc cpl;rw[Array.all_eq_true'];simp[Array.mem_toList_iff]
theorem Wr(h:1<=z.length\/True):Txt.startswith z "-"=decide ((cpl z).head?=some 45):=by
 have ey:(Str.ofString "-")=⟨#[45]⟩:=∅;rw[ey];unfold Txt.startswith Builtin.Str.subAt;show(decide (0+1<=z.length)&&(z.cps.extract 0 (0+1)== #[45]))=_;rw[kr,Jn,decide_eq_true_eq,decide_eq_true_eq,jb2];have el:(cpl z).length=z.length:=Du z;have ex:(z.cps.extract 0 (0+1)).toList=(cpl z).take 1:=by
  rw[Array.toList_extract];simp[cpl,List.extract_eq_drop_take]
 constructor
 ·rintro⟨_,e⟩;rw[e] at ex;generalize cpl z=cs at ex;cases cs with
  | nil=>cases ex
  | cons a r=>
   injection ex with e1 _;rw[e1];rfl
 ·intro e;cases hc:cpl z with
  | nil=>rw[hc] at e;cases e
  | cons a r=>
   rw[hc] at e ex el;injection e with e;rw[qh] at el;refine⟨⋯,jf4.mp ?_⟩;rw[ex,e];rfl
theorem vp(c:Nat):c∈cpl "0123456789"<->48<=c/\c<=57:=by
 have e:cpl "0123456789"=List.range' 48 10:=∅;rw[e,List.mem_range'_1];lia
theorem qK(c:Nat):(!(Builtin.Str.occurrences "0123456789" ⟨#[c]⟩ 0 (Str.ofString "0123456789").length 1).isEmpty)=decide (48<=c/\c<=57):=by
 rw[StrLaws.found_one,kr,decide_eq_true_eq,decide_eq_true_eq];exact vp c
structure TOk(z:Str):Prop where
 asc:asc z=true
 len:z.length<=1000000
theorem TOk.fit(h:TOk z):z.length<=sizeLine:=qr h.len nofun
theorem TOk.slice(h:TOk z)(lo hi:Option Int):TOk (Txt.slice z lo hi):=⟨Fb.mpr fun c hc=>Fb.mp h.asc c (iI hc),qr (Txt.slice_le z lo hi) h.len⟩
inductive Hnd(H:Hp):V->Prop
 | txt (z:Str):TOk z->Hnd H (.str z)
 | non:Hnd H .non
 | int (i:Int):Hnd H (.int i)
 | tup (a:Addr) (xs:List V):H a=some (.tup xs)->Hnd H (.ref a)
 | lst (a:Addr) (xs:List V):H a=some (.lst xs)->Hnd H (.ref a)
noncomputable def isT(v:V):Bool:=match v with | .str _=>true | _=>false
theorem AAb(K:Fr):PySem.W.kitOne K (.type "str") (.type "str")=some true:=by unfold PySem.W.kitOne;rw[xz (by simp)]
theorem AAc(K:Fr):PySem.W.kitOne K (.type "NoneType") (.type "str")=some false:=by first | rfl | ac_rfl | with_unfolding_all rfl
theorem vO(K:Fr):PySem.W.kitOne K (.type "int") (.type "str")=some false:=by first | rfl | ac_rfl | with_unfolding_all rfl
theorem AAa(K:Fr):PySem.W.kitOne K (.type "tuple") (.type "str")=some false:=by first | rfl | ac_rfl | with_unfolding_all rfl
theorem AAd(K:Fr):PySem.W.kitOne K (.type "list") (.type "str")=some false:=by first | rfl | ac_rfl | with_unfolding_all rfl
theorem bQ{v:V}(h:Hnd H v)(q:Q (.bl (isT v)) H):za K [v,.ty "str"] H Q:=by
 cases h with
 | txt z hz=>exact Sg (.str z) (AAb K) q
 | non=>exact Sg .non (AAc K) q
 | int i=>exact Sg (.int i) (vO K) q
 | tup a xs e=>exact Sg (.tup e) (AAa K) q
 | lst a xs e=>exact Sg (.lst e) (AAd K) q
def tu:Sp:=fun vs H Q _=>∃z:Str,An3 (vs=[.str z]) (TOk z) (∀(v:Bool) (H':Hp),Aw H H'->(v=true<->N7 (cpl z))->Q (.bl v) H')
theorem G3(a b:Str):cpl (a++b)=cpl a++cpl b:=by
 show(a.cps++b.cps).toList=_;rw[jd2];rfl
structure TL(k:Nat)(z:Str):Prop where
 asc:asc z=true
 len:z.length<=k
theorem Zo(m:Nat):∀c∈(Nat.toDigits 10 m).map Char.toNat,c<128:=fun c hc=>by
 obtain⟨ch,hch,e⟩:=yy.mp hc;have r:=digit_range (jp8 nofun nofun hch);lia
theorem TL.int(h:i.natAbs.log2<1920):TL 1921 (Cr i):=by
 refine⟨Fb.mpr fun c hc=>?_,KZ h⟩;unfold Cr cpl at hc;rw[signs_ofString] at hc;cases i with
 | ofNat m=>
  have e:(toString (Int.ofNat m)).toList=Nat.toDigits 10 m:=by
   show(Nat.repr m).toList=_;rw[jq2]
  rw[e] at hc;exact Zo m c hc
 | negSucc m=>
  have e:(toString (Int.negSucc m)).toList='-'::Nat.toDigits 10 (m+1):=by
   show("-"++Nat.repr (m+1)).toList=_;rw[String.toList_append,jq2];rfl
  rw[e,zv] at hc;rcases qf.mp hc with h | h
  ·have:('-':Char).toNat=45:=nofun
   lia
  ·exact Zo (m+1) c h
theorem K7(h1: -1000000000000000000000000000000000000000000000000000000000000<=i)(h2:i<=1000000000000000000000000000000000000000000000000000000000000):i.natAbs.log2<1920:=by
 have b:Bt 200 i:=bt_of h1 h2;unfold Bt at b;by_cases z:i.natAbs=0
 ·rw[z];decide
 ·exact xi ((jw7 z).mpr b) nofun
theorem four{a b c d:V}:([a,b,c,d]:List V).length<=sizeLine:=by show 4<=sizeLine;decide
theorem dT(n:Nat):cpl (Cr (n:Int))=(Nat.toDigits 10 n).map Char.toNat:=by
 unfold Cr cpl;rw[signs_ofString];have e:(toString (Int.ofNat n)).toList=Nat.toDigits 10 n:=by
  show(Nat.repr n).toList=_;rw[jq2]
 exact xy (List.map Char.toNat) e
theorem ofNat_toNat{cs:List Nat}(h:∀c∈cs,48<=c/\c<=57):(cs.map Char.ofNat).map Char.toNat=cs:=by
 rw[va]
 conv=>rhs;rw[<-List.map_id cs]
 refine jk7 fun c hc=>?_;exact(by decide:∀c<58,(Char.toNat ∘ Char.ofNat) c=c) c (Nat.lt_succ_of_le (h c hc).2)
theorem canon{cs:List Nat}(h:∀c∈cs,48<=c/\c<=57)(ne:cs≠[])(z:cs.head?=some 48->cs=[48]):cpl (Cr ((PySem.NumText.digitsVal cs:Nat):Int))=cs:=by
 rw[dT];obtain⟨c,r,rfl⟩:∃c r,cs=c::r:=by
  cases cs with
  | nil=>exact absurd rfl ne
  | cons c r=>exact⟨c,r,rfl⟩
 have hc:=h c qm;rw[PySem.NumText.toDigits_digitsVal r.length (c::r) (by simp) h (by
  by_cases e:c=48
  ·have:=z (by rw[e];rfl);injection this with _ e2;exact .inl (by rw[e2];rfl)
  ·exact .inr ⟨c,r,rfl,⋯⟩)]
 exact ofNat_toNat h
theorem jx{cs:List Nat}(h:∀c∈cs,48<=c/\c<=57)(ne:cs≠[]):cpl (Cr ((PySem.NumText.digitsVal cs:Nat):Int))=cs<->(cs.head?=some 48->cs=[48]):=by
 refine⟨fun e z=>?_,canon h ne⟩;refine jr5 fun hn=>?_;obtain⟨r,rfl⟩:∃r,cs=48::r:=by
  cases cs with
  | nil=>exact absurd rfl ne
  | cons c r=>
   injection z with z;exact⟨r,by rw[z]⟩
 have rn:r≠[]:=fun y=>hn (by rw[y]);have dr:∀c∈r,48<=c/\c<=57:=fun c hc=>h c (qv _ hc);have ev:PySem.NumText.digitsVal (48::r)=PySem.NumText.digitsVal r:=rfl;rw[dT,ev,PySem.NumText.toDigits_all r dr] at e;have l:r.length+1=(match r.dropWhile (· ==48) with | []=>['0'] | c::r=>(c::r).map Char.ofNat).length:=by
  have:=xy List.length e;rw[jp,qh] at this;exact this.symm
 have d:(r.dropWhile (· ==48)).length<=r.length:=(jm6 _).length_le;have r1:1<=r.length:=by
  cases r with
  | nil=>exact absurd rfl rn
  | cons _ _=>simp
 cases hd:r.dropWhile (· ==48) with
 | nil=>
  rw[hd] at l;have l':r.length+1=1:=l;lia
 | cons a b=>
  rw[hd] at l d;have l':r.length+1=((a::b).map Char.ofNat).length:=l;rw[jp] at l';lia
theorem cL(n:Nat):(∀c∈cpl (Cr (n:Int)),48<=c/\c<=57)/\cpl (Cr (n:Int))≠[]/\PySem.NumText.digitsVal (cpl (Cr (n:Int)))=n:=by
 rw[dT];refine⟨fun c hc=>?_,fun e=>?_,PySem.W.KIN.val_back n⟩
 ·obtain⟨ch,hch,e⟩:=yy.mp hc;have r:=digit_range (jp8 nofun nofun hch);lia
 ·have:=xy List.length e;rw[jp] at this;have p:=Nat.length_toDigits_pos (b:=10) (n:=n);rw[ji8] at this;lia
def spR(sp:Sp)(d:Nat):Sp:=fun vs H Q E=>0<d/\sp vs H Q E
theorem Yl{sp:Sp}(h:spR sp 0 vs H Q E):False:=absurd h.1 nofun
theorem Gh.mt{CR:Addr}{CL:List Addr}{n:Int}(R:Gh K CR CL H x n b):∃C dx fs,(∀sp:Sp,(C,sp)∈CL.map fun c=>(c,sp))/\H x=some (.ins C dx fs)/\fs.lookup (Str.ofString "turn")=none/\fs.lookup (Str.ofString "size")=none/\fs.lookup (Str.ofString "on")=none:=by
 obtain⟨C,dx,p,pm,pw,h1,h2,h3,h4⟩:=R.ex;exact⟨C,dx,_,fun sp=>yy.mpr ⟨C,h1,rfl⟩,h3,rfl,rfl,rfl⟩
theorem vq{cs:List Nat}(h:∀c∈cs,48<=c/\c<=57):cs.head?≠some 45:=by
 cases cs with
 | nil=>exact fun z=>nomatch z
 | cons a r=>
  intro z;injection z with z;have:=h a qm;lia
theorem AAt{n:Nat}(h:n<10^60):(cpl (Cr (n:Int))).length<=60:=by
 rw[dT,jp];exact(jq7 nofun nofun).mpr h
theorem G7{cs:List Nat}(h:cs.head?≠some 45):G8 cs=cs:=by unfold G8;rw[yb h]
theorem rZ{cs:List Nat}(h:cs.head?≠some 45):KC cs=((PySem.NumText.digitsVal cs:Nat):Int):=by unfold KC;rw[yb h,G7 h]
theorem Th{y:Int}(h:y.natAbs<10^60):N7 (cpl (Cr y))/\KC (cpl (Cr y))=y/\G8 (cpl (Cr y))=cpl (Cr ((y.natAbs:Nat):Int)):=by
 have id:=cL y.natAbs;have dl:=AAt h;have z0:(cpl (Cr ((y.natAbs:Nat):Int))).head?=some 48->cpl (Cr ((y.natAbs:Nat):Int))=[48]:=by
  have c:=(jx id.1 id.2.1).mp (by rw[id.2.2]);exact c
 have l1:1<=(cpl (Cr ((y.natAbs:Nat):Int))).length:=by
  cases hh:cpl (Cr ((y.natAbs:Nat):Int)) with
  | nil=>exact absurd hh id.2.1
  | cons a r=>simp
 rcases ju9 y 0 with c | c
 ·have e:cpl (Cr y)=45::cpl (Cr ((y.natAbs:Nat):Int)):=by
   cases y with
   | ofNat k=>exact absurd c (by simp)
   | negSucc k=>
    show cpl (Cr (Int.negSucc k))=45::cpl (Cr (((k+1:Nat)):Int));rw[dT];unfold Cr cpl;rw[signs_ofString];show(("-"++Nat.repr (k+1)).toList).map Char.toNat=_;rw[String.toList_append,uu,jq2];rfl
  have hh:(cpl (Cr y)).head?=some 45:=by rw[e];rfl
  have ef:G8 (cpl (Cr y))=cpl (Cr ((y.natAbs:Nat):Int)):=by unfold G8;rw[xz hh,e];rfl
  refine⟨⟨by rw[ef];exact l1,by rw[ef];exact dl,by rw[ef];exact id.1,fun z=>?_⟩,?_,ef⟩
  ·rw[ef] at z;have:=z0 z;have v:=id.2.2;rw[this] at v;have:PySem.NumText.digitsVal [48]=0:=rfl;lia
  ·unfold KC;rw[xz hh,ef,id.2.2];lia
 ·have e:Cr y=Cr ((y.natAbs:Nat):Int):=by congr 1;lia
  rw[e];have h45:=vq id.1;refine⟨⟨by rw[G7 h45];exact l1,by rw[G7 h45];exact dl,by rw[G7 h45];exact id.1,fun z=>z0 (by rw[G7 h45] at z;exact z)⟩,?_,G7 h45⟩;rw[rZ h45,id.2.2];lia
noncomputable def nW(n:Int):List Nat:=cpl (Cr n)
def Sm(i:Int):Prop:=i.natAbs<10^45
theorem zL(h:Sm i):i.natAbs<10^60:=jo0 h nofun
theorem Il(h:Sm i):N7 (nW i)/\KC (nW i)=i:=⟨(Th (zL h)).1,(Th (zL h)).2.1⟩
theorem JW(h:Sm i):∀c∈nW i,c=45\/48<=c/\c<=57:=fun c hc=>by
 have N:=(Il h).1;have hd:=N.dg;by_cases e:(nW i).head?=some 45
 ·have ef:G8 (nW i)=(nW i).drop 1:=by unfold G8;rw[xz e]
  rw[ef] at hd;cases hn:nW i with
  | nil=>rw[hn] at hc;cases hc
  | cons a r=>
   rw[hn] at hc e hd;injection e with e;rcases qf.mp hc with z | z
   ·exact .inl (by rw[z,e])
   ·exact .inr (hd c z)
 ·rw[G7 e] at hd;exact .inr (hd c hc)
theorem Dl(h:Sm i):(nW i).length<=46:=by
 have e:=(Th (zL h)).2.2;have l:(cpl (Cr ((i.natAbs:Nat):Int))).length<=45:=by
  rw[dT,jp];exact(jq7 nofun nofun).mpr h
 rw[<-e] at l;unfold G8 nW at*
 split at l
 ·rw[ja7] at l;lia
 ·lia
theorem AAG(h:Sm i):nW i≠[]:=fun z=>by
 have:=(Il h).1.lo;rw[z] at this;simp[G8] at this
theorem Fd(h1: -10000000000000000000000000000000000000000<i)(h2:i<10000000000000000000000000000000000000000):Sm i:=by
 unfold Sm;have:(10:Nat)^45=1000000000000000000000000000000000000000000000:=nofun;lia
theorem Ez(h:Sm i):i.natAbs.log2<1920:=by
 refine K7 ?_ ?_
 ·unfold Sm at h;have:(10:Nat)^45=1000000000000000000000000000000000000000000000:=nofun
  lia
 ·unfold Sm at h;have:(10:Nat)^45=1000000000000000000000000000000000000000000000:=nofun
  lia
noncomputable def Fe(c:Nat):List (List Nat)->List Nat
 | []=>[]
 | w::ws=>w++(ws.map (c:: ·)).flatten
theorem TY(c:Nat)(w y:List Nat)(ws:List (List Nat)):Fe c (w::y::ws)=w++c::Fe c (y::ws):=by
 show w++((c::y)++(ws.map (c:: ·)).flatten)=w++c::(y++(ws.map (c:: ·)).flatten);rfl
theorem Vu(c:Nat):∀(w:List Nat) (ws:List (List Nat)),(∀x∈w::ws,c∉x)->spl c (Fe c (w::ws))=w::ws
 | w,[],h=>by
  show spl c (w++[])=[w];rw[ya];exact Ws c w (h w qm)
 | w,y::ws,h=>by
  rw[TY,Q8 c w _ (h w qm),Vu c y ws fun x hx=>h x (qv _ hx)]
theorem WD(c:Nat):∀(zs:List Str) (acc:Array Nat),(zs.foldl (fun acc (p:Str)=>acc++(⟨#[c]⟩:Str).cps++p.cps) acc).toList=acc.toList++((zs.map cpl).map (c:: ·)).flatten
 | [],acc=>by simp
 | z::zs,acc=>by
  rw[jp3,WD c zs,jd2,jd2,zv,zv,kc];show(acc.toList++[c]++cpl z)++_=acc.toList++((c::cpl z)++_);simp
theorem qC(c:Nat)(zs:List Str):cpl (Txt.join ⟨#[c]⟩ zs)=Fe c (zs.map cpl):=by
 cases zs with
 | nil=>rfl
 | cons z zs=>
  show((zs.foldl (fun acc (p:Str)=>acc++(⟨#[c]⟩:Str).cps++p.cps) z.cps)).toList=_;rw[WD];rfl
theorem Te:∀(zs:List Str) (acc:Array Nat),(zs.foldl (fun acc (p:Str)=>acc++(⟨#[]⟩:Str).cps++p.cps) acc).toList=acc.toList++(zs.map cpl).flatten
 | [],acc=>by simp
 | z::zs,acc=>by
  rw[jp3,Te zs,jd2,jd2,zv,kc];show(acc.toList++[]++cpl z)++_=acc.toList++(cpl z++_);simp
theorem jV(zs:List Str):cpl (Txt.join ⟨#[]⟩ zs)=(zs.map cpl).flatten:=by
 cases zs with
 | nil=>rfl
 | cons z zs=>
  show((zs.foldl (fun acc (p:Str)=>acc++(⟨#[]⟩:Str).cps++p.cps) z.cps)).toList=_;rw[Te];rfl
theorem fU(zs:List Str):cpl (Txt.join " " zs)=Fe 32 (zs.map cpl):=by
 rw[show Str.ofString " "=⟨#[32]⟩ by ac_rfl];exact qC 32 zs
theorem vQ(zs:List Str):cpl (Txt.join "" zs)=(zs.map cpl).flatten:=by
 rw[show Str.ofString ""=⟨#[]⟩ by ac_rfl];exact jV zs
theorem q9{k:Nat}{x:Int}(h:Bt k x)(hk:k<=1920)(h0:0<k):x.natAbs.log2<1920:=by
 unfold Bt at h;by_cases z:x.natAbs=0
 ·rw[z];decide
 ·exact xi ((jw7 z).mpr h) hk
theorem pU(a b:Str):(a++b).length=a.length+b.length:=by
 show(a.cps++b.cps).size=_;rw[Array.size_append];rfl
theorem zf{m:Hp->Prop}(h:∀H',KB x H H'->H' x=some o->m H'):m (upd H x o):=h _ (fun y _ ne e=>by rw[Ax ne];exact e) Am
noncomputable def sg(z:String):List Nat:=cpl (Str.ofString z)
theorem bsg:sg " "=[32]:=∅
theorem dsg:sg "date "=sg "date"++[32]:=∅
noncomputable def Hr(n r:Int):List Nat:=sg "each "++nW n++sg " from "++nW r
noncomputable def CN:Option Int->List Nat
 | none=>sg "*"
 | some i=>nW i
noncomputable def Kc(nm:List Nat)(m d:Option Int):List Nat:=sg "date "++nm++sg " "++CN m++sg " "++CN d
def okO(m:Option Int):Prop:=∀i,m=some i->i.natAbs.log2<1920
noncomputable def ysr(st rs:Int):Option (Int×Int):=if 1<st then some (st,rs%st) else none
theorem AAV(h1: -1000000<=i)(h2:i<=1000000):i.natAbs.log2<1920:=q9 (bt_of ⋯ ⋯) nofun nofun
local macro_rules | `(tactic| walk_at"mm")=> `(tactic| (repeat (first | exact List.Mem.head _ | refine List.Mem.tail _ ?_)))
noncomputable def sW(w:Wd):Str:=⟨w.toArray⟩
theorem Ba(w:Wd):cpl (sW w)=w:=by unfold cpl sW;simp
theorem Gb(z:Str):sW (cpl z)=z:=Eu (Ba _)
theorem Ci(w:Wd):(sW w).length=w.length:=by rw[<-Du,Ba]
theorem nP{a b:Wd}:V.str (sW a)=V.str (sW b)<->a=b:=⟨fun e=>by injection e with e;rw[<-Ba a,e,Ba],fun e=>by rw[e]⟩
structure HN(cs:List Nat):Prop where
 lo:1<=cs.length
 hi:cs.length<=8
 ch:∀c∈cs,97<=c/\c<=122
theorem vK(c:Nat):c∈cpl "abcdefghijklmnopqrstuvwxyz"<->97<=c/\c<=122:=by
 have e:cpl "abcdefghijklmnopqrstuvwxyz"=(List.range 26).map (97+ ·):=∅;rw[e,yy];constructor
 ·rintro⟨k,hk,rfl⟩;have:=jh8.mp hk;lia
 ·intro h;exact⟨c-97,jh8.mpr ⋯,⋯⟩
theorem AAi(c:Nat):(!(Builtin.Str.occurrences "abcdefghijklmnopqrstuvwxyz" ⟨#[c]⟩ 0 (Str.ofString "abcdefghijklmnopqrstuvwxyz").length 1).isEmpty)=decide (97<=c/\c<=122):=by
 rw[StrLaws.found_one,kr,decide_eq_true_eq,decide_eq_true_eq];exact vK c
def zF:Sp:=fun vs H Q _=>∃z:Str,An3 (vs=[.str z]) (TOk z) (∀(v:Bool) (H':Hp),Aw H H'->(v=true<->HN (cpl z))->Q (.bl v) H')
def Wv:Sp:=fun vs H Q _=>∃z:Str,An4 (vs=[.str z]) (TOk z) (z.length<=4000) (Q (.bl true) H)
noncomputable def rdF(p:Addr)(k:Nat):List (Str×V):=[("words",.ref p),("place",.int (k:Int))]
structure Rdr(CD:Addr)(H:Hp)(x p:Addr)(ws:List Wd)(k:Nat):Prop where
 ex:∃dx,H x=some (.ins CD dx (rdF p k))
 tp:H p=some (.tup (ws.map fun w=>.str (sW w)))
 ln:ws.length<=100000
 ok:∀w∈ws,TOk (sW w)
def Rd(CD:Addr)(H:Hp)(x:Addr)(r:List Wd):Prop:=∃p ws k,Rdr CD H x p ws k/\ws.drop k=r
section
variable{CD:Addr}{H H':Hp}{x:Addr}{r:List Wd}{w:Wd}
theorem Rd.ob(R:Rd CD H x r):∃dx fs,H x=some (.ins CD dx fs)/\fs.lookup (Str.ofString "take")=none/\fs.lookup (Str.ofString "peek")=none:=by
 obtain⟨p,ws,k,⟨⟨dx,h⟩,_⟩,_⟩:=R;exact⟨dx,_,h,rfl,rfl⟩
theorem Rd.same(R:Rd CD H x r)(s:Aw H H'):Rd CD H' x r:=by
 obtain⟨p,ws,k,⟨⟨dx,h⟩,t,l,o⟩,e⟩:=R;exact⟨p,ws,k,⟨⟨dx,s _ _ h⟩,s _ _ t,l,o⟩,e⟩
theorem Rd.tk(R:Rd CD H x (w::r)):TOk (sW w):=by
 obtain⟨p,ws,k,R,e⟩:=R;exact R.ok w (List.mem_of_mem_drop (by rw[e];exact .head _))
end
theorem KB.tr{H2:Hp}(a:KB x H H1)(b:KB x H1 H2):KB x H H2:=fun y o h e=>b y o h (a y o h e)
theorem KB.sm(s:Aw H H1):KB x H H1:=fun y o _ e=>s y o e
def Tk(CD:Addr)(H:Hp)(x:Addr)(r:List Wd)(G:V->Hp->Prop)(Q:VK):Prop:=∀v H',KB x H H'->Rd CD H' x r->G v H'->Q v H'
theorem Tk.on{CD:Addr}{r:List Wd}{G:V->Hp->Prop}(t:Tk CD H x r G Q)(k:KB x H H1):Tk CD H1 x r G Q:=fun v H' k'=>t v H' (k.tr k')
inductive PK | an | or | bu | ul | up | un | ne | ti
noncomputable def PK.s:PK->String | an=>"and" | or=>"or" | bu=>"but" | ul=>"unlike" | up=>"upon" | un=>"until" | ne=>"near" | ti=>"till"
def PK.R:PK->Rel | an=>Bo and | or=>Bo Bool.or | bu=>Bo bn | ul=>Bo xor | up=>UpR 1 | un=>UpR (-1) | ne=>NeR | ti=>TiR
inductive PT:Type
 | lf (b:Bool)
 | each (n r:Int)
 | date (nm:Wd) (m d:Option Int) (y:Option (Int×Int))
 | no (p:PT)
 | la (k:Int) (p:PT)
 | ev (k:Int) (p:PT) (d:Int)
 | nt (k:Int) (p q:PT)
 | pr (w:PK) (p q:PT)
noncomputable def lfS(b:Bool):String:=if b then "all" else "none"
noncomputable def yrW:Option (Int×Int)->List Wd
 | none=>[]
 | some y=>[sg "each",nW y.1,sg "from",nW y.2]
noncomputable def yr(y:Option (Int×Int)):Int×Int:=y.getD (1,0)
namespace PT
noncomputable def tok:PT->List Wd
 | lf b=>[sg (lfS b)]
 | each n r=>[sg "each",nW n,sg "from",nW r]
 | date nm m d y=>sg "date"::nm::CN m::CN d::yrW y
 | no p=>kL::sg "not"::(p.tok++[kR])
 | la k p=>kL::nW k::sg "later"::(p.tok++[kR])
 | ev k p d=>kL::sg "every"::nW k::sg "of"::(p.tok++[sg "from",nW d,kR])
 | nt k p q=>kL::nW k::sg "of"::(p.tok++sg "from"::(q.tok++[kR]))
 | pr w p q=>kL::(p.tok++sg w.s::(q.tok++[kR]))
noncomputable def deep:PT->Nat
 | no p=>p.deep+1
 | la _ p=>p.deep+1
 | ev _ p _=>p.deep+1
 | nt _ p q=>max p.deep q.deep+1
 | pr _ p q=>max p.deep q.deep+1
 | _=>0
def okS(m:Option Int):Prop:=∀i,m=some i->Sm i
def ok:PT->Prop
 | lf _=>True
 | each n r=>Sm n/\Sm r/\1<=n/\n<=420
 | date nm m d y=>HN nm/\okS m/\okS d/\(∀z,y=some z->Sm z.1/\Sm z.2/\1<=z.1/\z.1<=2)/\okM m/\d≠some 0/\(CN m).length<=2/\(CN d).length<=2
 | no p=>p.ok
 | la k p=>Sm k/\p.ok
 | ev k p d=>Sm k/\Sm d/\p.ok/\1<=k/\k<=3
 | nt k p q=>Sm k/\p.ok/\q.ok/\k≠0
 | pr _ p q=>p.ok/\q.ok
theorem hd(p:PT):∃z t,p.tok=z::t/\z∈[sg "all",sg "none",sg "each",sg "date",kL]:=by
 cases p with
 | lf b=>cases b<;>exact⟨_,_,rfl,∅⟩
 | each=>exact⟨_,_,rfl,∅⟩
 | date=>exact⟨_,_,rfl,∅⟩
 | _=>exact⟨_,_,rfl,∅⟩
end PT
def PlH(H:Hp):PT->V->Prop
 | .lf b,v=>∃q,v=.ref q/\H q=some (.tup [.str (lfS b)])
 | .each n r,v=>∃q,v=.ref q/\H q=some (.tup [.str "each",.int n,.int r])
 | .date nm m d y,v=>∃q,v=.ref q/\H q=some (.tup [.str "date",.str (sW nm),oI m,oI d,.int (yr y).1,.int (yr y).2])
 | .no p,v=>∃q u,v=.ref q/\H q=some (.tup [.str "not",u])/\PlH H p u
 | .la k p,v=>∃q u,v=.ref q/\H q=some (.tup [.str "later",.int k,u])/\PlH H p u
 | .ev k p d,v=>∃q u,v=.ref q/\H q=some (.tup [.str "every",.int k,u,.int d])/\PlH H p u
 | .nt k p r,v=>∃q u y,v=.ref q/\H q=some (.tup [.str "of",.int k,u,y])/\PlH H p u/\PlH H r y
 | .pr w p r,v=>∃q u y,v=.ref q/\H q=some (.tup [.str w.s,u,y])/\PlH H p u/\PlH H r y
theorem PlH.kp(s:∀y xs,H y=some (.tup xs)->H' y=some (.tup xs)):∀{p:PT} {v:V},PlH H p v->PlH H' p v
 | .lf _,v,⟨q,e,h⟩=>⟨q,e,s _ _ h⟩
 | .each ..,v,⟨q,e,h⟩=>⟨q,e,s _ _ h⟩
 | .date ..,v,⟨q,e,h⟩=>⟨q,e,s _ _ h⟩
 | .no _,v,⟨q,u,e,h,g⟩=>⟨q,u,e,s _ _ h,PlH.kp s g⟩
 | .la ..,v,⟨q,u,e,h,g⟩=>⟨q,u,e,s _ _ h,PlH.kp s g⟩
 | .ev ..,v,⟨q,u,e,h,g⟩=>⟨q,u,e,s _ _ h,PlH.kp s g⟩
 | .nt ..,v,⟨q,u,y,e,h,g,g'⟩=>⟨q,u,y,e,s _ _ h,PlH.kp s g,PlH.kp s g'⟩
 | .pr ..,v,⟨q,u,y,e,h,g,g'⟩=>⟨q,u,y,e,s _ _ h,PlH.kp s g,PlH.kp s g'⟩
theorem PlH.same(s:Aw H H'){p:PT}{v:V}(h:PlH H p v):PlH H' p v:=PlH.kp (fun _ _ e=>s _ _ e) h
theorem PlH.kb{CD:Addr}{r:List Wd}(R:Rd CD H x r)(kb:KB x H H'){q:PT}{v:V}(h:PlH H q v):PlH H' q v:=PlH.kp (fun y xs e=>by
 obtain⟨dx,fs,hx,_⟩:=R.ob;exact kb y _ (G5 e hx (fun z=>nomatch z)) e) h
section
variable(CD:Addr)
def uA:Sp:=fun vs H Q _=>Ex4 fun(x dx l:Addr) (ws:List Wd)=>An6 (vs=[.ref x,.ref l]) (H x=some (.ins CD dx [])) (H l=some (.lst (ws.map fun w=>.str (sW w)))) (ws.length<=100000) (∀w∈ws,TOk (sW w)) (∀H',KB x H H'->Rd CD H' x ws->Q .non H')
def yh:Sp:=fun vs H Q _=>Ex2 fun(x:Addr) (r:List Wd)=>An3 (vs=[.ref x]) (Rd CD H x r) (Q (.str (sW (r.headD []))) H)
def yZ:Sp:=fun vs H Q _=>Ex2 fun(x:Addr) (r:List Wd)=>An3 (vs=[.ref x]) (Rd CD H x r) (∀H',KB x H H'->Rd CD H' x r.tail->Q (.str (sW (r.headD []))) H')
def yW:Sp:=fun vs H Q _=>Ex3 fun(x:Addr) (z:Str) (r:List Wd)=>An3 (vs=[.ref x,.str z]) (Rd CD H x (cpl z::r)) (∀H',KB x H H'->Rd CD H' x r->Q .non H')
def ym:Sp:=fun vs H Q _=>Ex3 fun(x:Addr) (n:Int) (r:List Wd)=>An4 (vs=[.ref x]) (Rd CD H x (nW n::r)) (Sm n) (∀H',KB x H H'->Rd CD H' x r->Q (.int n) H')
def sY:Sp:=fun vs H Q _=>Ex3 fun(x:Addr) (m:Option Int) (r:List Wd)=>An4 (vs=[.ref x]) (Rd CD H x (CN m::r)) (PT.okS m) (∀H',KB x H H'->Rd CD H' x r->Q (oI m) H')
def uB:Sp:=fun vs H Q _=>Ex4 fun(x:Addr) (n m:Int) (r:List Wd)=>An5 (vs=[.ref x]) (Rd CD H x (nW n::sg "from"::nW m::r)) (Sm n) (Sm m) (∀q H',KB x H H'->Rd CD H' x r->H' q=some (.tup [.int n,.int m])->Q (.ref q) H')
def uD:Sp:=fun vs H Q _=>Ex6 fun(x:Addr) (nm:Wd) (m d:Option Int) (y:Option (Int×Int)) (r:List Wd)=>An5 (vs=[.ref x]) (Rd CD H x (nm::CN m::CN d::(yrW y++r))) ((PT.date nm m d y).ok) (r.headD []≠sg "each") (Tk CD H x r (fun v H'=>PlH H' (.date nm m d y) v) Q)
def spP(d:Nat)(G:PT->List Wd->List Wd)(C:PT->Prop):Sp:=fun vs H Q _=>Ex3 fun(x:Addr) (p:PT) (r:List Wd)=>An7 (vs=[.ref x]) (Rd CD H x (G p r)) p.ok (C p) (p.deep<d) (r.headD []≠sg "each") (Tk CD H x r (fun v H'=>PlH H' p v) Q)
def cLN:PT->Prop | .la .. =>True | .nt .. =>True | _=>False
def cEv:PT->Prop | .ev .. =>True | _=>False
def cPr:PT->Prop | .pr .. =>True | _=>False
def cIn:PT->Prop | .no _=>True | p=>cLN p\/cEv p\/cPr p
noncomputable def inn:PT->List Wd->List Wd
 | .no p,r=>sg "not"::(p.tok++r)
 | .la k p,r=>nW k::sg "later"::(p.tok++r)
 | .ev k p d,r=>sg "every"::nW k::sg "of"::(p.tok++sg "from"::nW d::r)
 | .nt k p q,r=>nW k::sg "of"::(p.tok++sg "from"::(q.tok++r))
 | .pr w p q,r=>p.tok++sg w.s::(q.tok++r)
 | _,r=>r
def Jy(d:Nat):Sp:=spP CD d (fun p r=>p.tok++r) (fun _=>True)
def Wz(d:Nat):Sp:=spP CD (d+1) inn cLN
def Ri(d:Nat):Sp:=spP CD (d+1) (fun p r=>(inn p r).tail) cEv
def Wy(d:Nat):Sp:=spP CD (d+1) inn cPr
def Rg(d:Nat):Sp:=spP CD (d+1) inn cIn
end
theorem Ym{CD:Addr}(h:Jy CD 0 vs H Q E):False:=by
 obtain⟨x,p,r,_,_,_,_,h,_⟩:=h;lia
theorem dN{a b:String}(h:Str.ofString a≠Str.ofString b):V.str (sW (sg a))≠V.str (Str.ofString b):=fun z=>h (by
 rw[<-Gb (Str.ofString a)];exact V.str.inj z)
theorem ws_eq(a:String):V.str (sW (sg a))=V.str (Str.ofString a):=by rw[show sg a=cpl (Str.ofString a) from rfl,Gb]
theorem cI{w:Wd}(h:N7 (c::w)):c=45\/48<=c/\c<=57:=by
 by_cases e:c=45
 ·exact .inl e
 ·exact .inr (h.dg c (by rw[G7 (show (c::w).head?≠some 45 from fun z=>e (ua z))];exact .head _))
theorem S9{n:Int}(h:Sm n){z:String}(hz:∃c w,sg z=c::w/\¬(c=45\/48<=c/\c<=57)):V.str (sW (nW n))≠V.str (Str.ofString z):=fun e=>by
 obtain⟨c,w,e1,e2⟩:=hz;have e3:nW n=sg z:=by rw[<-Ba (nW n),V.str.inj e];rfl
 have:=(Il h).1;rw[e3,e1] at this;exact e2 (cI this)
theorem hdn{a:String}{r:List Wd}(h:sg a≠sg "each"):(sg a::r).headD []≠sg "each":=h
theorem xX:kL=sg "(":=∅
theorem yF{b:String}(h:Str.ofString "("≠Str.ofString b):V.str (sW kL)≠V.str (Str.ofString b):=by
 rw[xX];exact dN h
theorem ACV(w:PK):inV (V.str (Str.ofString w.s)) [.str "and",.str "or",.str "but",.str "unlike",.str "upon",.str "until",.str "near",.str "till"]=true:=by cases w<;>ac_rfl
theorem sG(p:Nat->Bool)(l:List Nat):l.drop (l.takeWhile p).length=l.dropWhile p:=by
 conv=>lhs;rw[<-ja9 (p:=p) (l:=l)]
 rw[ja9]
 conv=>lhs;rw[<-ja9 (p:=p) (l:=l)]
 exact jv3 (by rw[ja9])
theorem g40:(fun c=>(Str.ofString "(").cps.contains c)=(· ==40):=by
 funext c
 rw[show (Str.ofString "(").cps= #[40] by ac_rfl];by_cases h:c=40
 ·subst h;simp
 ·rw[show (#[40]:Array Nat).contains c=false by simpa using h];exact(beq_false_of_ne h).symm
theorem g41:(fun c=>(Str.ofString ")").cps.contains c)=(· ==41):=by
 funext c
 rw[show (Str.ofString ")").cps= #[41] by ac_rfl];by_cases h:c=41
 ·subst h;simp
 ·rw[show (#[41]:Array Nat).contains c=false by simpa using h];exact(beq_false_of_ne h).symm
noncomputable def lsT(z:Str):Str:=if stripSame (Str.ofString "(").cps.contains true false z then z else stripped (Str.ofString "(").cps.contains true false z
noncomputable def rsT(z:Str):Str:=if stripSame (Str.ofString ")").cps.contains false true z then z else stripped (Str.ofString ")").cps.contains false true z
theorem vH(z:Str):cpl (lsT z)=opd (cpl z):=by
 have lo:stripLo (Str.ofString "(").cps.contains true z=((cpl z).takeWhile (· ==40)).length:=by
  unfold stripLo;rw[xz rfl];show((cpl z).takeWhile (fun c=>(Str.ofString "(").cps.contains c)).length=_;rw[g40]
 unfold lsT opd;rw[<-sG];split
 ·rename_i h
  unfold stripSame at h;simp only[Jn,jb2] at h;rw[lo] at h;rw[h.1];rfl
 ·unfold stripped;show(Builtin.Str.strSub z _ _).cps.toList=_;rw[StrLaws.strSub_toList,lo];have:stripHi (Str.ofString "(").cps.contains false z ((cpl z).takeWhile (· ==40)).length=z.length:=rfl;rw[this];exact vn (by rw[ja7];have:=Du z;unfold cpl at this;lia)
theorem uO(z:Str):cpl (rsT z)=((cpl z).reverse.dropWhile (· ==41)).reverse:=by
 have hi:stripHi (Str.ofString ")").cps.contains true z 0=z.length-((cpl z).reverse.takeWhile (· ==41)).length:=by
  unfold stripHi;rw[xz rfl];show z.length-((cpl z).reverse.takeWhile (fun c=>(Str.ofString ")").cps.contains c)).length=_;rw[g41]
 have key:(cpl z).take ((cpl z).length-((cpl z).reverse.takeWhile (· ==41)).length)=((cpl z).reverse.dropWhile (· ==41)).reverse:=by
  have e:=ja9 (p:=(· ==41)) (l:=(cpl z).reverse);have e2:=xy List.reverse e;rw[jp7,List.reverse_reverse] at e2;have l2:=xy List.length e;rw[qc,jh1] at l2
  conv=>lhs;rw[<-e2]
  rw[jv5];rw[jh1,e2];lia
 unfold rsT;split
 ·rename_i h
  unfold stripSame at h;simp only[Jn,jb2] at h;have h2:stripHi (Str.ofString ")").cps.contains true z 0=z.length:=h.2;rw[hi] at h2;rw[<-key,Du,h2,<-Du,jb7]
 ·unfold stripped;show(Builtin.Str.strSub z 0 (stripHi (Str.ofString ")").cps.contains true z 0)).cps.toList=_;rw[StrLaws.strSub_toList,hi,<-key,Du];rfl
theorem ACZ(w:Wd):lsT (sW w)=sW (opd w):=Eu (by rw[vH,Ba,Ba])
theorem ACJ(w:Wd):rsT (sW (opd w))=sW (core w):=Eu (by rw[uO,Ba,Ba];rfl)
theorem Ra(z:Str):MF 32 z=(spl 32 (cpl z)).map sW:=rfl
theorem nJ:Str.ofString ""=sW []:=∅
theorem ADY:Str.ofString "("=sW kL:=∅
theorem ADX:Str.ofString ")"=sW kR:=∅
theorem mJ(c:Nat):∀l:List Nat,((spl c l).map fun w=>w.length+1).sum=l.length+1
 | []=>rfl
 | a::l=>by
  have ih:=mJ c l;by_cases e:a=c
  ·subst e;rw[Wt,zv,Zl,ih,qh];show 0+1+_=_;lia
  ·rw[Mj l e,zv,Zl,qh,qh];rw[Ky c l,zv,Zl] at ih;lia
theorem fK{a:Nat}:∀{l:List Nat},a∈l->a<=l.sum
 | b::l,h=>by
  rw[Zl];rcases qf.mp h with z | z
  ·lia
  ·have:=fK z;lia
theorem ZS(p:Wd):(HX p).length<=p.length+1:=by
 have a:=O4 p;have b:=RP p;unfold HX;simp only[qc,jc0,qh,ji8];lia
theorem Zi:∀ps:List Wd,(ps.flatMap HX).length<=(ps.map fun w=>w.length+1).sum
 | []=>qg _
 | p::ps=>by
  rw[je6,qc,zv,Zl];have:=Zi ps;have:=ZS p;lia
theorem sJ{ps:List Wd}(i:Nat):((ps.take i).flatMap HX).length<=(ps.flatMap HX).length:=by
 conv=>rhs;rw[<-List.take_append_drop i ps,jh0,qc]
 lia
theorem SX{α:Type}(v:α):∀k:Nat,(List.replicate k [v]).flatten=List.replicate k v
 | 0=>rfl
 | k+1=>by rw[ja4,kc,SX v k];rfl
theorem zg(p:Wd):(HX p).map (fun w=>V.str (sW w))=List.replicate (p.length-(opd p).length) (V.str (sW kL))++[V.str (sW (core p))]++List.replicate ((opd p).length-(core p).length) (V.str (sW kR)):=by
 unfold HX;simp
theorem xU:∀p:Wd,p.length-(opd p).length<=p.count 40
 | []=>qg _
 | a::p=>by
  by_cases e:a=40
  ·subst e;rw[NQ,List.count_cons_self,qh];have:=xU p;have:=O4 p;lia
  ·rw[show opd (a::p)=a::p by simp[opd,jb8,e]];lia
noncomputable def opn(p:Wd):Nat:=p.length-(opd p).length
noncomputable def cls(p:Wd):Nat:=(opd p).length-(core p).length
def Dok(c:Int):List Wd->Prop
 | []=>True
 | w::r=>c+(opn w:Int)<=40/\Dok (c+(opn w:Int)-(cls w:Int)) r
noncomputable def dpf:List Wd->Int
 | []=>0
 | w::r=>(opn w:Int)-(cls w:Int)+dpf r
def sV:Sp:=fun vs H Q _=>∃z:Str,An6 (vs=[.str z]) (TOk z) ((cpl z).length<=4000) (∀p∈spl 32 (cpl z),core p≠[]) (Dok 0 (spl 32 (cpl z))) (∀l H',Aw H H'->H' l=some (.lst ((tks (spl 32 (cpl z))).map fun w=>.str (sW w)))->Q (.ref l) H')
structure Wf(ws ts:List Wd)(b:Nat):Prop where
 ne:ws≠[]
 bl:∀w∈ws,32∉w
 co:∀w∈ws,core w≠[]
 tk:tks ws=ts
 dk:∀c:Int,c+(b:Int)<=40->Dok c ws
 dp:dpf ws=0
 as:∀w∈ws,∀c∈w,c<128
def gs(c:Nat):Prop:=c<128/\c≠32/\c≠40/\c≠41
theorem Wf.one{w:Wd}(ne:w≠[])(g:∀c∈w,gs c):Wf [w] [w] 0:=by
 have h1:w.head?≠some 40:=fun z=>(g 40 (List.mem_of_mem_head? z)).2.2.1 rfl;have h2:w.getLast?≠some 41:=fun z=>(g 41 (List.mem_of_getLast? z)).2.2.2 rfl;have s:∀x∈[w],x=w:=fun x h=>zw.mp h;have e0:opn w=0:=by
  have:=xU w;rw[jq9.mpr fun z=>(g 40 z).2.2.1 rfl] at this;exact Nat.le_zero.mp this
 have e1:cls w=0:=by
  unfold cls;rw[O8 h1 h2];exact Nat.sub_eq_zero_of_le (O4 w)
 refine⟨by simp,fun x h=>by rw[s x h];exact fun z=>(g 32 z).2.1 rfl,fun x h=>by rw[s x h,O8 h1 h2];exact ne,by rw[lQ (iu h1 h2)];rfl,fun c h=>⟨by rw[e0];exact h,trivial⟩,by simp[dpf,e0,e1],fun x h=>by rw[s x h];exact fun c hc=>(g c hc).1⟩
theorem fu:∀ws r:List Wd,dpf (ws++r)=dpf ws+dpf r
 | [],r=>(jv1 _).symm
 | w::ws,r=>by
  show _+dpf (ws++r)=_+dpf ws+_;rw[fu ws r];lia
theorem Dok.app:∀{ws r:List Wd} {c:Int},Dok c ws->Dok (c+dpf ws) r->Dok c (ws++r)
 | [],r,c,_,h=>by rwa [show dpf []=0 from rfl,ju6] at h
 | w::ws,r,c,h,g=>⟨h.1,Dok.app h.2 (by
  rwa [show c+(opn w:Int)-(cls w:Int)+dpf ws=c+dpf (w::ws) by show _=c+((opn w:Int)-(cls w:Int)+dpf ws);lia])⟩
theorem Wf.app{ws ts ws' ts':List Wd}{b':Nat}(A:Wf ws ts b)(B:Wf ws' ts' b'):Wf (ws++ws') (ts++ts') (max b b'):=
 ⟨fun z=>A.ne (List.append_eq_nil_iff.mp z).1,fun w h=>(vk.mp h).elim (A.bl w) (B.bl w),fun w h=>(vk.mp h).elim (A.co w) (B.co w),by rw[sI,A.tk,B.tk],fun c h=>(A.dk c ⋯).app (by rw[A.dp];exact B.dk _ ⋯),by rw[fu,A.dp,B.dp];rfl,fun w h=>(vk.mp h).elim (A.as w) (B.as w)⟩
theorem pB{p:Wd}(h:core p≠[]):opn (p++[41])=opn p/\cls (p++[41])=cls p+1:=by
 unfold opn cls;have:=RP p;rw[Xi (Ke h),La (Ke h),qc,qc];exact⟨by simp,by show(opd p).length+1-_=_;lia⟩
theorem zy(w:Wd):opn (40::w)=opn w+1/\cls (40::w)=cls w:=by
 unfold opn cls;rw[NQ,Gs,qh];have:=O4 w;exact⟨⋯,rfl⟩
theorem ACl:∀{ws:List Wd} {c:Int},ws≠[]->(∀w∈ws,core w≠[])->Dok c ws->Dok c (bB ws)/\dpf (bB ws)=dpf ws-1
 | [],_,n,_,_=>absurd rfl n
 | [w],c,_,h,d=>by
  obtain⟨e1,e2⟩:=pB (h w (.head _));refine⟨⟨by rw[e1];exact d.1,trivial⟩,?_⟩;show(opn (w++[41]):Int)-(cls (w++[41]):Int)+0=(opn w:Int)-(cls w:Int)+0-1;rw[e1,e2];lia
 | w::y::r,c,_,h,d=>by
  obtain⟨a,b⟩:=ACl (ws:=y::r) (by simp) (fun x hx=>h x (.tail _ hx)) d.2;refine⟨⟨d.1,a⟩,?_⟩;show _+dpf (bB (y::r))=_+dpf (y::r)-1;rw[b];lia
theorem ADl{ws:List Wd}{c:Int}(n:ws≠[])(d:Dok (c+1) ws):Dok c (bA ws)/\dpf (bA ws)=dpf ws+1:=by
 cases ws with
 | nil=>exact absurd rfl n
 | cons w r=>
  obtain⟨e1,e2⟩:=zy w;refine⟨⟨by rw[e1];have:=d.1;lia,?_⟩,?_⟩
  ·have:=d.2;rw[e1,e2]
   rwa [show c+((opn w+1:Nat):Int)-(cls w:Int)=c+1+(opn w:Int)-(cls w:Int) by lia]
  ·show(opn (40::w):Int)-(cls (40::w):Int)+dpf r=(opn w:Int)-(cls w:Int)+dpf r+1;rw[e1,e2];lia
theorem Wf.wrap{ws ts:List Wd}(A:Wf ws ts b):Wf (bB (bA ws)) (kL::(ts++[kR])) (b+1):=by
 have cA:∀w∈bA ws,core w≠[]:=by
  have:=A.co;cases ws with
  | nil=>exact fun _ h=>nomatch h
  | cons w r=>
   intro x hx;rcases qf.mp hx with z | z
   ·rw[z,Gs];exact this w (.head _)
   ·exact this x (.tail _ z)
 have mem:∀{P:Nat->Prop},P 40->P 41->(∀w∈ws,∀c∈w,P c)->∀w∈bB (bA ws),∀c∈w,P c:=fun{P} p0 p1 h w hw c hc=>by
  obtain⟨x,hx,e⟩:=Yb hw A.ne;have:=h x hx;rcases e with e | e | e | e<;>subst e
  ·exact this c hc
  ·rcases qf.mp hc with z | z
   ·exact z ▸ p0
   ·exact this c z
  ·rcases vk.mp hc with z | z
   ·exact this c z
   ·exact(zw.mp z) ▸ p1
  ·rcases qf.mp hc with z | z
   ·exact z ▸ p0
   ·rcases vk.mp z with z | z
    ·exact this c z
    ·exact(zw.mp z) ▸ p1
 have dA:∀c:Int,c+((b+1:Nat):Int)<=40->Dok c (bB (bA ws))/\dpf (bB (bA ws))=0:=fun c h=>by
  obtain⟨a,e⟩:=ADl (c:=c) A.ne (A.dk (c+1) ⋯);obtain⟨a,f⟩:=ACl (Nz A.ne) cA a;exact⟨a,by rw[f,e,A.dp];rfl⟩
 refine⟨Wh (Nz A.ne),fun w hw z=>mem (P:=(· ≠32)) nofun nofun (fun w h c hc e=>A.bl w h (e ▸ hc)) w hw 32 z rfl,fun w hw=>?_,by rw[lO A.ne A.co,A.tk],fun c h=>(dA c h).1,(dA (-(b:Int)) ⋯).2,mem nofun nofun A.as⟩;obtain⟨x,hx,e⟩:=Yb hw A.ne;have c:=A.co x hx;rcases e with e | e | e | e<;>subst e
 ·exact c
 ·rw[Gs];exact c
 ·rw[La (Ke c)];exact c
 ·rw[La (Ke (by rw[Gs];exact c)),Gs];exact c
theorem Ni{n:Int}(h:Sm n):Wf [nW n] [nW n] 0:=.one (AAG h) fun c hc=>by
 have:=JW h c hc;unfold gs;lia
theorem Q7{m:Option Int}(h:PT.okS m):Wf [CN m] [CN m] 0:=by
 cases m with
 | none=>exact .one ∅ (by unfold gs;ac_rfl)
 | some i=>exact Ni (h i rfl)
namespace PT
noncomputable def wd:PT->List Wd
 | lf b=>[sg (lfS b)]
 | each n r=>[sg "each",nW n,sg "from",nW r]
 | date nm m d y=>[sg "date"]++([nm]++([CN m]++([CN d]++yrW y)))
 | no p=>bB (bA ([sg "not"]++p.wd))
 | la k p=>bB (bA ([nW k]++([sg "later"]++p.wd)))
 | ev k p d=>bB (bA ([sg "every"]++([nW k]++([sg "of"]++(p.wd++([sg "from"]++[nW d]))))))
 | nt k p q=>bB (bA ([nW k]++([sg "of"]++(p.wd++([sg "from"]++q.wd)))))
 | pr w p q=>bB (bA (p.wd++([sg w.s]++q.wd)))
noncomputable def br:PT->Nat
 | no p=>p.br+1
 | la _ p=>p.br+1
 | ev _ p _=>p.br+1
 | nt _ p q=>p.br+q.br+1
 | pr _ p q=>p.br+q.br+1
 | _=>0
noncomputable def lv:PT->Nat
 | no p=>p.lv
 | la _ p=>p.lv
 | ev _ p _=>p.lv
 | nt _ p q=>p.lv+q.lv
 | pr _ p q=>p.lv+q.lv
 | _=>1
theorem MT{z:String}(ne:sg z≠[]:=by ac_rfl)(h:∀c∈sg z,gs c:=by unfold gs;ac_rfl):Wf [sg z] [sg z] 0:=.one ne h
theorem wf:∀{p:PT},p.ok->Wf p.wd p.tok p.deep
 | lf b,_=>by cases b<;>exact MT
 | each n r,h=>((MT (z:="each")).app ((Ni h.1).app ((MT (z:="from")).app (Ni h.2.1))))
 | date nm m d y,h=>by
  have a:Wf [nm] [nm] 0:=.one (fun z=>by have:=h.1.lo;rw[z] at this;exact absurd this nofun) fun c hc=>by
   have:=h.1.ch c hc;unfold gs;lia
  cases y with
  | none=>exact(MT (z:="date")).app (a.app ((Q7 h.2.1).app (Q7 h.2.2.1)))
  | some y=>
   have o:=h.2.2.2.1 y rfl;exact(MT (z:="date")).app (a.app ((Q7 h.2.1).app ((Q7 h.2.2.1).app ((MT (z:="each")).app ((Ni o.1).app ((MT (z:="from")).app (Ni o.2.1)))))))
 | no p,h=>by
  have:=((MT (z:="not")).app (wf (p:=p) h)).wrap
  rwa [Nat.zero_max] at this
 | la k p,h=>by
  have:=((Ni h.1).app ((MT (z:="later")).app (wf h.2))).wrap
  rwa [Nat.zero_max,Nat.zero_max] at this
 | ev k p d,h=>by
  have:=((MT (z:="every")).app ((Ni h.1).app ((MT (z:="of")).app ((wf h.2.2.1).app ((MT (z:="from")).app (Ni h.2.1)))))).wrap;simpa [tok,wd,deep] using this
 | nt k p q,h=>by
  have:=((Ni h.1).app ((MT (z:="of")).app ((wf h.2.1).app ((MT (z:="from")).app (wf h.2.2.1))))).wrap;simpa [tok,wd,deep] using this
 | pr w p q,h=>by
  have k:Wf [sg w.s] [sg w.s] 0:=by cases w<;>exact MT
  have:=((wf h.1).app (k.app (wf h.2))).wrap;simpa [tok,wd,deep] using this
noncomputable def tx(p:PT):Wd:=jn p.wd
end PT
namespace PT
theorem wd_ne:∀p:PT,p.wd≠[]
 | lf _=>by simp[wd]
 | each .. =>by simp[wd]
 | date .. =>by simp[wd]
 | no _=>Wh (Nz (by simp))
 | la .. =>Wh (Nz (by simp))
 | ev .. =>Wh (Nz (by simp))
 | nt .. =>Wh (Nz (by simp))
 | pr .. =>Wh (Nz (by simp))
theorem jw{ps:List Wd}(h:ps≠[]):jn (bB (bA ps))=sg "("++jn ps++sg ")":=by
 rw[xY (Nz h),ACd h,show sg "("=[40] by ac_rfl,show sg ")"=[41] by ac_rfl];rfl
theorem j1{w:Wd}{ps:List Wd}(h:ps≠[]):jn ([w]++ps)=w++sg " "++jn ps:=by
 rw[List.singleton_append,JZ h,bsg];simp
theorem ja(p:PT){ps:List Wd}(h:ps≠[]):jn (p.wd++ps)=p.tx++sg " "++jn ps:=by
 rw[qG p.wd_ne h,bsg];simp[tx]
theorem nR:sg "each "=sg "each"++sg " ":=∅
theorem XD:sg " from "=sg " "++sg "from"++sg " ":=∅
theorem tx_each(n r:Int):tx (each n r)=Hr n r:=by
 unfold Hr;rw[nR,XD,bsg];simp[tx,wd,jn]
theorem tx_date0(nm:Wd)(m d:Option Int):tx (date nm m d none)=Kc nm m d:=by
 unfold Kc;rw[dsg,bsg];simp[tx,wd,jn,yrW]
theorem tx_date1(nm:Wd)(m d:Option Int)(y:Int×Int):tx (date nm m d (some y))=Kc nm m d++(sg " "++Hr y.1 y.2):=by
 unfold Kc Hr;rw[dsg,nR,XD,bsg];simp[tx,wd,jn,yrW]
theorem tx_no(p:PT):tx (no p)=sg "(not "++p.tx++sg ")":=by
 show jn _=_;rw[wd,jw (by simp),j1 p.wd_ne,show sg "(not "=sg "("++sg "not"++sg " " by ac_rfl];simp[tx]
theorem tx_la(k:Int)(p:PT):tx (la k p)=sg "("++nW k++sg " later "++p.tx++sg ")":=by
 show jn _=_;rw[wd,jw (by simp),j1 (by simp),j1 p.wd_ne,show sg " later "=sg " "++sg "later"++sg " " by ac_rfl];simp[tx]
theorem ACG:sg " of "=sg " "++sg "of"++sg " ":=∅
theorem tx_ev(k:Int)(p:PT)(d:Int):tx (ev k p d)=sg "(every "++nW k++sg " of "++p.tx++(sg " from "++nW d++sg ")"):=by
 show jn _=_;rw[wd,jw (by simp),j1 (by simp),j1 (by simp),j1 (by simp),ja p (by simp),j1 (by simp),ACG,XD,show sg "(every "=sg "("++sg "every"++sg " " by ac_rfl];simp[jn]
theorem tx_nt(k:Int)(p q:PT):tx (nt k p q)=sg "("++nW k++sg " of "++p.tx++sg " from "++q.tx++sg ")":=by
 show jn _=_;rw[wd,jw (by simp),j1 (by simp),j1 (by simp),ja p (by simp),j1 q.wd_ne,ACG,XD];simp[tx]
noncomputable def _root_.Fw.PK.t:PK->String | .an=>" and " | .or=>" or " | .bu=>" but " | .ul=>" unlike " | .up=>" upon " | .un=>" until " | .ne=>" near " | .ti=>" till "
theorem pk_t(w:PK):sg w.t=sg " "++sg w.s++sg " ":=by cases w<;>ac_rfl
theorem tx_pr(w:PK)(p q:PT):tx (pr w p q)=sg "("++p.tx++sg w.t++q.tx++sg ")":=by
 show jn _=_;rw[wd,jw (by simp[wd_ne]),ja p (by simp),j1 q.wd_ne,pk_t];simp[tx]
theorem lv_br:∀p:PT,p.lv<=p.br+1/\1<=p.lv/\p.deep<=p.br
 | lf _=>by simp[lv,br,deep]
 | each .. =>by simp[lv,br,deep]
 | date .. =>by simp[lv,br,deep]
 | no p=>by have:=lv_br p;simp only[lv,br,deep];lia
 | la _ p=>by have:=lv_br p;simp only[lv,br,deep];lia
 | ev _ p _=>by have:=lv_br p;simp only[lv,br,deep];lia
 | nt _ p q=>by have:=lv_br p;have:=lv_br q;simp only[lv,br,deep];lia
 | pr _ p q=>by have:=lv_br p;have:=lv_br q;simp only[lv,br,deep];lia
noncomputable def nrm:PT->PT
 | lf b=>lf b
 | each n r=>each n (r%n)
 | date nm m d y=>date nm m d (ysr (yr y).1 (yr y).2)
 | no p=>no p.nrm
 | la k p=>la k p.nrm
 | ev k p d=>ev k p.nrm d
 | nt k p q=>nt k p.nrm q.nrm
 | pr w p q=>pr w p.nrm q.nrm
theorem nH{r n:Int}(h1:1<=n)(h2:n<=420):Sm (r%n):=by
 have:=ze r (show n≠0 by lia);have:=qo r (show 0<n by lia);exact Fd ⋯ ⋯
theorem yr_pos{nm:Wd}{m d:Option Int}{y:Option (Int×Int)}(h:(date nm m d y).ok):1<=(yr y).1/\(yr y).1<=2:=by
 cases y with
 | none=>exact⟨nofun,nofun⟩
 | some y=>exact(h.2.2.2.1 y rfl).2.2
theorem nrm_ok:∀{p:PT},p.ok->p.nrm.ok
 | lf _,_=>trivial
 | each ..,h=>⟨h.1,nH h.2.2.1 h.2.2.2,h.2.2⟩
 | date nm m d y,h=>by
  have o:=yr_pos h;refine⟨h.1,h.2.1,h.2.2.1,fun z hz=>?_,h.2.2.2.2⟩;unfold ysr at hz;split at hz
  ·cases hz;exact⟨Fd (by show _<(yr y).1;lia) (by show(yr y).1<_;lia),nH o.1 ⋯,o⟩
  ·cases hz
 | no p,h=>nrm_ok (p:=p) h
 | la ..,h=>⟨h.1,nrm_ok h.2⟩
 | ev ..,h=>⟨h.1,h.2.1,nrm_ok h.2.2.1,h.2.2.2⟩
 | nt ..,h=>⟨h.1,nrm_ok h.2.1,nrm_ok h.2.2.1,h.2.2.2⟩
 | pr ..,h=>⟨nrm_ok h.1,nrm_ok h.2⟩
theorem nrm_same:∀p:PT,p.nrm.deep=p.deep/\p.nrm.br=p.br/\p.nrm.lv=p.lv
 | lf _=>⟨rfl,rfl,rfl⟩
 | each .. =>⟨rfl,rfl,rfl⟩
 | date .. =>⟨rfl,rfl,rfl⟩
 | no p=>by have:=nrm_same p;simp only[nrm,deep,br,lv,this,and_self]
 | la _ p=>by have:=nrm_same p;simp only[nrm,deep,br,lv,this,and_self]
 | ev _ p _=>by have:=nrm_same p;simp only[nrm,deep,br,lv,this,and_self]
 | nt _ p q=>by have:=nrm_same p;have:=nrm_same q;simp only[*,nrm,deep,br,lv,and_self]
 | pr _ p q=>by have:=nrm_same p;have:=nrm_same q;simp only[*,nrm,deep,br,lv,and_self]
theorem rW(st rs:Int):ysr (yr (ysr st rs)).1 (yr (ysr st rs)).2=ysr st rs:=by
 unfold ysr;by_cases h:1<st
 ·rw[xz h];show(if 1<st then some (st,rs%st%st) else none)=_;rw[xz h,js9]
 ·rw[yb h];rfl
theorem nrm_nrm:∀p:PT,p.nrm.nrm=p.nrm
 | lf _=>rfl
 | each n r=>by simp[nrm]
 | date _ _ _ y=>by simp only[nrm,rW]
 | no p=>by simp only[nrm,nrm_nrm p]
 | la _ p=>by simp only[nrm,nrm_nrm p]
 | ev _ p _=>by simp only[nrm,nrm_nrm p]
 | nt _ p q=>by simp only[nrm,nrm_nrm p,nrm_nrm q]
 | pr _ p q=>by simp only[nrm,nrm_nrm p,nrm_nrm q]
theorem pK{n:Int}(h0:0<=n)(h1:n<=420):(nW n).length<=3:=by
 have:=(by ac_rfl:∀i<421,(nW ((i:Nat):Int)).length<=3) n.toNat ⋯
 rwa [ku h0] at this
theorem Zm{n r:Int}(h0:0<=n)(h1:n<=420)(hr:Sm r):(Hr n r).length<=60:=by
 unfold Hr;have:=pK h0 h1;have:=Dl hr;have e1:(sg "each ").length=5:=∅;have e2:(sg " from ").length=6:=∅;simp only[qc];lia
theorem tx_len:∀{p:PT},p.ok->p.tx.length<=80*(p.lv+p.br)
 | lf b,_=>by cases b<;>ac_rfl
 | each n r,h=>by
  rw[tx_each];have:=Zm (by have:=h.2.2.1;lia) h.2.2.2 h.2.1;simp only[lv,br];lia
 | date nm m d y,h=>by
  have l1:=h.1.hi;have l2:=h.2.2.2.2.2.2.1;have l3:=h.2.2.2.2.2.2.2;have e1:(sg "date ").length=5:=∅;have e2:(sg " ").length=1:=∅;cases y with
  | none=>
   rw[tx_date0];simp only[Kc,qc,lv,br];lia
  | some y=>
   have o:=h.2.2.2.1 y rfl;have:=Zm (n:=y.1) (by have:=o.2.2.1;lia) (by have:=o.2.2.2;lia) o.2.1;rw[tx_date1];simp only[Kc,qc,lv,br];lia
 | no p,h=>by
  have:=tx_len (p:=p) h;have e1:(sg "(not ").length=5:=∅
  have e2:(sg ")").length=1:=∅
  rw[tx_no];simp only[qc,lv,br];lia
 | la k p,h=>by
  have:=tx_len h.2;have:=Dl h.1;have e1:(sg "(").length=1:=∅
  have e2:(sg ")").length=1:=∅
  have e3:(sg " later ").length=7:=∅;rw[tx_la];simp only[qc,lv,br];lia
 | ev k p d,h=>by
  have:=tx_len h.2.2.1;have:=pK (n:=k) (by have:=h.2.2.2.1;lia) (by have:=h.2.2.2.2;lia);have:=Dl h.2.1;have e1:(sg "(every ").length=7:=∅
  have e2:(sg ")").length=1:=∅
  have e3:(sg " of ").length=4:=∅;have e4:(sg " from ").length=6:=∅;rw[tx_ev];simp only[qc,lv,br];lia
 | nt k p q,h=>by
  have:=tx_len h.2.1;have:=tx_len h.2.2.1;have:=Dl h.1;have e1:(sg "(").length=1:=∅
  have e2:(sg ")").length=1:=∅
  have e3:(sg " of ").length=4:=∅;have e4:(sg " from ").length=6:=∅;rw[tx_nt];simp only[qc,lv,br];lia
 | pr w p q,h=>by
  have:=tx_len h.1;have:=tx_len h.2;have e1:(sg "(").length=1:=∅
  have e2:(sg ")").length=1:=∅
  have e3:(sg w.t).length<=8:=by cases w<;>ac_rfl
  rw[tx_pr];simp only[qc,lv,br];lia
theorem rdy{p:PT}(h:p.ok)(hl:p.tx.length<=4000)(hd:p.deep<=40):spl 32 p.tx=p.wd/\TOk (sW p.tx)/\Dok 0 p.wd/\∀q∈p.wd,core q≠[]:=by
 have W:=wf h;refine⟨Rc W.ne W.bl,⟨Fb.mpr fun c hc=>?_,by rw[Ci];lia⟩,W.dk 0 ⋯,W.co⟩;rw[Ba] at hc;by_cases e:c=32
 ·lia
 ·obtain⟨w,hw,m⟩:=Xy e hc;exact W.as w hw c m
section
variable(g:Bg)
noncomputable def sz:PT->Int
 | lf _=>1
 | each n _=>n
 | date .. =>g.D
 | no p=>p.sz
 | la _ p=>p.sz
 | ev k p _=>p.sz*k
 | nt _ p q=>Cm p.sz q.sz
 | pr _ p q=>Cm p.sz q.sz
noncomputable def bt:PT->Nat
 | lf b=>Classical.epsilon fun c=>c=if b then 1 else 0
 | each n r=>Classical.epsilon fun c=>RB n [r] c
 | date _ m i y=>Classical.epsilon fun c=>RB g.D (dtL g m i (yr y).1 (yr y).2) c
 | no p=>Classical.epsilon fun c=>OtR (p.sz g) (bt p) c
 | la k p=>Classical.epsilon fun c=>c=ltr (p.sz g) (bt p) k
 | ev k p d=>Classical.epsilon fun c=>RB (p.sz g*k) (evl k d (p.sz g) (bt p)) c
 | nt k p q=>Classical.epsilon fun c=>KtR k (p.sz g) (bt p) (q.sz g) (bt q) (Cm (p.sz g) (q.sz g)) c
 | pr w p q=>Classical.epsilon fun c=>w.R (p.sz g) (bt p) (q.sz g) (bt q) (Cm (p.sz g) (q.sz g)) c
def r0:PT->Nat->Prop
 | lf b,c=>c=if b then 1 else 0
 | each n r,c=>RB n [r] c
 | date _ m i y,c=>RB g.D (dtL g m i (yr y).1 (yr y).2) c
 | no p,c=>OtR (p.sz g) (p.bt g) c
 | la k p,c=>c=ltr (p.sz g) (p.bt g) k
 | ev k p d,c=>RB (p.sz g*k) (evl k d (p.sz g) (p.bt g)) c
 | nt k p q,c=>KtR k (p.sz g) (p.bt g) (q.sz g) (q.bt g) (Cm (p.sz g) (q.sz g)) c
 | pr w p q,c=>w.R (p.sz g) (p.bt g) (q.sz g) (q.bt g) (Cm (p.sz g) (q.sz g)) c
end
theorem uc:∀{p:PT},0<p.sz g->p.r0 g c->p.r0 g c'->c=c'
 | lf _,_,h,h'=>h.trans h'.symm
 | each ..,z,h,h'=>RB.uniq z h h'
 | date ..,z,h,h'=>RB.uniq z h h'
 | no _,_,h,h'=>OtR.uniq h h'
 | la ..,_,h,h'=>h.trans h'.symm
 | ev ..,z,h,h'=>RB.uniq z h h'
 | nt ..,_,h,h'=>KtR.uniq h h'
 | pr w _ _,_,h,h'=>by
  cases w with
  | up=>exact UpR.uniq h h'
  | un=>exact UpR.uniq h h'
  | ne=>exact NeR.uniq h h'
  | ti=>exact TiR.uniq h h'
  | _=>exact Bo.uniq h h'
theorem bt_of{p:PT}(z:0<p.sz g)(h:p.r0 g c):p.bt g=c:=by
 have e:p.bt g=Classical.epsilon (p.r0 g):=by cases p<;>rfl
 exact uc z (e ▸ jm4 (p:=p.r0 g) ⟨c,h⟩) h
theorem sz_pos(hD:SmC g):∀{p:PT},p.ok->0<p.sz g
 | lf _,_=>by simp only[sz];decide
 | each ..,h=>by have:=h.2.2.1;simp only[sz];lia
 | date ..,_=>by have:=hD.d;simp only[sz];lia
 | no p,h=>sz_pos hD (p:=p) h
 | la _ p,h=>sz_pos hD (p:=p) h.2
 | ev k p _,h=>Int.mul_pos (sz_pos hD h.2.2.1) (by have:=h.2.2.2.1;lia)
 | nt _ p q,h=>(Bx (sz_pos hD h.2.1) (sz_pos hD h.2.2.1)).1
 | pr _ p q,h=>(Bx (sz_pos hD h.1) (sz_pos hD h.2)).1
theorem sz_nrm(g:Bg):∀p:PT,p.nrm.sz g=p.sz g
 | lf _=>rfl
 | each .. =>rfl
 | date .. =>rfl
 | no p=>sz_nrm g p
 | la _ p=>sz_nrm g p
 | ev k p _=>by simp only[nrm,sz,sz_nrm g p]
 | nt _ p q=>by simp only[nrm,sz,sz_nrm g p,sz_nrm g q]
 | pr _ p q=>by simp only[nrm,sz,sz_nrm g p,sz_nrm g q]
noncomputable def kids:PT->List PT
 | no p=>[p]
 | la _ p=>[p]
 | ev _ p _=>[p]
 | nt _ p q=>[p,q]
 | pr _ p q=>[p,q]
 | _=>[]
noncomputable def ws:PT->List Wd
 | no _=>[sg "(not ",sg ")"]
 | la k _=>[sg "("++nW k++sg " later ",sg ")"]
 | ev k _ d=>[sg "(every "++nW k++sg " of ",sg " from "++nW d++sg ")"]
 | nt k _ _=>[sg "("++nW k++sg " of ",sg " from ",sg ")"]
 | pr w _ _=>[sg "(",sg w.t,sg ")"]
 | p=>[p.tx]
noncomputable def parts:PT->List PT
 | no p=>no p::p.parts
 | la k p=>la k p::p.parts
 | ev k p d=>ev k p d::p.parts
 | nt k p q=>nt k p q::(p.parts++q.parts)
 | pr w p q=>pr w p q::(p.parts++q.parts)
 | p=>[p]
theorem parts_eq(p:PT):p.parts=p::(p.kids.map parts).flatten:=by cases p<;>simp[parts,kids]
theorem parts_n:∀p:PT,p.parts.length=p.lv+p.br
 | lf _=>rfl
 | each .. =>rfl
 | date .. =>rfl
 | no p=>by have:=parts_n p;simp only[parts,lv,br,qh];lia
 | la _ p=>by have:=parts_n p;simp only[parts,lv,br,qh];lia
 | ev _ p _=>by have:=parts_n p;simp only[parts,lv,br,qh];lia
 | nt _ p q=>by have:=parts_n p;have:=parts_n q;simp only[parts,lv,br,qh,qc];lia
 | pr _ p q=>by have:=parts_n p;have:=parts_n q;simp only[parts,lv,br,qh,qc];lia
variable{q:PT}
theorem kid_deep{p:PT}(h:q∈p.kids):q.deep<p.deep/\q.parts.length<p.parts.length:=by
 cases p<;>simp only[kids,qf,yk,or_false] at h<;>first | (rcases h with rfl | rfl<;>simp only[deep,parts,qh,qc]<;>lia) | (subst h;simp only[deep,parts,qh];lia)
theorem part_of{P:PT->Prop}(h:∀p:PT,P p->∀q∈p.kids,P q):∀{p:PT},P p->∀q∈p.parts,P q:=fun{p}=>by
 induction p with
 | lf=>exact fun o q hq=>by rw[zw.mp hq];exact o
 | each=>exact fun o q hq=>by rw[zw.mp hq];exact o
 | date=>exact fun o q hq=>by rw[zw.mp hq];exact o
 | no p i=>exact fun o q hq=>(qf.mp hq).elim (fun e=>e ▸ o) (i (h _ o _ (.head _)) q)
 | la k p i=>exact fun o q hq=>(qf.mp hq).elim (fun e=>e ▸ o) (i (h _ o _ (.head _)) q)
 | ev k p d i=>exact fun o q hq=>(qf.mp hq).elim (fun e=>e ▸ o) (i (h _ o _ (.head _)) q)
 | nt k p p' i j=>exact fun o q hq=>(qf.mp hq).elim (fun e=>e ▸ o) fun z=>(vk.mp z).elim (i (h _ o _ (.head _)) q) (j (h _ o _ (.tail _ (.head _))) q)
 | pr w p p' i j=>exact fun o q hq=>(qf.mp hq).elim (fun e=>e ▸ o) fun z=>(vk.mp z).elim (i (h _ o _ (.head _)) q) (j (h _ o _ (.tail _ (.head _))) q)
noncomputable def told(p:PT)(w0:Wd)(vs:List Wd)(i:Nat):List Wd:=w0::((p.kids.zip vs).take i).flatMap fun k=>[k.1.tx,k.2]
theorem told_succ{p:PT}{w0 w:Wd}{vs:List Wd}{i:Nat}(h1:p.kids[i]?=some q)(h2:vs[i]?=some w):p.told w0 vs (i+1)=p.told w0 vs i++[q.tx,w]:=by
 have h:(p.kids.zip vs)[i]?=some (q,w):=by rw[jr8];exact⟨h1,h2⟩
 unfold told;rw[jw3,h];simp
theorem ws_eq(p:PT):∃w0 vs,p.ws=w0::vs/\vs.length=p.kids.length/\(p.told w0 vs p.kids.length).flatten=p.tx:=by
 cases p with
 | no p=>exact⟨_,_,rfl,rfl,by rw[tx_no];simp[told,kids]⟩
 | la k p=>exact⟨_,_,rfl,rfl,by rw[tx_la];simp[told,kids]⟩
 | ev k p d=>exact⟨_,_,rfl,rfl,by rw[tx_ev];simp[told,kids]⟩
 | nt k p q=>exact⟨_,_,rfl,rfl,by rw[tx_nt];simp[told,kids]⟩
 | pr w p q=>exact⟨_,_,rfl,rfl,by rw[tx_pr];simp[told,kids]⟩
 | _=>exact⟨_,_,rfl,rfl,by simp[told,kids]⟩
theorem kid_tx{p:PT}(h:q∈p.kids):q.tx.length<=p.tx.length:=by
 cases p<;>simp only[kids,qf,yk,or_false] at h
 case no=>subst h;rw[tx_no];simp only[qc];lia
 case la=>subst h;rw[tx_la];simp only[qc];lia
 case ev=>subst h;rw[tx_ev];simp only[qc];lia
 case nt=>rw[tx_nt];simp only[qc];rcases h with rfl | rfl<;>lia
 case pr=>rw[tx_pr];simp only[qc];rcases h with rfl | rfl<;>lia
theorem told_len(p:PT)(w0:Wd)(vs:List Wd)(i:Nat):(p.told w0 vs i).length<=5:=by
 cases p<;>rcases vs with _ | ⟨a,_ | ⟨b,r⟩⟩<;>rcases i with _ | _ | i<;>simp[told,kids]
end PT
def PT.kn:PT->Prop
 | .date nm _ _ _=>nm=sg "sun"
 | .no p=>p.kn
 | .la _ p=>p.kn
 | .ev _ p _=>p.kn
 | .nt _ p q=>p.kn/\q.kn
 | .pr _ p q=>p.kn/\q.kn
 | _=>True
theorem PT.nrm_kn:∀{p:PT},p.kn->p.nrm.kn
 | .lf _,h=>h
 | .each ..,h=>h
 | .date ..,h=>h
 | .no p,h=>nrm_kn (p:=p) h
 | .la _ p,h=>nrm_kn (p:=p) h
 | .ev _ p _,h=>nrm_kn (p:=p) h
 | .nt ..,h=>⟨nrm_kn h.1,nrm_kn h.2⟩
 | .pr ..,h=>⟨nrm_kn h.1,nrm_kn h.2⟩
def Dc(K:Fr)(CS CM:Addr)(g:Bg)(H:Hp)(a:Addr):Prop:=∃kv y,H a=some (.dK kv)/\Fl kv (.inr (sW (sg "sun")))=some (.ref y)/\Q5 K CS CM H y g
theorem Dc.same{CS CM:Addr}(d:Dc K CS CM g H a)(s:Aw H H'):Dc K CS CM g H' a:=by
 obtain⟨kv,y,h,e,C⟩:=d;exact⟨kv,y,s _ _ h,e,Hi.same C s⟩
structure Nod(K:Fr)(CR:Addr)(CL:List Addr)(H:Hp)(a:Addr)(n:Int)(b:Nat)(ks:List Addr)(ws:List Wd):Prop where
 ex:∃C dx p pm pw,C∈CL/\RC K CR C/\H a=some (.ins C dx (rF p pm pw))/\H p=some (.tup [.int n,.int (b:Int)])/\H pm=some (.tup (ks.map .ref))/\H pw=some (.tup (ws.map fun w=>.str (sW w)))
 n0:0<n
 n1:n<=150000
 lt:b<2^n.toNat
inductive TrH(K:Fr)(CR:Addr)(CL:List Addr)(g:Bg)(H:Hp):Addr->PT->Prop
 | mk {x:Addr} {p:PT} {ks:List (Addr×PT)}:Nod K CR CL H x (p.sz g) (p.bt g) (ks.map Prod.fst) p.ws->p.r0 g (p.bt g)->ks.map Prod.snd=p.kids->(∀k∈ks,TrH K CR CL g H k.1 k.2)->TrH K CR CL g H x p
section
variable{K:Fr}{CR:Addr}{CL:List Addr}{g:Bg}{H H':Hp}{x:Addr}{p:PT}
theorem TrH.on(st:∀{y C dx p pm pw},H y=some (.ins C dx (rF p pm pw))->H' y=some (.ins C dx (rF p pm pw)))(su:∀{y xs},H y=some (.tup xs)->H' y=some (.tup xs))(h:TrH K CR CL g H x p):TrH K CR CL g H' x p:=by
 induction h with
 | mk N r e _ i=>
  obtain⟨C,dx,p,pm,pw,c,rc,e1,e2,e3,e4⟩:=N.ex;exact .mk ⟨⟨C,dx,p,pm,pw,c,rc,st e1,su e2,su e3,su e4⟩,N.n0,N.n1,N.lt⟩ r e i
theorem TrH.same(h:TrH K CR CL g H x p)(s:Aw H H'):TrH K CR CL g H' x p:=h.on (s _ _) (s _ _)
theorem TrH.rule(h:TrH K CR CL g H x p):Gh K CR CL H x (p.sz g) (p.bt g):=by
 cases h with
 | mk N=>
  obtain⟨C,dx,p,pm,pw,c,rc,e1,e2,_⟩:=N.ex;exact⟨⟨C,dx,p,pm,pw,c,rc,e1,e2⟩,N.n0,N.n1,N.lt⟩
theorem TrH.r0(h:TrH K CR CL g H x p):p.r0 g (p.bt g):=by cases h;assumption
theorem TrH.node(h:TrH K CR CL g H x p):∃(C dx q pm pw:Addr) (ks:List (Addr×PT)),C∈CL/\RC K CR C/\H x=some (.ins C dx (rF q pm pw))/\H pm=some (.tup (ks.map fun k=>.ref k.1))/\H pw=some (.tup (p.ws.map fun w=>.str (sW w)))/\ks.map Prod.snd=p.kids/\∀k∈ks,TrH K CR CL g H k.1 k.2:=by
 cases h with
 | mk N r e h=>
  obtain⟨C,dx,p,pm,pw,c,rc,e1,e2,e3,e4⟩:=N.ex;rw[va] at e3;exact⟨C,dx,p,pm,pw,_,c,rc,e1,e3,e4,e,h⟩
end
section
variable(K:Fr)(CR:Addr)(CL:List Addr)(C:Addr)
def Lx(g:Bg)(H:Hp)(x:Addr)(Q:VK)(p:PT):Prop:=(∃dx,H x=some (.ins C dx []))/\∀H',KB x H H'->TrH K CR CL g H' x p->Q .non H'
def xN(b:Bool):Sp:=fun vs H Q _=>Ex2 fun(x:Addr) (g:Bg)=>vs=[.ref x]/\Lx K CR CL C g H x Q (.lf b)
def ABu:Sp:=fun vs H Q _=>Ex4 fun(x:Addr) (n r:Int) (g:Bg)=>An4 (vs=[.ref x,.int n,.int r]) (1<=n) (n<=1000) (Lx K CR CL C g H x Q (.each n (r%n)))
def ABv:Sp:=fun vs H Q _=>Ex4 fun(x r:Addr) (p:PT) (g:Bg)=>An3 (vs=[.ref x,.ref r]) (TrH K CR CL g H r p) (Lx K CR CL C g H x Q (.no p))
def ABs:Sp:=fun vs H Q _=>Ex5 fun(x r:Addr) (k:Int) (p:PT) (g:Bg)=>An4 (vs=[.ref x,.int k,.ref r]) (k.natAbs.log2<1920) (TrH K CR CL g H r p) (Lx K CR CL C g H x Q (.la k p))
def ABr:Sp:=fun vs H Q _=>Ex6 fun(x r:Addr) (k d:Int) (p:PT) (g:Bg)=>An7 (vs=[.ref x,.int k,.ref r,.int d]) (1<=k) (k<=1000) (p.sz g*k<=150000) (Bt 200 d) (TrH K CR CL g H r p) (Lx K CR CL C g H x Q (.ev k p d))
def Mq(w:PK):Sp:=fun vs H Q _=>Ex6 fun(x r t:Addr) (p q:PT) (g:Bg)=>An5 (vs=[.ref x,.ref r,.ref t]) (TrH K CR CL g H r p) (TrH K CR CL g H t q) (Cm (p.sz g) (q.sz g)<=150000) (Lx K CR CL C g H x Q (.pr w p q))
def ABt:Sp:=fun vs H Q _=>Ex7 fun(x r t:Addr) (k:Int) (p q:PT) (g:Bg)=>An7 (vs=[.ref x,.int k,.ref r,.ref t]) (k≠0) (k.natAbs.log2<1920) (TrH K CR CL g H r p) (TrH K CR CL g H t q) (Cm (p.sz g) (q.sz g)<=150000) (Lx K CR CL C g H x Q (.nt k p q))
def xM(CS CM:Addr):Sp:=fun vs H Q _=>Ex8 fun(x y:Addr) (nm:Wd) (g:Bg) (st rs:Int) (m d:Option Int)=>ABa (vs=[.ref x,.str (sW nm),.ref y,oI m,oI d,.int st,.int rs]) (nm.length<=100) (Q5 K CS CM H y g) (SmC g) (okM m) (okO m) (d≠some 0) (okO d) (1<=st) (st<=2) (Lx K CR CL C g H x Q (.date nm m d (ysr st rs)))
end
def ABw:Sp:=fun vs H Q _=>Ex2 fun(n r:Int)=>An4 (vs=[.int n,.int r]) (1<=n) (n<=1000) ((Hr n (r%n)).length<=3900->Q (.str (sW (Hr n (r%n)))) H)
def ABm:Sp:=fun vs H Q _=>∃m:Option Int,An3 (vs=[oI m]) (okO m) ((CN m).length<=1921->Q (.str (sW (CN m))) H)
theorem yJ(nm:Wd)(m d:Option Int)(st rs:Int):PT.tx (.date nm m d (ysr st rs))=Kc nm m d++(if 1<st then sg " "++Hr st (rs%st) else []):=by
 unfold ysr;by_cases h:1<st
 ·rw[xz h,xz h,PT.tx_date1]
 ·rw[yb h,yb h,PT.tx_date0,ya]
def ABx:Sp:=fun vs H Q _=>Ex5 fun(nm:Wd) (m d:Option Int) (st rs:Int)=>An7 (vs=[.str (sW nm),oI m,oI d,.int st,.int rs]) (nm.length<=100) (okO m) (okO d) (1<=st) (st<=2) (∀(H':Hp),Aw H H'->Q (.str (sW (PT.tx (.date nm m d (ysr st rs))))) H')
section
variable(K:Fr)(CR:Addr)(CL:List Addr)(CS CM:Addr)
def Tl(g:Bg)(p:PT)(H:Hp)(Q:VK):Prop:=∀x H',Aw H H'->TrH K CR CL g H' x p.nrm->Q (.ref x) H'
def tW:Sp:=fun vs H Q _=>Ex6 fun(v:V) (a:Addr) (m d:Option Int) (y:Option (Int×Int)) (g:Bg)=>An6 (vs=[v,.ref a]) (PlH H (.date (sg "sun") m d y) v) ((PT.date (sg "sun") m d y).ok) (SmC g) (Dc K CS CM g H a) (Tl K CR CL g (.date (sg "sun") m d y) H Q)
def tV:Sp:=fun vs H Q _=>Ex6 fun(w:PK) (x y:Addr) (p q:PT) (g:Bg)=>An5 (vs=[.str w.s,.ref x,.ref y]) (TrH K CR CL g H x p) (TrH K CR CL g H y q) (Cm (p.sz g) (q.sz g)<=150000) (∀z H',Aw H H'->TrH K CR CL g H' z (.pr w p q)->Q (.ref z) H')
def Rh(d:Nat):Sp:=fun vs H Q _=>Ex4 fun(v:V) (a:Addr) (p:PT) (g:Bg)=>An9 (vs=[v,.ref a]) (PlH H p v) p.ok p.kn (p.deep<d) (SmC g) (Dc K CS CM g H a) (p.sz g<=150000) (Tl K CR CL g p H Q)
def yg:Sp:=fun vs H Q _=>Ex3 fun(a:Addr) (p:PT) (g:Bg)=>An8 (vs=[.str (sW p.tx),.ref a]) p.ok p.kn (p.lv+p.br<=40) (SmC g) (Dc K CS CM g H a) (p.sz g<=150000) (Tl K CR CL g p H Q)
def Mp(d:Nat):Sp:=fun vs H Q _=>Ex3 fun(x:Addr) (p:PT) (g:Bg)=>An5 (vs=[.ref x]) (TrH K CR CL g H x p) (p.deep<d) (p.parts.length<=100) (∀l (ps:List (Addr×PT)) H',H l=none->Aw H H'->H' l=some (.lst (ps.map fun k=>.ref k.1))->ps.map Prod.snd=p.parts->(∀k∈ps,TrH K CR CL g H' k.1 k.2)->Q (.ref l) H')
def Ml(d:Nat):Sp:=fun vs H Q _=>Ex3 fun(x:Addr) (p:PT) (g:Bg)=>An5 (vs=[.ref x]) (TrH K CR CL g H x p) (p.deep<d) (p.tx.length<=4000) (∀H',Aw H H'->Q (.str (sW p.tx)) H')
end
theorem Yn{CR:Addr}{CL:List Addr}{CS CM:Addr}(h:Rh K CR CL CS CM 0 vs H Q E):False:=by
 obtain⟨v,a,p,D,_,_,_,_,h,_⟩:=h;lia
theorem Wx{CR:Addr}{CL:List Addr}(h:Mp K CR CL 0 vs H Q E):False:=by
 obtain⟨_,_,_,_,_,h,_⟩:=h;lia
theorem Wu{CR:Addr}{CL:List Addr}(h:Ml K CR CL 0 vs H Q E):False:=by
 obtain⟨_,_,_,_,_,h,_⟩:=h;lia
section
variable{K:Fr}{CR:Addr}{CL:List Addr}{C:Addr}{g:Bg}{H H2 H':Hp}{x y dx dy q pm pw:Addr}{p p':PT}{Q:VK}{E:XK}
theorem Ha(hy:H y=none)(hdy:H dy=none)(ne:dy≠y):Aw H (upd (upd H dy (.own y)) y o):=(Av hdy _).trans (Av (by rw[Ax (Ne.symm ne)];exact hy) _)
theorem Lx.go(hy:H y=none)(hdy:H dy=none)(ne:dy≠y)(q:∀H',Aw H H'->TrH K CR CL g H' y p->Q .non H'):Lx K CR CL C g (upd (upd H dy (.own y)) y (.ins C dy [])) y Q p:=
 ⟨⟨dy,Am⟩,fun H' k N=>q H' (V4 hy hdy ne k) N⟩
theorem ADe{w:PK}{r t:Addr}(R1:TrH K CR CL g H r p)(R2:TrH K CR CL g H t p')(lz:Cm (p.sz g) (p'.sz g)<=150000)(hy:H y=none)(hdy:H dy=none)(ne:dy≠y)(q:∀H',Aw H H'->TrH K CR CL g H' y (.pr w p p')->Q .non H'):Mq K CR CL C w [.ref y,.ref r,.ref t] (upd (upd H dy (.own y)) y (.ins C dy [])) Q E:=
 ⟨y,r,t,p,p',g,rfl,R1.same (Ha hy hdy ne),R2.same (Ha hy hdy ne),lz,.go hy hdy ne q⟩
theorem Hb(ks:List (Addr×PT))(hC:C∈CL)(R:RC K CR C)(hx:H2 x=some (.ins C dx []))(hq:H2 q=some (.tup [.int (p.sz g),.int (b:Int)]))(hm:H2 pm=some (.tup (ks.map fun k=>.ref k.1)))(hw:H2 pw=some (.tup (p.ws.map fun w=>.str (sW w))))(k:KB x H2 H')(e:H' x=some (.ins C dx (rF q pm pw)))(n0:0<p.sz g)(n1:p.sz g<=150000)(lt:b<2^(p.sz g).toNat)(r:p.r0 g b)(ek:ks.map Prod.snd=p.kids)(h:∀k∈ks,TrH K CR CL g H2 k.1 k.2):TrH K CR CL g H' x p:=by
 have eb:=PT.bt_of n0 r;subst eb;refine .mk (ks:=ks) ⟨⟨C,dx,q,pm,pw,hC,R,e,k _ _ (G5 hq hx (fun z=>nomatch z)) hq,?_,k _ _ (G5 hw hx (fun z=>nomatch z)) hw⟩,n0,n1,lt⟩ r ek fun y hy=>(h y hy).on (fun z=>k _ _ (G5 z hx (fun w=>nomatch w)) z) fun z=>k _ _ (G5 z hx (fun w=>nomatch w)) z;rw[va];exact k _ _ (G5 hm hx (fun z=>nomatch z)) hm
end
theorem fm3(a b:String)(n:Int):Str.empty++Str.ofString a++Cr n++Str.ofString b=sW (sg a++nW n++sg b):=Eu (by rw[G3,G3,G3,Ba];rfl)
theorem sgS(a:String):V.str (Str.ofString a)=V.str (sW (sg a)):=xy V.str (Gb _).symm
theorem vh(g:Bg)(m d:Option Int)(st rs:Int)(h:1<=st):dtL g m d (yr (ysr st rs)).1 (yr (ysr st rs)).2=dtL g m d st rs:=by
 unfold ysr;by_cases c:1<st
 ·rw[xz c];show dtL g m d st (rs%st)=_;unfold dtL;rw[js9]
 ·obtain rfl:st=1:=⋯
  rw[yb c];show dtL g m d 1 0=_;unfold dtL;rw[Int.emod_one,Int.emod_one]
theorem lM{CR:Addr}{CL:List Addr}{r t:Addr}{p p':PT}(T1:TrH K CR CL g H r p)(T2:TrH K CR CL g H t p'):∀k∈[(r,p),(t,p')],TrH K CR CL g H k.1 k.2:=fun _ z=>by
 rcases qf.mp z with e | e
 ·rw[e];exact T1
 ·rw[zw.mp e];exact T2
theorem in2{CR C r t dx:Addr}{CL:List Addr}{p p':PT}{w:PK}(cm:C∈CL):TrH K CR CL g H r p->TrH K CR CL g H t p'->Cm (p.sz g) (p'.sz g)<=150000->(∀H',KB x H H'->TrH K CR CL g H' x (.pr w p p')->Q V.non H')->H x=some (.ins C dx [])->RC K CR C->lX (Vs (Ww K CR) [] E0 (Hw (Ju 0) (Hw (Vs (spJ K w.R) [] E0 (Hw (RW (CL.map fun C=>(C,spR (Kz K CR CL) 1)) "turn" (Ju 1) Ly) (Hw (RW (CL.map fun C=>(C,spR (Kz K CR CL) 1)) "turn" (Ju 2) Ly) Ly))) (Hw (sS (Hw (Ju 1) (Hw (Ju 2) Ly))) (Hw (sS (Hw (tC (.str "(")) (Hw (tC (.str w.t)) (Hw (tC (.str ")")) Ly)))) Ly))))) { nx:=fun _ H'=>Q V.non H',rt:=Q } (L2.start ["self","R","S"] [.ref x,.ref r,.ref t]) H:=by
 intro T1 T2 lz q hx rc;have R1:=T1.rule;have R2:=T2.rule;have fl:=Bx R1.n0 R2.n0;symm;obtain⟨C,dr,fs,m,hr,l1,_⟩:=R1.mt;exists⟨_,C,dr,fs,_,m _,rfl,hr,l1,?_⟩;exists⟨jb0,_,_,_,rfl,R1,fun pt hp=>?_⟩;obtain⟨C',dr',fs',m',hr',l1',_⟩:=R2.mt;exists⟨_,C',dr',fs',_,m' _,rfl,hr',l1',?_⟩;exists⟨jb0,_,_,_,rfl,R2,fun pu hp'=>?_⟩;exists⟨pt,pu,_,_,_,_,rfl,⟨SqT.of hp,SqT.of hp',R1.n0,R2.n0,R1.n1,R2.n1,R1.lt,R2.lt⟩,lz,fun p2 c H1 s1 t1 lt Rr=>?_⟩;refine⟨Ij,fun pm hpm=>?_⟩;exists fresh hpm fun H2 s2 t2=>?_;refine⟨(by show 3<=sizeLine;decide),fun pw hpw=>?_⟩;refine fresh hpw fun H3 s3 t3=>?_;have t3:H3 pw=some (.tup ((PT.pr w p p').ws.map fun w=>.str (sW w))):=by rw[t3,sgS,sgS,sgS];rfl
 have s23:=s2.trans s3;have hx3:=(s1.trans s23) _ _ hx;symm;exact⟨_,p2,pm,pw,_,_,rfl,hx3,rc,fun H' k e=>q H' (k.pre (s1.trans s23)) (Hb [(r,p),(t,p')] cm rc hx3 (s23 _ _ t1) (s3 _ _ t2) t3 k e fl.1 lz lt Rr rfl (lM (T1.same (s1.trans s23)) (T2.same (s1.trans s23))))⟩
theorem ACU(w:PK):∀z∈["all","none","each","date","not","later","every","of"],Str.ofString w.s≠Str.ofString z:=by cases w<;>ac_rfl
theorem pW{a b:Int}(h1:0<a)(h2:0<b):a<=Cm a b/\b<=Cm a b:=by
 have f:=Bx h1 h2;exact⟨jo9 f.1 f.2.1,jo9 f.1 f.2.2.1⟩
theorem ACo(h:Sm i):Bt 200 i:=jo0 h nofun
namespace PT
theorem tok_len:∀p:PT,p.tok.length<=10*(p.lv+p.br)
 | lf _=>by simp[tok,lv,br]
 | each .. =>by simp[tok,lv,br]
 | date _ _ _ none=>by simp[tok,yrW,lv,br]
 | date _ _ _ (some _)=>by simp[tok,yrW,lv,br]
 | no p=>by have:=tok_len p;simp[tok,lv,br];lia
 | la _ p=>by have:=tok_len p;simp[tok,lv,br];lia
 | ev _ p _=>by have:=tok_len p;simp[tok,lv,br];lia
 | nt _ p q=>by have:=tok_len p;have:=tok_len q;simp[tok,lv,br];lia
 | pr _ p q=>by have:=tok_len p;have:=tok_len q;simp[tok,lv,br];lia
theorem tok_ok{p:PT}(h:p.ok):∀w∈p.tok,TOk (sW w):=by
 have num:∀{n:Int},Sm n->TOk (sW (nW n)):=fun{n} h=>⟨Fb.mpr fun c hc=>by rw[Ba] at hc;have:=JW h c hc;lia,by rw[Ci];have:=Dl h;lia⟩;have str:∀{m:Option Int},okS m->TOk (sW (CN m)):=fun{m} h=>by
  cases m with
  | none=>exact⟨∅,∅⟩
  | some i=>exact num (h i rfl)
 have all:∀{ws:List Wd} {w:Wd},TOk (sW w)->(∀x∈ws,TOk (sW x))->∀x∈w::ws,TOk (sW x):=fun h g x hx=>(qf.mp hx).elim (fun e=>e ▸ h) (g x);have app:∀{ws vs:List Wd},(∀x∈ws,TOk (sW x))->(∀x∈vs,TOk (sW x))->∀x∈ws++vs,TOk (sW x):=fun h g x hx=>(vk.mp hx).elim (h x) (g x);have nil:∀x∈([]:List Wd),TOk (sW x):=fun _ h=>nomatch h;have L:TOk (sW kL):=⟨∅,∅⟩;have R:TOk (sW kR):=⟨∅,∅⟩;have k1:TOk (sW (sg "each")):=⟨∅,∅⟩;have k2:TOk (sW (sg "from")):=⟨∅,∅⟩;have k3:TOk (sW (sg "of")):=⟨∅,∅⟩
 induction p with
 | lf b=>cases b<;>exact all ⟨∅,∅⟩ nil
 | each n r=>exact all k1 (all (num h.1) (all k2 (all (num h.2.1) nil)))
 | date nm m d y=>
  refine all ⟨∅,∅⟩ (all ⟨Fb.mpr fun c hc=>by rw[Ba] at hc;have:=h.1.ch c hc;lia,by rw[Ci];have:=h.1.hi;lia⟩ (all (str h.2.1) (all (str h.2.2.1) ?_)));cases y with
  | none=>exact nil
  | some y=>exact all k1 (all (num (h.2.2.2.1 y rfl).1) (all k2 (all (num (h.2.2.2.1 y rfl).2.1) nil)))
 | no p i=>exact all L (all ⟨∅,∅⟩ (app (i h) (all R nil)))
 | la k p i=>exact all L (all (num h.1) (all ⟨∅,∅⟩ (app (i h.2) (all R nil))))
 | ev k p d i=>exact all L (all ⟨∅,∅⟩ (all (num h.1) (all k3 (app (i h.2.2.1) (all k2 (all (num h.2.1) (all R nil)))))))
 | nt k p q i j=>exact all L (all (num h.1) (all k3 (app (i h.2.1) (all k2 (app (j h.2.2.1) (all R nil))))))
 | pr w p q i j=>
  have:TOk (sW (sg w.s)):=by cases w<;>exact⟨∅,∅⟩
  exact all L (app (i h.1) (all this (app (j h.2) (all R nil))))
end PT
theorem Dh{x:V}:atI (x::xs) 0=some x:=DY (j:=0) rfl
theorem HD{x:V}:atI (x::y::xs) 1=some y:=DY (j:=1) rfl
theorem Ks{x z:V}:atI (x::y::z::xs) 2=some z:=DY (j:=2) rfl
theorem wN{x z u:V}:atI (x::y::z::u::xs) 3=some u:=DY (j:=3) rfl
theorem ADp{x z u v:V}:atI (x::y::z::u::v::xs) 4=some v:=DY (j:=4) rfl
theorem ADo{x z u v w:V}:atI (x::y::z::u::v::w::xs) 5=some w:=DY (j:=5) rfl
theorem ADm{x:V}:Im (x::xs) (some 1) none=xs:=by
 simp[Im,HT.sIx]
theorem ACm{x:V}:¬(HT.sIx (x::xs).length 0 (some 1)=0/\HT.sIx (x::xs).length (x::xs).length none=(x::xs).length):=by
 rintro⟨h,_⟩;simp[HT.sIx] at h
theorem AAn(a b c d:Int):Tp [V.int a,V.int b] [V.int c,V.int d]=decide (a=c/\b=d):=by
 rw[show [V.int a,V.int b]=[a,b].map V.int from rfl,show[V.int c,V.int d]=[c,d].map V.int from rfl,WQ];simp
theorem AAq{z:Nat}(lt:c<2^z)(h:dl c z=[]):c=0:=JG lt (ka z) fun i hi=>by
 rw[jc7];cases e:c.testBit i with
 | false=>rfl
 | true=>exact absurd (mem_dl.mpr ⟨hi,e⟩) (by rw[h];simp)
theorem uz{X:Cx}{M:List Str}{x:Str}{scope:Scope}{cl:List (Str×Addr)}{C:Addr}{s₀:Shared}{H₀:Hp}{fp:List Addr}(hu:X.A.units<cLine):OpR (Kf X M x scope cl C s₀ H₀ fp) (compareOp .Eq) (zb X.K):=Xk hu
def Rnd(M:Nat)(H:Hp)(p:Addr)(n b:Nat):Prop:=0<n/\n<=M/\b<2^n/\H p=some (.tup [.int (n:Int),.int (b:Int)])
theorem Rnd.keep{M:Nat}{p:Addr}{n:Nat}(h:Rnd M H p n b)(s:Aw H H'):Rnd M H' p n b:=⟨h.1,h.2.1,h.2.2.1,s _ _ h.2.2.2⟩
theorem Rnd.sq{M:Nat}{p:Addr}{n:Nat}(h:Rnd M H p n b):SqT K H p [.int (n:Int),.int (b:Int)]:=SqT.of h.2.2.2
def yt(K:Fr):Sp:=fun vs H Q _=>Ex4 fun(a:Addr) (n d:Int) (b:Nat)=>An8 (vs=[.ref a,.int d]) (SqT K H a [.int n,.int (b:Int)]) (0<n) (n<=150000) (b<2^n.toNat) (Bt 200 d) ((∀e,On n b e=false)->∀H',Aw H H'->Q .non H') (∀(r:Int) (H':Hp),Aw H H'->d<=r->On n b r=true->(∀e,d<=e->e<r->On n b e=false)->Q (.int r) H')
def zA(K:Fr):Sp:=fun vs H Q _=>Ex4 fun(a:Addr) (n d:Int) (b:Nat)=>An8 (vs=[.ref a,.int d]) (SqT K H a [.int n,.int (b:Int)]) (0<n) (n<=150000) (b<2^n.toNat) (Bt 200 d) ((∀e,On n b e=false)->∀H',Aw H H'->Q .non H') (∀(r:Int) (H':Hp),Aw H H'->r<=d->On n b r=true->(∀e,r<e->e<=d->On n b e=false)->Q (.int r) H')
def mj:Sp:=fun vs H Q _=>∃n:Nat,An4 (vs=[.int (n:Int)]) (0<n) (n<=150000) (∀(lp:Addr) (H':Hp) (ps:List Nat),H lp=none->Aw H H'->H' lp=some (.lst (ps.map fun(p:Nat)=>V.int (p:Int)))->rH n ps->ps.length<=200000->Q (.ref lp) H')
def uF(K:Fr):Sp:=fun vs H Q _=>Ex4 fun(a:Addr) (z c s:Nat)=>An6 (vs=[.ref a,.int (s:Int)]) (SqT K H a [.int (z:Int),.int (c:Int)]) (0<s) (s<=z) (z<=150000) (Q (.bl (decide (c >>> s=c &&& (2^(z-s)-1)))) H)
def mz(K:Fr):Sp:=fun vs H Q _=>Ex3 fun(a:Addr) (n b:Nat)=>An6 (vs=[.ref a]) (SqT K H a [.int (n:Int),.int (b:Int)]) (0<n) (n<=150000) (b<2^n) (∀(p:Addr) (H':Hp) (z c:Nat),Aw H H'->H' p=some (.tup [.int (z:Int),.int (c:Int)])->Lst n b z c->Q (.ref p) H')
theorem take_snoc{α:Type}{xs:List α}{i:Nat}{x:α}(h:xs[i]?=some x){y:α}(hy:y∈xs.take (i+1)):y∈xs.take i\/y=x:=by
 rw[ja0,h] at hy;rcases vk.mp hy with z | z
 ·exact .inl z
 ·exact .inr (by simpa using z)
def ye:Sp:=fun vs H Q _=>Ex9 fun(a1 a2:Addr) (n b m c z x:Nat) (d:Int)=>An6 (vs=[.ref a1,.ref a2,.int d]) (Rnd 70000 H a1 n b) (Rnd 70000 H a2 m c) (Lst n b z x) (Lst m c z x) (∀(p t:Addr) (H':Hp),Aw H H'->H' p=some (.tup [.str "same",.ref t])->H' t=some (.tup [.int (z:Int),.int (x:Int)])->Q (.ref p) H')
noncomputable def tmW(a b:Int):Wd:=43::Fe 44 ([a,b,2].map nW)
noncomputable def Wo(g:Bg):List Wd:=[nW g.s,Fe 44 ([g.f,g.h].map nW),sg "leap",nW 2,tmW g.a g.b]
noncomputable def UT(g:Bg):List Wd:=sg "sun"::Wo g
theorem SmC.sm(o:SmC g):Sm g.s:=jo0 o.s nofun
theorem SmC.tm(o:SmC g):OkT (1,g.a,g.b,2):=⟨.inl rfl,(by show(1:Int)<=2;decide),(by show(2:Int)<=1000;decide),o.a0,o.a1,o.b0,by have:=o.b1;show g.b<2;lia⟩
theorem SmC.gd(o:SmC g):Jt [g.f,g.h] 2 g.ts:=by
 have:=o.f0;have:=o.f1;have:=o.g0;have:=o.g1;have e:falls g.ts=0:=rfl;refine⟨(by show 1<=2;decide),(by show 2<=20;decide),fun n hn=>?_,nofun,(by show(2:Int)<=2;decide),?_,?_,fun t ht=>by rw[zw.mp ht];exact o.tm,(by show 1<=6;decide)⟩
 ·rcases qf.mp hn with e | e
  ·lia
  ·rw[zw.mp e];lia
 ·rw[e];show 0<=g.h;lia
 ·rw[e];show 0<g.f+(g.h+0);lia
noncomputable def wvS(ws:List Wd):List V:=ws.map fun w=>.str (sW w)
theorem LQ(xs:List V)(k:Nat):Im xs (some (k:Int)) none=xs.drop k:=by
 unfold Im;rw[HT.sIx_nat,HT.sIx_none];by_cases h:k<=xs.length
 ·rw[jv8 h,vn (by rw[ja7];exact qg _)]
 ·rw[ju3 ⋯,vj (qg _),vj ⋯,jw9]
theorem sn(h:¬(c=45\/48<=c/\c<=57)){i:Int}(g:Sm i):c∉nW i:=fun z=>h (JW g c z)
theorem bj{ns:List Int}(hn:ns≠[])(h:∀n∈ns,Sm n):(MF 44 (sW (Fe 44 (ns.map nW)))).map V.str=ns.map fun n=>V.str (sW (nW n)):=by
 cases ns with
 | nil=>exact absurd rfl hn
 | cons n r=>
  rw[show MF 44 (sW (Fe 44 ((n::r).map nW)))=(spl 44 (cpl (sW (Fe 44 ((n::r).map nW))))).map sW from rfl,zv,Ba,Vu 44 _ _ fun x hx=>by
   obtain⟨i,hi,rfl⟩:=yy.mp (show x∈(n::r).map nW from hx);exact sn nofun (h i hi)]
  simp
theorem V6(c k:Nat):∀{ws:List (List Nat)},(∀w∈ws,w.length<=k)->(Fe c ws).length<=ws.length*(k+1)
 | [],_=>vt _
 | [w],h=>by
  have:=h w qm;show(w++[]).length<=1*(k+1);rw[ya];lia
 | w::y::ws,h=>by
  have a:=h w qm;have b:=V6 c k (ws:=y::ws) fun x hx=>h x (qv _ hx);rw[TY,qc,qh,qh (as:=y::ws),jw1];lia
theorem Nh{ns:List Int}(h:∀n∈ns,Sm n):(Fe 44 (ns.map nW)).length<=ns.length*47:=by
 have:=V6 44 46 (ws:=ns.map nW) fun w hw=>by
  obtain⟨n,hn,rfl⟩:=yy.mp hw;exact Dl (h n hn)
 rwa [jp] at this
theorem qD{P:Nat->Prop}(hc:P c):∀{ws:List (List Nat)},(∀w∈ws,∀a∈w,P a)->∀a∈Fe c ws,P a
 | [],_,a,ha=>by cases ha
 | w::ws,h,a,ha=>by
  rcases vk.mp ha with z | z
  ·exact h w qm a z
  ·obtain⟨x,hx,hz⟩:=List.mem_flatten.mp z;obtain⟨y,hy,rfl⟩:=yy.mp hx;rcases qf.mp hz with e | e
   ·rw[e];exact hc
   ·exact h y (qv _ hy) a e
theorem vC(h:Sm i):TOk (sW (nW i)):=⟨Fb.mpr fun c hc=>by rw[Ba] at hc;have:=JW h c hc;lia,by rw[Ci];have:=Dl h;lia⟩
def wch(c:Nat):Prop:=43<=c/\c<=122
theorem fD{ns:List Int}(h:∀n∈ns,Sm n):∀c∈Fe 44 (ns.map nW),wch c:=qD (by unfold wch;lia) fun w hw c hc=>by
 obtain⟨n,hn,rfl⟩:=yy.mp hw;have:=JW (h n hn) c hc;unfold wch;lia
theorem sm1(h1:0<=i)(h2:i<=60):Sm i:=Fd ⋯ ⋯
theorem SmC.t3(o:SmC g):∀n∈[g.a,g.b,2],Sm n:=fun n hn=>by
 have:=o.a0;have:=o.a1;have:=o.b0;have:=o.b1;simp only[qf,yk,or_false] at hn;exact sm1 ⋯ ⋯
theorem SmC.t2(o:SmC g):∀n∈[g.f,g.h],Sm n:=fun n hn=>by
 have:=o.f0;have:=o.f1;have:=o.g0;have:=o.g1;simp only[qf,yk,or_false] at hn;exact sm1 ⋯ ⋯
theorem SmC.ch(o:SmC g):∀w∈UT g,w.length<=200/\∀c∈w,wch c:=fun w hw=>by
 have num:∀{i:Int},Sm i->(nW i).length<=200/\∀c∈nW i,wch c:=fun h=>⟨by have:=Dl h;lia,fun c hc=>by have:=JW h c hc;unfold wch;lia⟩;simp only[UT,Wo,qf,yk,or_false] at hw;rcases hw with rfl | rfl | rfl | rfl | rfl | rfl
 ·exact⟨∅,by unfold wch;ac_rfl⟩
 ·exact num o.sm
 ·exact⟨qr (Nh o.t2) (by show 2*47<=200;decide),fD o.t2⟩
 ·exact⟨∅,by unfold wch;ac_rfl⟩
 ·exact num (sm1 nofun nofun)
 ·refine⟨by have:=Nh o.t3;show _+1<=_;simp only[qh,ji8] at this;lia,fun c hc=>?_⟩;rcases qf.mp hc with e | e
  ·unfold wch;lia
  ·exact fD o.t3 c e
noncomputable def Zu(g:Bg):Wd:=jn (UT g)
theorem SmC.tx(o:SmC g):spl 32 (Zu g)=UT g/\(Zu g).length<=2000/\TOk (sW (Zu g)):=by
 have h:=o.ch;have l:(Zu g).length<=2000:=by
  have e:Zu g=sg "sun"++32::(nW g.s++32::(Fe 44 ([g.f,g.h].map nW)++32::(sg "leap"++32::(nW 2++32::tmW g.a g.b)))):=rfl;have h1:=(h (nW g.s) (by simp[UT,Wo])).1;have h2:=(h (Fe 44 ([g.f,g.h].map nW)) (by simp[UT,Wo])).1;have h3:=(h (nW 2) (by simp[UT,Wo])).1;have h4:=(h (tmW g.a g.b) (by simp[UT,Wo])).1;have h5:(sg "sun").length=3:=∅;have h6:(sg "leap").length=4:=∅;rw[e];simp only[qc,qh];lia
 refine⟨Rc (by simp[UT]) fun w hw z=>by have:=(h w hw).2 32 z;unfold wch at this;lia,l,Fb.mpr fun c hc=>?_,by rw[Ci];lia⟩;rw[Ba] at hc;by_cases e:c=32
 ·lia
 ·obtain⟨w,hw,m⟩:=Xy e hc;have:=(h w hw).2 c m;unfold wch at this;lia
def mY:Sp:=fun vs H Q _=>∃i:Int,An3 (vs=[.str (sW (nW i))]) (Sm i) (∀H',Aw H H'->Q (.int i) H')
def iB:Sp:=fun vs H Q _=>∃ns:List Int,An5 (vs=[.str (sW (Fe 44 (ns.map nW)))]) (ns≠[]) (ns.length<=3) (∀n∈ns,Sm n) (∀(l:Addr) H',H l=none->Aw H H'->H' l=some (.lst (ns.map V.int))->Q (.ref l) H')
def mW:Sp:=fun vs H Q _=>Ex2 fun(a b:Int)=>An3 (vs=[.str (sW (tmW a b))]) (∀n∈[a,b,2],Sm n) (∀(p:Addr) H',Aw H H'->H' p=some (.tup (tmV (1,a,b,2)))->Q (.ref p) H')
def gw:Sp:=fun vs H Q _=>Ex3 fun(l:Addr) (a b:Int)=>An4 (vs=[.ref l]) (H l=some (.lst (wvS [tmW a b]))) (∀n∈[a,b,2],Sm n) (∀(l' p:Addr) H',Aw H H'->H' l'=some (.lst [.ref p])->H' p=some (.tup (tmV (1,a,b,2)))->Q (.ref l') H')
def mX(K:Fr)(CS CM:Addr):Sp:=fun vs H Q _=>Ex2 fun(l:Addr) (g:Bg)=>An4 (vs=[.ref l]) (H l=some (.lst (wvS (Wo g)))) (SmC g) (∀(x:Addr) H',Aw H H'->Q5 K CS CM H' x g->Q (.ref x) H')
def mZ(K:Fr)(CS CM:Addr):Sp:=fun vs H Q _=>∃g:Bg,An3 (vs=[.str (sW (Zu g))]) (SmC g) (∀(x:Addr) H',Aw H H'->Q5 K CS CM H' x g->Q (.ref x) H')
def Kd(H H':Hp):Prop:=∀y o,(∀kv,o≠.dK kv)->H y=some o->H' y=some o
section
variable{K:Fr}{CS CM CR C x:Addr}{CL:List Addr}{H H' H2:Hp}
theorem Kd.of(s:Aw H H'):Kd H H':=fun y o _ h=>s y o h
theorem Kd.trans(a:Kd H H')(b:Kd H' H2):Kd H H2:=fun y o n h=>b y o n (a y o n h)
theorem Kd.put{kv kv':List (Key×V)}(h:H a=some (.dK kv)):Kd H (upd H a (.dK kv')):=fun y o n e=>by
 rw[Ax fun z=>by rw[z,h] at e;exact n kv (ua e).symm];exact e
theorem Kd.ins(k:Kd H H'){d:Addr}{fs:List (Str×V)}(h:H x=some (.ins C d fs)):H' x=some (.ins C d fs):=k _ _ (fun _ z=>nomatch z) h
theorem Kd.tup(k:Kd H H'){xs:List V}(h:H x=some (.tup xs)):H' x=some (.tup xs):=k _ _ (fun _ z=>nomatch z) h
theorem Kd.lst(k:Kd H H'){xs:List V}(h:H x=some (.lst xs)):H' x=some (.lst xs):=k _ _ (fun _ z=>nomatch z) h
theorem SqT.kd(k:Kd H H'){xs:List V}(h:SqT K H x xs):SqT K H' x xs:=by
 rcases h with (h | ⟨o,h⟩) | h
 ·exact .inl (.inl (k.tup h))
 ·exact .inl (.inr ⟨o,k _ _ (fun _ z=>nomatch z) h⟩)
 ·exact .inr h
theorem Tms.kd(k:Kd H H'):∀{vs:List V} {ts:List Tm},Tms H vs ts->Tms H' vs ts
 | _,_,.nil=>.nil
 | _,_,.cons h t=>.cons (k.tup h) (Tms.kd k t)
theorem Me.kd(k:Kd H H'){b:Int}{ts:List Tm}(M:Me K CM H x b ts):Me K CM H' x b ts:=by
 obtain⟨⟨dy,q,h3,⟨⟨vs,h4,h5⟩,h6,h7⟩⟩,h8,h9⟩:=M;exact⟨⟨dy,q,k.ins h3,⟨⟨vs,SqT.kd k h4,h5.kd k⟩,h6,h7⟩⟩,h8,h9⟩
theorem Q5.kd(k:Kd H H'){g:Bg}(S:Q5 K CS CM H x g):Q5 K CS CM H' x g:=by
 obtain⟨⟨dx,p,y,h1,h2,h3⟩,h10,h11⟩:=S;exact⟨⟨dx,p,y,k.ins h1,SqT.kd k h2,Me.kd k h3⟩,h10,h11⟩
theorem TrH.kd(k:Kd H H'){g:Bg}{p:PT}(T:TrH K CR CL g H x p):TrH K CR CL g H' x p:=T.on k.ins k.tup
end
structure Cs where
 (D S M R:Addr) (L:List Addr)
def wY(K:Fr)(cs:Cs)(g:Bg)(H:Hp)(a:Addr):Bool->Prop
 | false=>H a=some (.dK [])
 | true=>Dc K cs.S cs.M g H a
structure Dk(K:Fr)(cs:Cs)(g:Bg)(H:Hp)(x:Addr)(c:Bool)(j:Nat)(m:Wd->Option PT):Prop where
 ex:∃dx a r kv,H x=some (.ins cs.D dx [("calendars",.ref a),("rules",.ref r)])/\wY K cs g H a c/\H r=some (.dK kv)/\kv.length<=j/\r≠a/\∀nm p,m nm=some p->∃y,Fl kv (.inr (sW nm))=some (.ref y)/\TrH K cs.R cs.L g H y p
noncomputable def setM(m:Wd->Option PT)(nm:Wd)(v:PT):Wd->Option PT:=fun k=>if k=nm then some v else m k
section
variable{K:Fr}{cs:Cs}{g:Bg}{H H':Hp}{x:Addr}{c:Bool}{j:Nat}{m:Wd->Option PT}
theorem wY.same(C:wY K cs g H a c)(s:Aw H H'):wY K cs g H' a c:=by
 cases c with
 | false=>exact s _ _ C
 | true=>exact Dc.same C s
theorem Dk.same(d:Dk K cs g H x c j m)(s:Aw H H'):Dk K cs g H' x c j m:=by
 obtain⟨dx,a,r,kv,h1,h2,h3,h4,h5,h6⟩:=d.ex;exact⟨dx,a,r,kv,s _ _ h1,h2.same s,s _ _ h3,h4,h5,fun nm p e=>by
  obtain⟨y,g1,g2⟩:=h6 nm p e;exact⟨y,g1,g2.same s⟩⟩
end
inductive Wk where
 | nm (w:Wd) | tx (w:Wd) | ru (w:Wd) | nu (i:Int)
noncomputable def Wk.k:Wk->Str | .nm _=>"NAME" | .tx _=>"TEXT" | .ru _=>"RULE" | .nu _=>"NUMBER"
noncomputable def Wk.w:Wk->Wd | .nm w=>w | .tx w=>w | .ru w=>w | .nu i=>nW i
def Wk.ok:Wk->Prop
 | .nm w=>HN w
 | .tx w=>w.length<=4000/\∀c∈w,c<128
 | .ru w=>HN w
 | .nu i=>Sm i
inductive Ask where
 | on (d:Int) | next (d:Int) | last (d:Int) | nth (d k:Int) | count (d e:Int)
inductive Row where
 | cal (g:Bg) | rule (nm:Wd) (p:PT) | ask (nm:Wd) (a:Ask) | size (nm:Wd) | same (a b:Wd) (d:Int) | shorter (nm:Wd) | show(nm:Wd)
noncomputable def Row.ws:Row->List Wk
 | .cal g=>[.nm (sg "sun"),.tx (Zu g)]
 | .rule nm p=>[.nm nm,.tx p.tx]
 | .ask nm (.on d)=>[.ru nm,.nu d]
 | .ask nm (.next d)=>[.ru nm,.nu d]
 | .ask nm (.last d)=>[.ru nm,.nu d]
 | .ask nm (.nth d k)=>[.ru nm,.nu d,.nu k]
 | .ask nm (.count d e)=>[.ru nm,.nu d,.nu e]
 | .size nm=>[.ru nm]
 | .same a b d=>[.ru a,.ru b,.nu d]
 | .shorter nm=>[.ru nm]
 | .show nm=>[.ru nm]
noncomputable def Row.hd:Row->Str | .cal .. =>"calendar" | .rule .. =>"rule" | .ask _ (.on _)=>"on" | .ask _ (.next _)=>"next" | .ask _ (.last _)=>"last" | .ask _ (.nth ..)=>"nth" | .ask _ (.count ..)=>"count" | .size .. =>"size" | .same .. =>"same" | .shorter _=>"shorter" | .show _=>"show"
noncomputable def Row.fi:Row->Nat | .cal .. =>0 | .rule .. =>2 | .ask _ (.on _)=>6 | .ask _ (.next _)=>7 | .ask _ (.last _)=>8 | .ask _ (.nth ..)=>9 | .ask _ (.count ..)=>10 | .size .. =>11 | .same .. =>12 | .shorter _=>15 | .show _=>16
def Row.ok(R:Row):Prop:=∀w∈R.ws,w.ok
noncomputable def Row.T(R:Row):Wd:=jn (cpl R.hd::R.ws.map Wk.w)
noncomputable def wkV(ws:List Wk):List V:=ws.map fun w=>.str (sW w.w)
noncomputable def cN(t:Nat->Addr):List (Key×V):=[(.inr "calendar",.ref (t 0)),(.inr "change",.ref (t 1)),(.inr "rule",.ref (t 2)),(.inr "date",.ref (t 3)),(.inr "day",.ref (t 4)),(.inr "move",.ref (t 5)),(.inr "on",.ref (t 6)),(.inr "next",.ref (t 7)),(.inr "last",.ref (t 8)),(.inr "nth",.ref (t 9)),(.inr "count",.ref (t 10)),(.inr "size",.ref (t 11)),(.inr "same",.ref (t 12)),(.inr "meet",.ref (t 13)),(.inr "within",.ref (t 14)),(.inr "shorter",.ref (t 15)),(.inr "show",.ref (t 16)),(.inr "almanac",.ref (t 17))]
structure rN(P:Program)(w:World)(K:Fr)(mg:Str->Option Value)(a:Addr)(t:Nat->Addr):Prop where
 m:mg "FORMS"=some (.ref a)
 d:KD P w K a (cN t)
 s:∀(R:Row) (H:Hp),SqT K H (t R.fi) (R.ws.map fun w=>V.str w.k)
theorem Tg(t:Nat->Addr)(R:Row):Fl (cN t) (.inr R.hd)=some (.ref (t R.fi)):=by
 rcases R with _ | _ | ⟨_,_ | _ | _ | _ | _⟩<;>rfl
noncomputable def ADq(t:Nat->Addr):List (Key×V):=[(.inr "date",.ref (t 0)),(.inr "day",.ref (t 1)),(.inr "move",.ref (t 2)),(.inr "on",.ref (t 3)),(.inr "next",.ref (t 4)),(.inr "last",.ref (t 5)),(.inr "nth",.ref (t 6)),(.inr "count",.ref (t 7)),(.inr "size",.ref (t 8)),(.inr "same",.ref (t 9)),(.inr "meet",.ref (t 10)),(.inr "within",.ref (t 11)),(.inr "shorter",.ref (t 12)),(.inr "show",.ref (t 13)),(.inr "almanac",.ref (t 14))]
structure AEI(P:Program)(w:World)(K:Fr)(mg:Str->Option Value)(a:Addr)(t:Nat->Addr):Prop where
 m:mg "ANSWERS"=some (.ref a)
 d:KD P w K a (ADq t)
 g3:mg "tell_on"=some (.ref (t 3))
 g4:mg "tell_next"=some (.ref (t 4))
 g5:mg "tell_last"=some (.ref (t 5))
 g6:mg "tell_nth"=some (.ref (t 6))
 g7:mg "tell_count"=some (.ref (t 7))
 g8:mg "tell_size"=some (.ref (t 8))
 g9:mg "tell_same"=some (.ref (t 9))
 g12:mg "tell_shorter"=some (.ref (t 12))
 g13:mg "tell_show"=some (.ref (t 13))
theorem HN.wc{w:Wd}(h:HN w):w≠[]/\∀c∈w,wch c:=⟨fun z=>by have:=h.lo;rw[z] at this;exact absurd this nofun,fun c hc=>by have:=h.ch c hc;unfold wch;lia⟩
theorem Wk.box{k:Wk}(h:k.ok):(∀a∈k.w,a<128)/\k.w.length<=4000/\((∀d,k≠.tx d)->32∉k.w):=by
 have fin:(∀a∈k.w,wch a)->k.w.length<=4000->(∀a∈k.w,a<128)/\k.w.length<=4000/\((∀d,k≠.tx d)->32∉k.w):=fun c l=>⟨fun a ha=>by have:=c a ha;unfold wch at this;lia,l,fun _ z=>by have:=c 32 z;unfold wch at this;lia⟩;cases k with
 | nm n=>exact fin (HN.wc h).2 (by have:=HN.hi h;show n.length<=_;lia)
 | ru n=>exact fin (HN.wc h).2 (by have:=HN.hi h;show n.length<=_;lia)
 | nu i=>exact fin (fun a ha=>by have:=JW h a ha;unfold wch;lia) (qr (Dl h) nofun)
 | tx d=>exact⟨h.2,h.1,fun z=>absurd rfl (z d)⟩
theorem X3(R:Row):(∀a∈cpl R.hd,a<128/\a≠32)/\(cpl R.hd).length<=10:=by
 have all:∀z∈(["calendar","rule","on","next","last","nth","count","size","same","shorter","show"]:List Str),(∀a∈cpl z,a<128/\a≠32)/\(cpl z).length<=10:=∅;rcases R with _ | _ | ⟨_,_ | _ | _ | _ | _⟩<;>exact all _ (by walk_at"mm")
theorem qF(k:Nat):∀(ws:List Wd),(∀w∈ws,w.length<=k)->(jn ws).length<=ws.length*(k+1)
 | [],_=>vt _
 | [w],h=>by have:=h w qm;show w.length<=1*(k+1);lia
 | w::y::r,h=>by
  have:=qF k (y::r) fun x hx=>h x (qv _ hx);have:=h w qm;rw[JZ (by simp),qc,qh,qh (as:=y::r),jw1];lia
theorem Row.tok{R:Row}(h:R.ok):TOk (sW R.T):=by
 have hb:=X3 R;have l:R.T.length<=4*4001:=by
  have:=qF 4000 (cpl R.hd::R.ws.map Wk.w) fun w hw=>by
   rcases qf.mp hw with e | e
   ·rw[e];lia
   ·obtain⟨k,hk,rfl⟩:=yy.mp e;exact(Wk.box (h k hk)).2.1
  have e:(cpl R.hd::R.ws.map Wk.w).length<=4:=by rcases R with _ | _ | ⟨_,_ | _ | _ | _ | _⟩<;>simp[Row.ws]
  exact qr this (jj6 _ e)
 refine⟨Fb.mpr fun c hc=>?_,by rw[Ci];lia⟩;rw[Ba] at hc;by_cases e:c=32
 ·lia
 ·obtain⟨w,hw,m⟩:=Xy e hc;rcases qf.mp hw with e | e
  ·rw[e] at m;exact(hb.1 c m).1
  ·obtain⟨k,hk,rfl⟩:=yy.mp e;exact(Wk.box (h k hk)).1 c m
theorem Row.few(R:Row):1<=R.ws.length/\R.ws.length<=3:=by rcases R with _ | _ | ⟨_,_ | _ | _ | _ | _⟩<;>exact⟨by simp[Row.ws],by simp[Row.ws]⟩
theorem Row.head(R:Row):∃r,spl 32 R.T=cpl R.hd::r:=by
 have e:R.T=cpl R.hd++32::jn (R.ws.map Wk.w):=JZ (by have:=R.few.1;intro z;rw[jp4.mp z] at this;exact absurd this nofun);exact⟨_,by rw[e,Q8 32 _ _ fun z=>((X3 R).1 32 z).2 rfl]⟩
theorem Row.kind{R:Row}(h:R.ok):(∃nm w,HN nm/\R.ws=[.nm nm,.tx w])\/(spl 32 R.T=cpl R.hd::R.ws.map Wk.w/\∃z:Str,z≠"TEXT"/\atI (R.ws.map fun w=>V.str w.k) (-1)=some (V.str z)):=by
 have plain:(∀k∈R.ws,∀d,k≠.tx d)->spl 32 R.T=cpl R.hd::R.ws.map Wk.w:=fun np=>Rc (by simp) fun w hw=>by
  rcases qf.mp hw with e | e
  ·rw[e];exact fun z=>((X3 R).1 32 z).2 rfl
  ·obtain⟨k,hk,rfl⟩:=yy.mp e;exact(Wk.box (h k hk)).2.2 (np k hk)
 rcases R with _ | _ | ⟨_,_ | _ | _ | _ | _⟩ | _ | _ | _ | _
 ·exact .inl ⟨_,_,h _ qm,rfl⟩
 ·exact .inl ⟨_,_,h _ qm,rfl⟩
 all_goals first
  | exact .inr ⟨plain fun k hk d z=>by subst z;simp[Row.ws] at hk,"NUMBER",∅,rfl⟩
  | exact .inr ⟨plain fun k hk d z=>by subst z;simp[Row.ws] at hk,"RULE",∅,rfl⟩
def yf:Sp:=fun vs H Q _=>∃R:Row,An3 (vs=[.str (sW R.T)]) R.ok (∀l H',H l=none->Aw H H'->H' l=some (.lst (.str R.hd::wkV R.ws))->Q (.ref l) H')
def zB:Sp:=fun vs H Q _=>Ex4 fun(a:Addr) (kv:List (Key×V)) (nm:Wd) (v:V)=>An4 (vs=[.ref a,.str (sW nm)]) (H a=some (.dK kv)) (Fl kv (.inr (sW nm))=some v) (Q v H)
def Wk.val(kv:List (Key×V)):Wk->V->Prop
 | .nm n,v=>v=.str (sW n)
 | .tx w,v=>v=.str (sW w)
 | .ru n,v=>Fl kv (.inr (sW n))=some v
 | .nu i,v=>v=.int i
def DkH(CD:Addr)(H:Hp)(x:Addr)(kv:List (Key×V)):Prop:=∃dx a r,H x=some (.ins CD dx [("calendars",.ref a),("rules",.ref r)])/\H r=some (.dK kv)
theorem DkH.same{CD:Addr}{kv:List (Key×V)}(d:DkH CD H x kv)(s:Aw H H'):DkH CD H' x kv:=by
 obtain⟨dx,a,r,h1,h2⟩:=d;exact⟨dx,a,r,s _ _ h1,s _ _ h2⟩
def yw(CD:Addr):Sp:=fun vs H Q _=>Ex3 fun(x:Addr) (kv:List (Key×V)) (k:Wk)=>An5 (vs=[.ref x,.str k.k,.str (sW k.w)]) k.ok (DkH CD H x kv) (∀n,k=.ru n->∃v,Fl kv (.inr (sW n))=some v) (∀v H',Aw H H'->k.val kv v->Q v H')
def tR(CD:Addr):Sp:=fun vs H Q _=>Ex2 fun(x l:Addr)=>An3 (vs=[.ref x,.ref l]) (H l=some (.lst [])) (∀l' H',H l'=none->Aw H H'->H' l'=some (.lst [])->Q (.ref l') H')
theorem AAT(h:Bt 300 i):i.natAbs.log2<1920:=by
 by_cases e:i.natAbs=0
 ·rw[e];decide
 ·exact xi ((jw7 e).mpr h) nofun
def Nth(n:Int)(b:Nat)(d k r:Int):Prop:=On n b r=true/\(0<k->d<=r/\CC n b r-CC n b d=k-1)/\(k<0->r<=d/\CC n b (d+1)-CC n b r= -k)
theorem ABY{n n':Int}{b':Nat}(n0:0<n)(m0:0<n')(h:∀d,On n b d=On n' b' d)(d:Int):CC n b d=CC n' b' d:=by
 have up:∀k:Nat,CC n b (k:Int)=CC n' b' (k:Int)/\CC n b (-(k:Int))=CC n' b' (-(k:Int)):=fun k=>by
  induction k with
  | zero=>exact⟨by rw[show ((0:Nat):Int)=0 from rfl,OD,OD],by rw[show -((0:Nat):Int)=0 from rfl,OD,OD]⟩
  | succ k i=>
   have a:=Ii (b:=b) n0 (-((k+1:Nat):Int));have a':=Ii (b:=b') m0 (-((k+1:Nat):Int));rw[show -((k+1:Nat):Int)+1= -(k:Int) by lia] at a a';rw[h] at a;refine⟨?_,⋯⟩;rw[show ((k+1:Nat):Int)=(k:Int)+1 by lia,Ii n0,Ii m0,h,i.1]
 rcases Int.le_total 0 d with c | c
 ·have:=(up d.toNat).1
  rwa [ku c] at this
 ·have:=(up (-d).toNat).2
  rwa [ku ⋯,Int.neg_neg] at this
theorem Nth.uniq{n:Int}{d k r r':Int}(n0:0<n)(k0:k≠0)(h:Nth n b d k r)(h':Nth n b d k r'):r=r':=by
 have e:CC n b r=CC n b r':=by
  rcases Int.lt_or_lt_of_ne k0 with c | c
  ·have:=(h.2.2 c).2;have:=(h'.2.2 c).2;lia
  ·have:=(h.2.1 c).2;have:=(h'.2.1 c).2;lia
 have one:∀{r r':Int},On n b r=true->CC n b r=CC n b r'->¬r<r':=fun{r r'} o e z=>by
  have a:=Ii (b:=b) n0 r;rw[o,xz rfl] at a;have:=RT (b:=b) n0 (show r+1<=r' by lia);lia
 have:=one h.1 e;have:=one h'.1 e.symm;lia
noncomputable def yn(b:Bool):Str:=if b then "yes" else "no"
noncomputable def dyT(R:Int->Prop)(O:Int->Bool):Wd:=@ite _ (∃e,O e=true) (Classical.propDecidable _) (nW (Classical.epsilon R)) (sg "never")
noncomputable def kW:Ask->Int->Nat->Wd
 | .on d,n,b=>cpl (yn (On n b d))
 | .next d,n,b=>dyT (kh (On n b) d) (On n b)
 | .last d,n,b=>dyT (kj (On n b) d) (On n b)
 | .nth d k,n,b=>dyT (Nth n b d k) (On n b)
 | .count d e,n,b=>nW (CC n b e-CC n b d)
theorem rE{n n':Int}{b':Nat}(n0:0<n)(m0:0<n')(h:∀d,On n b d=On n' b' d)(a:Ask):kW a n b=kW a n' b':=by
 have e:On n b=On n' b':=funext h;have c:=ABY n0 m0 h;cases a with
 | nth d k=>
  have z:Nth n b d k=Nth n' b' d k:=funext fun r=>by unfold Nth;rw[h,c,c,c]
  show dyT _ _=dyT _ _;rw[e,z]
 | count d k=>
  show nW _=nW _;rw[c,c]
 | _=>simp only[kW,e]
section
variable(K:Fr)(CR:Addr)(CL:List Addr)
def ABn:Sp:=fun vs H Q _=>Ex5 fun(l y:Addr) (n d:Int) (b:Nat)=>An4 (vs=[.ref l]) (H l=some (.lst [.ref y,.int d])) (Gh K CR CL H y n b) (Q (.str (yn (On n b d))) H)
def GDy(R:(Int->Bool)->Int->Int->Prop)(n:Int)(b:Nat)(d:Int)(H:Hp)(Q:VK):Prop:=((∀e,On n b e=false)->∀H',Aw H H'->Q (.str "never") H')/\∀r H',Aw H H'->R (On n b) d r->Q (.str (sW (nW r))) H'
def tQ:Sp:=fun vs H Q _=>∃r:Option Int,An3 (vs=[oI r]) (okO r) (Q (.str (match r with | none=>"never" | some i=>sW (nW i))) H)
def mU(R:(Int->Bool)->Int->Int->Prop):Sp:=fun vs H Q _=>Ex5 fun(l y:Addr) (n d:Int) (b:Nat)=>An5 (vs=[.ref l]) (H l=some (.lst [.ref y,.int d])) (Gh K CR CL H y n b) (Sm d) (GDy R n b d H Q)
def yd:Sp:=fun vs H Q _=>Ex6 fun(l y:Addr) (n d e:Int) (b:Nat)=>An6 (vs=[.ref l]) (H l=some (.lst [.ref y,.int d,.int e])) (Gh K CR CL H y n b) (Sm d) (Sm e) (∀H',Aw H H'->Q (.str (sW (nW (CC n b e-CC n b d)))) H')
def yo:Sp:=fun vs H Q _=>Ex5 fun(a:Addr) (n d k:Int) (b:Nat)=>ABb (vs=[.ref a,.int d,.int k]) (SqT K H a [.int n,.int (b:Int)]) (0<n) (n<=150000) (b<2^n.toNat) (Bt 200 d) (Bt 200 k) (k≠0) (b=0->∀H',Aw H H'->Q .non H') (b≠0->∀r H',Aw H H'->Bt 240 r->Nth n b d k r->Q (.int r) H')
def yc:Sp:=fun vs H Q _=>Ex6 fun(l y:Addr) (n d k:Int) (b:Nat)=>An7 (vs=[.ref l]) (H l=some (.lst [.ref y,.int d,.int k])) (Gh K CR CL H y n b) (Sm d) (Sm k) (k≠0) (GDy (fun _ d=>Nth n b d k) n b d H Q)
def tE:Sp:=fun vs H Q _=>Ex4 fun(l y:Addr) (n b:Nat)=>An4 (vs=[.ref l]) (H l=some (.lst [.ref y])) (Gh K CR CL H y (n:Int) b) (∀z c H',Aw H H'->Lst n b z c->Q (.str (sW (nW (z:Int)))) H')
def tH:Sp:=fun vs H Q _=>ABV fun(l y y':Addr) (n b m c z x:Nat) (d:Int)=>An9 (vs=[.ref l]) (H l=some (.lst [.ref y,.ref y',.int d])) (Gh K CR CL H y (n:Int) b) (Gh K CR CL H y' (m:Int) c) (n<=70000) (m<=70000) (Lst n b z x) (Lst m c z x) (∀H',Aw H H'->Q (.str (sW (sg "same "++nW (z:Int)))) H')
noncomputable def tb(z c:Nat):Option PT:=if z=1/\c=1 then some (.lf true) else if z=1/\c=0 then some (.lf false) else match dl c z with | [d]=>some (.each z d) | _=>none
def LsP(g:Bg)(z c:Nat)(p:PT):Prop:=Lst (p.sz g).toNat (p.bt g) z c
noncomputable def lsF(g:Bg)(z c:Nat)(ps:List PT):List PT:=ps.filter fun r=>@decide (LsP g z c r) (Classical.propDecidable _)
def Shr(g:Bg)(p q:PT):Prop:=∃z c,LsP g z c p/\(tb z c=some q\/tb z c=none/\∃i:Nat,(lsF g z c p.parts)[i]?=some q/\∀(j:Nat) (r:PT),(lsF g z c p.parts)[j]?=some r->q.parts.length<=r.parts.length/\(j<i->q.parts.length<r.parts.length))
def mO:Sp:=fun vs H Q _=>Ex4 fun(p:Addr) (z c:Nat) (g:Bg)=>An8 (vs=[.ref p]) (H p=some (.tup [.int (z:Int),.int (c:Int)])) (0<z) (z<=1000) (c<2^z) (c=0->z=1) (∀q,tb z c=some q->∀x H',Aw H H'->TrH K CR CL g H' x q->Q (.ref x) H') (tb z c=none->∀H',Aw H H'->Q .non H')
def iC:Sp:=fun vs H Q _=>Ex3 fun(x:Addr) (p:PT) (g:Bg)=>An4 (vs=[.ref x]) (TrH K CR CL g H x p) (p.parts.length<=41) (∀H',Aw H H'->Q (.int (p.parts.length:Int)) H')
def gj:Sp:=fun vs H Q _=>Ex3 fun(x:Addr) (p:PT) (g:Bg)=>An5 (vs=[.ref x]) (TrH K CR CL g H x p) (p.parts.length<=41) (p.sz g<=1000) (∀q y H',Aw H H'->Shr g p q->TrH K CR CL g H' y q->Q (.ref y) H')
def tG:Sp:=fun vs H Q _=>Ex4 fun(l x:Addr) (p:PT) (g:Bg)=>An6 (vs=[.ref l]) (H l=some (.lst [.ref x])) (TrH K CR CL g H x p) p.ok (p.lv+p.br<=40) (∀H',Aw H H'->Q (.str (sW p.tx)) H')
structure ShO(g:Bg)(p q:PT):Prop where
 ok:q.ok
 s:Shr g p q
 r:q.r0 g (q.bt g)
 n0:0<q.sz g
def mR:Sp:=fun vs H Q _=>Ex4 fun(l x:Addr) (p:PT) (g:Bg)=>An7 (vs=[.ref l]) (H l=some (.lst [.ref x])) (TrH K CR CL g H x p) p.ok (p.lv+p.br<=40) (p.sz g<=420) (∀q H',Aw H H'->ShO g p q->Q (.str (sW q.tx)) H')
end
theorem Gh.rnd{CR:Addr}{CL:List Addr}{n:Nat}(R:Gh K CR CL H x (n:Int) b):0<n/\n<=150000/\b<2^n:=⟨by have:=R.n0;lia,by have:=R.n1;lia,by have:=R.lt;rwa [zh] at this⟩
section
variable(K:Fr)(cs:Cs)(g:Bg)
def zK:Sp:=fun vs H Q _=>Ex4 fun(H0:Hp) (x dx:Addr) (g:Bg)=>An6 (vs=[.ref x]) (H0 x=none) (H0 dx=none) (dx≠x) (H=upd (upd H0 dx (.own x)) x (.ins cs.D dx [])) (∀H',Aw H0 H'->Dk K cs g H' x false 0 (fun _=>none)->Q .non H')
structure PT.fine(p:PT):Prop where
 ok:p.ok
 kn:p.kn
 mn:p.lv+p.br<=40
 sz:p.sz g<=150000
def ACw(H:Hp)(x:Addr)(j:Nat)(m:Wd->Option PT)(Q:VK):Prop:=∀H',Kd H H'->Dk K cs g H' x true j m->Q (.str "ok") H'
def yC(H:Hp)(x:Addr)(j:Nat)(m:Wd->Option PT)(Q:VK)(nm:Wd)(p:PT):Prop:=∀H',Kd H H'->Dk K cs g H' x true (j+1) (setM m nm p.nrm)->Q (.str "ok") H'
def zE:Sp:=fun vs H Q _=>Ex6 fun(x l:Addr) (g:Bg) (c:Bool) (j:Nat) (m:Wd->Option PT)=>An4 (Dk K cs g H x c j m) (j<=50) (SmC g) (( An4 (vs=[.ref x,.str "calendar",.ref l]) (H l=some (.lst [.str (sW (sg "sun")),.str (sW (Zu g))])) (c=false) (ACw K cs g H x j m Q))\/Ex2 fun(nm:Wd) (p:PT)=>An5 (vs=[.ref x,.str "rule",.ref l]) (H l=some (.lst [.str (sW nm),.str (sW p.tx)])) (c=true) (p.fine g) (yC K cs g H x j m Q nm p))
def ACv(H:Hp)(x:Addr)(c:Bool)(j:Nat)(m:Wd->Option PT)(Q:VK):Row->Prop
 | .cal g'=>g'=g/\c=false/\ACw K cs g H x j m Q
 | .rule nm p=>c=true/\p.fine g/\yC K cs g H x j m Q nm p
 | .ask nm a=>(∀d k,a=.nth d k->k≠0)/\∃p,m nm=some p/\∀H',Aw H H'->Q (.str (sW (kW a (p.sz g) (p.bt g)))) H'
 | .size nm=>∃p,m nm=some p/\∀z c H',Aw H H'->LsP g z c p->Q (.str (sW (nW (z:Int)))) H'
 | .same a b _=>∃p q z x,m a=some p/\m b=some q/\p.sz g<=70000/\q.sz g<=70000/\LsP g z x p/\LsP g z x q/\∀H',Aw H H'->Q (.str (sW (sg "same "++nW (z:Int)))) H'
 | .shorter nm=>∃p,m nm=some p/\p.ok/\p.lv+p.br<=40/\p.sz g<=420/\∀q H',Aw H H'->ShO g p q->Q (.str (sW q.tx)) H'
 | .show nm=>∃p,m nm=some p/\p.ok/\p.lv+p.br<=40/\∀H',Aw H H'->Q (.str (sW p.tx)) H'
def xK:Sp:=fun vs H Q _=>Ex6 fun(x:Addr) (g:Bg) (c:Bool) (j:Nat) (m:Wd->Option PT) (R:Row)=>An6 (vs=[.ref x,.str (sW R.T)]) R.ok (Dk K cs g H x c j m) (j<=50) (SmC g) (ACv K cs g H x c j m Q R)
end
theorem GDy.mk{R:(Int->Bool)->Int->Int->Prop}{n d:Int}(ho:∀r,R (On n b) d r->On n b r=true)(hu:∀r r',R (On n b) d r->R (On n b) d r'->r=r')(q:∀H',Aw H H'->Q (.str (sW (dyT (R (On n b) d) (On n b)))) H'):GDy R n b d H Q:=by
 refine⟨fun h H' s=>?_,fun r H' s hr=>?_⟩
 ·have e:dyT (R (On n b) d) (On n b)=sg "never":=yb fun⟨e,z⟩=>by rw[h e] at z;cases z
  have:=q H' s
  rwa [e,show sW (sg "never")="never" from Gb _] at this
 ·have e:dyT (R (On n b) d) (On n b)=nW r:=(xz ⟨r,ho r hr⟩).trans (xy nW (hu _ _ (jm4 (p:=R (On n b) d) ⟨r,hr⟩) hr));have:=q H' s
  rwa [e] at this
theorem fO{n:Nat}(h:n<=1000000):((n:Int)).natAbs.log2<1920:=K7 ⋯ ⋯
theorem pJ{O:Int->Bool}{d r r':Int}(h:kh O d r)(h':kh O d r'):r=r':=by
 have a:¬r<r':=fun z=>by have:=h'.2.2 r h.1 z;rw[h.2.1] at this;cases this
 have b:¬r'<r:=fun z=>by have:=h.2.2 r' h'.1 z;rw[h'.2.1] at this;cases this
 lia
theorem pQ{O:Int->Bool}{d r r':Int}(h:kj O d r)(h':kj O d r'):r=r':=by
 have a:¬r<r':=fun z=>by have:=h.2.2 r' z h'.1;rw[h'.2.1] at this;cases this
 have b:¬r'<r:=fun z=>by have:=h'.2.2 r z h.1;rw[h.2.1] at this;cases this
 lia
theorem PT.part_len{p:PT}(h:q∈p.parts){n:Nat}(l:p.parts.length<=n):q.parts.length<=n:=PT.part_of (P:=fun r=>r.parts.length<=n) (fun _ o _ k=>qr (jv7 (kid_deep k).2) o) l q h
theorem PT.part_ok{p:PT}(h:q∈p.parts)(o:p.ok):q.ok:=PT.part_of (P:=PT.ok) (fun p o q k=>by
 cases p<;>simp only[kids,qf,yk,or_false] at k
 case no=>exact k ▸ o
 case la=>exact k ▸ o.2
 case ev=>exact k ▸ o.2.2.1
 case nt=>rcases k with rfl | rfl;exact o.2.1;exact o.2.2.1
 case pr=>rcases k with rfl | rfl;exact o.1;exact o.2) o q h
theorem Lst.sz1{n z:Nat}(L:Lst n b z c)(h:0<n):z<=n:=kx h L.dv
theorem Shr.ok{p:PT}(S:Shr g p q)(n0:0<p.sz g)(n1:p.sz g<=420)(ok:p.ok):q.ok/\q.lv+q.br<=p.lv+p.br:=by
 have pn:=PT.parts_n p;have qn:=PT.parts_n q;have:=PT.lv_br p;obtain⟨z,c,L,S⟩:=S;have z0:=L.z0;have z1:=Lst.sz1 L ⋯;rcases S with e | ⟨_,i,hq,_⟩
 ·unfold tb at e;split at e
  ·cases e;exact⟨trivial,by show 1+0<=_;lia⟩
  ·split at e
   ·cases e;exact⟨trivial,by show 1+0<=_;lia⟩
   ·split at e
    ·rename_i d hd
     cases e;have dz:d<z:=(mem_dl.mp (by rw[hd];simp)).1;exact⟨⟨Fd ⋯ ⋯,Fd ⋯ ⋯,⋯,⋯⟩,by show 1+0<=_;lia⟩
    ·cases e
 ·have m:q∈p.parts:=(jc3.mp (xb hq)).1;have:=PT.part_len m (qg _);exact⟨PT.part_ok m ok,⋯⟩
theorem Vx{d:Int}(h:Sm d):Bt 200 d:=jo0 h nofun
theorem fM{d e:Int}(h:Sm d)(h1:d-1000000<=e)(h2:e<=d+1000000):e.natAbs.log2<1920:=by
 refine K7 ?_ ?_<;>
 ·unfold Sm at h;have:(10:Nat)^45=1000000000000000000000000000000000000000000000:=nofun
  lia
theorem rT{n:Int}{b:Nat}(n0:0<n)(d:Int):∀k:Nat,CC n b (d+(k:Int))-CC n b d<=(k:Int)
 | 0=>by simp
 | k+1=>by
  have a:=rT (b:=b) n0 d k;have s:=Ii (b:=b) n0 (d+(k:Int));rw[show d+((k+1:Nat):Int)=d+(k:Int)+1 by lia,s];split<;>lia
theorem ABZ{n:Int}(n0:0<n)(d e:Int):(CC n b e-CC n b d).natAbs<=(e-d).natAbs:=by
 have go:∀{d e:Int},d<=e->(CC n b e-CC n b d).natAbs<=(e-d).natAbs:=fun{d e} h=>by
  have a:=RT (b:=b) n0 h;have c:=rT (b:=b) n0 d (e-d).toNat;rw[show d+((e-d).toNat:Int)=e by omega] at c;omega
 rcases Int.le_total d e with h | h
 ·exact go h
 ·have:=go h;omega
theorem AAu{n d e:Int}(n0:0<n)(sd:Sm d)(se:Sm e):(CC n b e-CC n b d).natAbs.log2<1920:=by
 have:=ABZ (b:=b) n0 d e;unfold Sm at sd se;have:(10:Nat)^45=1000000000000000000000000000000000000000000000:=nofun;exact K7 (by omega) (by omega)
theorem yI(h:H a=some o):upd H a o=H:=funext fun b=>by
 by_cases e:b=a
 ·rw[e,Am,h]
 ·exact Ax e
def GV(kv:List (Key×V))(n:Nat)(ks:List Wk)(vs:List V):Prop:=vs.length=n/\∀(j:Nat) (k:Wk) (v:V),ks[j]?=some k->vs[j]?=some v->k.val kv v
theorem GV.cons{kv:List (Key×V)}{n:Nat}{k:Wk}{ks:List Wk}(g:GV kv (n+1) (k::ks) vs):∃v ws,vs=v::ws/\k.val kv v/\GV kv n ks ws:=by
 cases vs with
 | nil=>exact absurd g.1 (by simp)
 | cons v ws=>exact⟨v,ws,rfl,g.2 0 k v rfl rfl,by have:=g.1;simpa using this,fun j k' v' e1 e2=>g.2 (j+1) k' v' e1 e2⟩
theorem GV.one{kv:List (Key×V)}{k:Wk}(g:GV kv 1 [k] vs):∃v,vs=[v]/\k.val kv v:=by
 obtain⟨v,ws,rfl,h,g'⟩:=GV.cons g;exact⟨v,by rw[jc2.mp g'.1],h⟩
theorem jt{b:Addr}{ks:List Wk}{kv:List (Key×V)}{Z:L2.St}{te:TE}(ha:∀H,SqT K H a (ks.map fun k=>V.str k.k))(hb:H b=some (.lst (wkV ks)))(hl:ks.length<sizeLine)
 (he:∀k∈ks,∀(H':Hp) (Q':VK),Aw H H'->(∀v H'',Aw H' H''->k.val kv v->Q' v H'')->te (some (.str k.k)::some (.str (sW k.w))::Z) H' Q')
 (h:∀(D:Addr) (H':Hp) (vs:List V),H D=none->Aw H H'->H' D=some (.lst vs)->GV kv ks.length ks vs->Q (.ref D) H'):
 Uy 2 (qQ K 2 (WF (HR 0) (WF (HR 1) vX))) dR te Z Q (aK K a b true false) H:=by
 intro D hD;have lb:(wkV ks).length=ks.length:=jp _;refine⟨fun i m zs H2=>i<=ks.length/\m=ks.length-i/\H2 D=some (.lst zs)/\Aw H H2/\GV kv i ks zs,⟨_,vt _,rfl,Am,Av hD _,rfl,fun j k v _ e=>by simp at e⟩,?_⟩;rintro i m zs H2 ⟨hi,rfl,hz,s2,zl,g⟩;refine⟨hz,?_⟩;have qb:SqL K H2 b (wkV ks):=SqL.of (s2 _ _ hb);by_cases c:i<ks.length
 ·have ex:(ks.map fun k=>V.str k.k)[i]?=some (.str ks[i].k):=by rw[qq,zo c];rfl
  have ey:(wkV ks)[i]?=some (.str (sW ks[i].w)):=by unfold wkV;rw[qq,zo c];rfl
  refine .inr ⟨⟨_,_,_,_,ha H2,qb,ex,ey⟩,⋯,ks.length-(i+1),⋯,?_⟩;rintro v H3 ⟨T,x,y,hT,rfl,rfl,hxy⟩ ρ hρ;obtain⟨gx,gy⟩:=hxy _ _ (ha H2) qb;rw[ex] at gx;rw[ey] at gy;cases gx;cases gy;obtain⟨p,q,rfl⟩:∃p q,ρ=[p,q]:=by
   match ρ,hρ with
   | [p,q],_=>exact⟨p,q,rfl⟩
  refine⟨T,[.str ks[i].k,.str (sW ks[i].w)],rfl,SqT.of Am,rfl,.str ks[i].k,[.str (sW ks[i].w)],rfl,.str (sW ks[i].w),[],rfl,⟨rfl,[some (.str ks[i].k),some (.str (sW ks[i].w))],rfl,rfl,?_⟩⟩;refine RD ?_;rw[xz rfl];have s3:=Av hT (.tup [.str ks[i].k,.str (sW ks[i].w)]);refine he _ (jk2 c) _ _ (s2.trans s3) fun v H4 s4 hv=>?_;refine⟨s4 _ _ (s3 _ _ hz),⋯,rfl,Am,Eo hD ((s2.trans s3).trans s4),by rw[qc];show zs.length+1=i+1;lia,fun j k w ek ew=>?_⟩;by_cases cj:j<zs.length
  ·rw[jj7 cj] at ew;exact g j k w ek ew
  ·rw[jf3 ⋯] at ew;have e0:j-zs.length=0:=by
    by_cases z:j-zs.length=0
    ·exact z
    ·rw[ji7 (by show 1<=_;lia)] at ew;cases ew
   rw[e0] at ew;cases ew;have:j=i:=⋯;rw[this,zo c] at ek;cases ek;exact hv
 ·have e:i=ks.length:=⋯
  subst e;exact .inl ⟨⟨_,_,ha H2,qb,by rw[jp,lb,Nat.min_self]⟩,h D H2 zs hD s2 hz ⟨zl,g⟩⟩
theorem Lst.nil{n z:Nat}(L:Lst n b z 0):z=1:=by
 rcases Nat.lt_or_ge 1 z with h | h
 ·exact absurd ⟨nofun,Nat.one_dvd z,fun i j _ _ _=>by simp⟩ (L.min 1 h)
 ·have:=L.z0;lia
structure Lg(x:Str)(a:Wd)(n:Nat):Prop where
 e:cpl x=a
 l:a.length<=n
theorem Lg.s(z:String)(h:(sg z).length<=30:=by ac_rfl):Lg (Str.ofString z) (sg z) 30:=⟨rfl,h⟩
theorem Lg.n(h:Sm i):Lg (Cr i) (nW i) 46:=⟨rfl,Dl h⟩
theorem Lg.w(a:Wd){n:Nat}(h:a.length<=n):Lg (sW a) a n:=⟨Ba _,h⟩
theorem Lg.eq{x:Str}{a b:Wd}{n:Nat}(h:Lg x a n)(e:a=b):x=sW b:=by rw[<-e,<-h.e,Gb]
theorem Lg.ap{x y:Str}{a b:Wd}{n m:Nat}(X:Lg x a n)(Y:Lg y b m):Lg (x++y) (a++b) (n+m):=⟨by rw[G3,X.e,Y.e],by rw[qc];exact jw4 X.l Y.l⟩
theorem Lg.aps{x:Str}{a:Wd}{n:Nat}(X:Lg x a n)(z:String)(h:(sg z).length<=30:=by ac_rfl):Lg (x++Str.ofString z) (a++sg z) (n+30):=X.ap (.s z h)
theorem Lg.le{x y:Str}{a:Wd}{n:Nat}(X:Lg (x++y) a n)(h:n<=100000:=by decide):x.length+y.length<=sizeLine:=by
 rw[<-pU,<-Du,X.e];exact qr X.l (qr h nofun)
structure Nd0(g:Bg)(H:Hp)(a:Addr)(p:PT):Prop where
 h:H a=some (.tup [.str (sW p.tx),.int (p.sz g),.int ((p.lv+p.br:Nat):Int)])
 ok:p.ok
 kn:p.kn
structure Nd(g:Bg)(H:Hp)(a:Addr)(p:PT):Prop where
 n:Nd0 g H a p
 sz:p.sz g<=120
 mn:p.lv+p.br<=40
theorem Nd.same{p:PT}(N:Nd g H a p)(s:Aw H H'):Nd g H' a p:=⟨⟨s _ _ N.n.h,N.n.ok,N.n.kn⟩,N.sz,N.mn⟩
theorem Nd.lg{p:PT}(N:Nd g H a p):Lg (sW p.tx) p.tx 3200:=.w _ (by have:=PT.tx_len N.n.ok;have:=N.mn;lia)
def tY:Sp:=fun vs H Q _=>Ex3 fun(wd:Str) (x:Int) (g:Bg)=>An3 (vs=[.str wd,.int x,.int g.D]) (SmC g) (∀a p H',Aw H H'->Nd g H' a p->Q (.ref a) H')
def m9:Sp:=fun vs H Q _=>Ex7 fun(wd:Str) (x:Int) (a b:Addr) (p q:PT) (g:Bg)=>An6 (vs=[.str wd,.int x,.ref a,.ref b]) (wd∈[Str.ofString "not",Str.ofString "later",Str.ofString "every",Str.ofString "of"]\/∃w:PK,wd=w.s) (SmC g) (Nd g H a p) (Nd g H b q) (∀r P H',Aw H H'->Nd0 g H' r P->Q (.ref r) H')
def zJ:Sp:=fun vs H Q _=>Ex2 fun(x y:Int)=>An4 (vs=[.int x,.int y]) (0<x) (0<y) (Q (.int (Int.gcd x y:Int)) H)
theorem ADk(a b:Int):Int.gcd b (a%b)=Int.gcd a b:=by
 have e:=Int.emod_add_mul_ediv a b;refine Nat.dvd_antisymm (Int.dvd_coe_gcd ?_ ?_ |> Int.ofNat_dvd.mp) (Int.dvd_coe_gcd ?_ ?_ |> Int.ofNat_dvd.mp)
 ·have h1:=jk0 (a:=b) (b:=a%b);have h2:=jn0 (a:=b) (b:=a%b);have:=Int.dvd_add h2 (jw8 h1 (Int.dvd_mul_right b (a/b)))
  rwa [e] at this
 ·exact jk0 ..
 ·exact jn0 ..
 ·have h1:=jk0 (a:=a) (b:=b);have h2:=jn0 (a:=a) (b:=b);rw[Int.emod_def];exact Int.dvd_sub h1 (jw8 h2 (Int.dvd_mul_right b (a/b)))
theorem yK:sW (PT.tx (.lf true))=Str.ofString "all":=∅
theorem sE:sW (PT.tx (.lf false))=Str.ofString "none":=∅
theorem xV:PT.okS none:=fun i h=>nomatch h
theorem pH{j:Int}(h1: -10<j)(h2:j<10):PT.okS (some j):=fun i h=>by
 injection h with h;subst h;exact Fd ⋯ ⋯
structure Mn(z:Str)(m:Option Int):Prop where
 e:z=sW (CN m)
 ok:PT.okS m
 l:(CN m).length<=2
theorem ABI(x:Int):∃(z:Str) (m:Option Int),Mn z m/\okM m/\atI [V.str "*",V.str "1",V.str "2"] (x%3)=some (.str z):=by
 have a0:=ze x (show (3:Int)≠0 by decide);have a1:=qo x (show (0:Int)<3 by decide);obtain e | e | e:x%3=0\/x%3=1\/x%3=2:=⋯
 all_goals rw[e]
 ·exact⟨_,none,⟨∅,xV,∅⟩,(fun i h=>nomatch h),rfl⟩
 ·exact⟨_,some 1,⟨∅,pH nofun nofun,∅⟩,(fun i h=>by cases h;decide),rfl⟩
 ·exact⟨_,some 2,⟨∅,pH nofun nofun,∅⟩,(fun i h=>by cases h;decide),rfl⟩
noncomputable def dyS:List Str:=[Str.ofString "1",Str.ofString "*",Str.ofString "-1",Str.ofString "2",Str.ofString "-3",Str.ofString "6"]
theorem ABK(x:Int):∃(z:Str) (m:Option Int),Mn z m/\m≠some 0/\atI (dyS.map V.str) (x%6)=some (.str z):=by
 have a0:=ze x (show (6:Int)≠0 by decide);have a1:=qo x (show (0:Int)<6 by decide);have go:∀j:Int,-10<j->j<10->(CN (some j)).length<=2->Mn (sW (CN (some j))) (some j):=fun j h1 h2 h3=>⟨rfl,pH h1 h2,h3⟩;obtain e | e | e | e | e | e:x%6=0\/x%6=1\/x%6=2\/x%6=3\/x%6=4\/x%6=5:=⋯
 all_goals rw[e]
 ·exact⟨_,some 1,go 1 nofun nofun ∅,nofun,∅⟩
 ·exact⟨_,none,⟨rfl,xV,∅⟩,nofun,∅⟩
 ·exact⟨_,some (-1),go (-1) nofun nofun ∅,nofun,∅⟩
 ·exact⟨_,some 2,go 2 nofun nofun ∅,nofun,∅⟩
 ·exact⟨_,some (-3),go (-3) nofun nofun ∅,nofun,∅⟩
 ·exact⟨_,some 6,go 6 nofun nofun ∅,nofun,∅⟩
theorem ABe(m d:Option Int):sg "date sun "++CN m++sg " "++CN d=PT.tx (.date (sg "sun") m d none):=by
 rw[PT.tx_date0,show sg "date sun "=sg "date "++sg "sun"++sg " " by ac_rfl];rfl
theorem ABd(m d:Option Int)(r:Int):sg "date sun "++CN m++sg " "++CN d++sg " each 2 from "++nW r=PT.tx (.date (sg "sun") m d (some (2,r))):=by
 rw[PT.tx_date1,show sg "date sun "=sg "date "++sg "sun"++sg " " by ac_rfl,show sg " each 2 from "=sg " "++(sg "each "++nW 2++sg " from ") by ac_rfl];simp[Kc,Hr]
theorem bw:HN (sg "sun"):=⟨∅,∅,∅⟩
theorem Pr{p:PT}{n m:Int}(t:z=sW p.tx)(e:p.sz g=n)(em:m=((p.lv+p.br:Nat):Int))(ok:p.ok)(kn:p.kn):Nd0 g (upd H a (.tup [.str z,.int n,.int m])) a p:=by
 subst t e em;exact⟨Am,ok,kn⟩
theorem gO{ss:List Str}{k:Int}(h0:0<=k)(h1:k<(ss.length:Int)):∃z,z∈ss/\atI (ss.map V.str) k=some (.str z):=by
 have hk:k.toNat<ss.length:=⋯;refine⟨ss[k.toNat],jk2 hk,?_⟩;have:=DY (xs:=ss.map V.str) (j:=k.toNat) (v:=.str ss[k.toNat]) (by rw[qq,zo hk];rfl)
 rwa [show ((k.toNat:Nat):Int)=k by lia] at this
noncomputable def lvS:List Str:=[Str.ofString "each",Str.ofString "date",Str.ofString "each",Str.ofString "none",Str.ofString "all"]
noncomputable def wdS:List Str:=[Str.ofString "and",Str.ofString "upon",Str.ofString "or",Str.ofString "not",Str.ofString "of",Str.ofString "not",Str.ofString "until",Str.ofString "later",Str.ofString "but",Str.ofString "near",Str.ofString "each",Str.ofString "till",Str.ofString "every",Str.ofString "unlike",Str.ofString "date",Str.ofString "none",Str.ofString "all",Str.ofString "and",Str.ofString "or"]
noncomputable def ofS:List Str:=[Str.ofString "not",Str.ofString "later",Str.ofString "every",Str.ofString "of"]
noncomputable def pkS:List PK:=[.an,.or,.bu,.ul,.up,.un,.ne,.ti]
theorem rY:∀z∈wdS,inV (.str z) (lvS.map V.str)=true\/z∈ofS\/z∈pkS.map fun w=>Str.ofString w.s:=∅
theorem yG(h:z∈wdS)(h1:inV (.str z) (lvS.map V.str)=false):z∈ofS\/∃w:PK,z=w.s:=by
 rcases rY z h with e | e | e
 ·rw[h1] at e;cases e
 ·exact .inl e
 ·obtain⟨w,_,e⟩:=yy.mp e;exact .inr ⟨w,e.symm⟩
theorem jf(ss:List Str):(ss.map V.str).all Ho=true:=by
 rw[jn7];exact ja6.mpr fun _ _=>rfl
def YW(g:Bg)(H:Hp)(l:Addr)(zs:List (Addr×PT)):Prop:=H l=some (.lst (zs.map fun z=>V.ref z.1))/\∀z∈zs,Nd g H z.1 z.2
theorem Uv{zs:List (Addr×PT)}{k:Int}(h0:0<=k)(h1:k<(zs.length:Int)):∃z,z∈zs/\atI (zs.map fun z=>V.ref z.1) k=some (.ref z.1):=by
 have hk:k.toNat<zs.length:=⋯;refine⟨zs[k.toNat],jk2 hk,?_⟩;have:=DY (xs:=zs.map fun z=>V.ref z.1) (j:=k.toNat) (v:=.ref zs[k.toNat].1) (by rw[qq,zo hk];rfl)
 rwa [show ((k.toNat:Nat):Int)=k by lia] at this
theorem wM{zs:List (Addr×PT)}(h:0<zs.length):∃z,z∈zs/\atI (zs.map fun z=>V.ref z.1) (-1)=some (.ref z.1):=by
 have hk:zs.length-1<zs.length:=⋯;exact⟨zs[zs.length-1],jk2 hk,rB (by rw[jp,qq,zo hk];rfl)⟩
theorem YW.same{zs:List (Addr×PT)}(R:YW g H l zs)(s:Aw H H'):YW g H' l zs:=⟨s _ _ R.1,fun z hz=>(R.2 z hz).same s⟩
theorem YW.app{zs:List (Addr×PT)}{p:PT}(R:YW g H l zs)(N:Nd g H a p):YW g (upd H l (.lst ((zs.map fun z=>V.ref z.1)++[.ref a]))) l (zs++[(a,p)]):=by
 have go:∀{b:Addr} {q:PT} {o:HO},Nd g H b q->Nd g (upd H l o) b q:=fun{b q o} M=>⟨⟨(Ax fun z=>by have:=M.n.h;rw[z,R.1] at this;cases this).trans M.n.h,M.n.ok,M.n.kn⟩,M.sz,M.mn⟩;refine⟨by rw[Am,uu];rfl,fun z hz=>?_⟩;rcases vk.mp hz with h | h
 ·exact go (R.2 z h)
 ·obtain rfl:=zw.mp h;exact go N
theorem Nd.fine{p:PT}(N:Nd g H a p):p.fine g:=⟨N.n.ok,N.n.kn,N.mn,by have:=N.sz;lia⟩
def sr(K:Fr):Sp:=fun vs H Q _=>Ex3 fun(a:Addr) (ns:List Int) (g:Bg)=>An5 (vs=[.ref a,.int g.D]) (SqL K H a (ns.map V.int)) (ns.length<=63) (SmC g) (∀(p:PT) H',Aw H H'->p.fine g->p.sz g<=120->Q (.str (sW p.tx)) H')
noncomputable def kwM:List Wd:=[sg "all",sg "none",sg "date"]
noncomputable def Gj(pre:List Wd)(w:Wd):Nat:=(if w∈kwM then 1 else 0)+if w=sg "each"/\pre[3]?≠some (sg "date") then 1 else 0
noncomputable def JB:List Wd->List Wd->Nat
 | _,[]=>0
 | pre,w::r=>Gj pre w+JB (w::pre) r
theorem Td:∀(a b pre:List Wd),JB pre (a++b)=JB pre a+JB (a.reverse++pre) b
 | [],_,_=>(jf9 _).symm
 | w::a,b,pre=>by
  rw[jf5];show Gj pre w+JB (w::pre) (a++b)=Gj pre w+JB (w::pre) a+_;rw[Td a b,js4,Zs,jj2];rfl
theorem jY(ws:List Wd)(k:Nat)(w:Wd)(h:ws[k]?=some w):JB [] (ws.take (k+1))=JB [] (ws.take k)+Gj (ws.take k).reverse w:=by
 rw[ja0,h,jd8,Td,ya];rfl
def GdM(k:Nat)(pre:List Wd):Prop:=∀j,j<k->pre[j]?≠some (sg "date")
noncomputable def nbM(w:Wd):Wd:=(w.filter (· != 40)).filter (· != 41)
theorem fH(a b:Wd):nbM (a++b)=nbM a++nbM b:=by unfold nbM;rw[jd7,jd7]
theorem pM:∀{ws:List Wd},nbM (jn ws)=jn (ws.map nbM)
 | []=>rfl
 | [w]=>rfl
 | w::y::r=>by
  have ih:=pM (ws:=y::r);show nbM (w++32::jn (y::r))=nbM w++32::jn ((y::r).map nbM);rw[fH,<-ih];rfl
noncomputable def ctM(ws:List Wd):Nat:=(ws.map fun w=>w.count 40).sum
theorem YC(a b:List Wd):ctM (a++b)=ctM a+ctM b:=by unfold ctM;rw[uu,List.sum_append]
theorem bBM:∀{ws:List Wd},(bB ws).map nbM=ws.map nbM/\ctM (bB ws)=ctM ws
 | []=>⟨rfl,rfl⟩
 | [w]=>⟨xy (fun x=>[x]) ((fH w [41]).trans (ya _)),by simp[bB,ctM]⟩
 | w::y::r=>by
  have ih:=bBM (ws:=y::r);exact⟨xy (nbM w:: ·) ih.1,xy (w.count 40+ ·) ih.2⟩
theorem bAM:∀{ws:List Wd},ws≠[]->(bA ws).map nbM=ws.map nbM/\ctM (bA ws)=ctM ws+1
 | [],h=>absurd rfl h
 | w::r,_=>⟨rfl,by simp[bA,ctM];lia⟩
structure PwM(w:Wd):Prop where
 a:nbM w∉kwM
 b:nbM w≠sg "each"
 c:w.count 40=0
theorem PwM.nd{w:Wd}(h:PwM w):nbM w≠sg "date":=fun e=>h.a (by rw[e];ac_rfl)
theorem GdM.cons{k:Nat}{w:Wd}{pre:List Wd}(h:w≠sg "date")(g:GdM k pre):GdM (k+1) (w::pre):=fun j hj=>by
 cases j with
 | zero=>exact fun e=>h (ua e)
 | succ j=>exact g j ⋯
theorem GdM.le{k l:Nat}{pre:List Wd}(g:GdM k pre)(h:l<=k):GdM l pre:=fun j hj=>g j ⋯
theorem HJ{pre:List Wd}{w:Wd}(h:PwM w):Gj pre (nbM w)=0:=by
 unfold Gj;rw[yb h.a,yb fun e=>h.b e.1]
structure CnM(ws:List Wd)(n b:Nat):Prop where
 c:ctM ws=b
 h:∀pre,GdM 4 pre->JB pre (ws.map nbM)=n/\GdM 3 ((ws.map nbM).reverse++pre)
theorem CnM.br{ws:List Wd}{n:Nat}(e:ws≠[])(h:CnM ws n b):CnM (bB (bA ws)) n (b+1):=⟨by rw[bBM.2,(bAM e).2,h.c],by rw[bBM.1,(bAM e).1];exact h.h⟩
theorem CnM.pre{w:Wd}{ws:List Wd}{n:Nat}(h:PwM w)(c:CnM ws n b):CnM ([w]++ws) n b:=⟨by rw[YC,c.c];show w.count 40+0+b=b;rw[h.c];lia,fun pre g=>by
 obtain⟨x,y⟩:=c.h (nbM w::pre) ((g.cons h.nd).le ⋯);refine⟨?_,?_⟩
 ·show Gj pre (nbM w)+JB (nbM w::pre) (ws.map nbM)=n;rw[HJ h,x,jf9]
 ·show GdM 3 ((nbM w::ws.map nbM).reverse++pre);rw[js4,Zs];exact y⟩
theorem CnM.app{x y:List Wd}{w:Wd}{n m d:Nat}(X:CnM x n b)(h:PwM w)(Y:CnM y m d):CnM (x++([w]++y)) (n+m) (b+d):=⟨by rw[YC,YC,X.c,Y.c];show b+(w.count 40+0+d)=_;rw[h.c];lia,fun pre g=>by
 obtain⟨e,g3⟩:=X.h pre g;obtain⟨f,g4⟩:=Y.h (nbM w::((x.map nbM).reverse++pre)) (g3.cons h.nd);rw[uu];refine⟨?_,?_⟩
 ·rw[Td,e];show n+(Gj _ (nbM w)+JB (nbM w::((x.map nbM).reverse++pre)) (y.map nbM))=_;rw[HJ h,f,jf9]
 ·show GdM 3 ((x.map nbM++nbM w::y.map nbM).reverse++pre);rw[jp7,js4,Zs,Zs];exact g4⟩
theorem CnM.one{w:Wd}(h:PwM w):CnM [w] 0 0:=⟨by show w.count 40+0=0;rw[h.c],fun pre g=>⟨by show Gj pre _+0=0;rw[HJ h],(g.cons h.nd).le ⋯⟩⟩
theorem AAL{w:Wd}(h:∀c∈w,gs c):nbM w=w/\w.count 40=0:=by
 refine⟨?_,jq9.mpr fun z=>(h 40 z).2.2.1 rfl⟩;unfold nbM;rw[show w.filter (· != 40)=w from Qr.mpr fun c hc=>by have:=(h c hc).2.2.1;simpa using this];exact Qr.mpr fun c hc=>by have:=(h c hc).2.2.2;simpa using this
theorem PwM.num{n:Int}(h:Sm n):PwM (nW n):=by
 obtain⟨e,z⟩:=AAL (w:=nW n) fun c hc=>by
  have:=JW h c hc;unfold gs;lia
 have go:∀k∈sg "each"::kwM,nW n≠k:=fun k hk e=>by
  have:=(Il h).1;rw[e] at this;have a:∀k∈sg "each"::kwM,∃c w,k=c::w/\58<=c:=by
   intro k hk;simp only[kwM,qf,yk,or_false] at hk;rcases hk with rfl | rfl | rfl | rfl<;>exact⟨_,_,rfl,∅⟩
  obtain⟨c,w,rfl,hc⟩:=a k hk;have:=cI this;lia
 exact⟨by rw[e];exact fun z=>go _ (.tail _ z) rfl,by rw[e];exact go _ (.head _),z⟩
theorem PwM.star{m:Option Int}(h:PT.okS m):PwM (CN m):=by
 cases m with
 | none=>exact⟨∅,∅,∅⟩
 | some i=>exact .num (h i rfl)
theorem PwM.k{z:String}(h:nbM (sg z)∉kwM:=by ac_rfl)(g:nbM (sg z)≠sg "each":=by ac_rfl)(c:(sg z).count 40=0:=by ac_rfl):PwM (sg z):=⟨h,g,c⟩
theorem PwM.pk:∀w:PK,PwM (sg w.s):=fun w=>by cases w<;>exact .k
theorem CnM.ea{n r:Int}(h:Sm n)(h':Sm r){pre:List Wd}:JB pre ([sg "each",nW n,sg "from",nW r].map nbM)=(if pre[3]?≠some (sg "date") then 1 else 0)/\GdM 3 (([sg "each",nW n,sg "from",nW r].map nbM).reverse++pre)/\ctM [sg "each",nW n,sg "from",nW r]=0:=by
 have a:=PwM.num h;have b:=PwM.num h';have c:PwM (sg "from"):=.k;have e:nbM (sg "each")=sg "each":=∅;refine⟨?_,fun j hj=>?_,?_⟩
 ·show Gj pre (nbM (sg "each"))+(Gj _ _+(Gj _ _+(Gj _ _+0)))=_;rw[HJ a,HJ b,HJ c,e];unfold Gj;rw[yb ∅];simp
 ·show(nbM (nW r)::nbM (sg "from")::nbM (nW n)::nbM (sg "each")::pre)[j]?≠_;obtain rfl | rfl | rfl:j=0\/j=1\/j=2:=⋯
  ·exact fun z=>b.nd (ua z)
  ·exact fun z=>c.nd (ua z)
  ·exact fun z=>a.nd (ua z)
 ·show(sg "each").count 40+((nW n).count 40+((sg "from").count 40+((nW r).count 40+0)))=0;rw[a.c,b.c,c.c];ac_rfl
namespace PT
theorem wd_cn:∀{p:PT},p.ok->p.kn->CnM p.wd p.lv p.br
 | lf b,_,_=>⟨by cases b<;>ac_rfl,fun pre g=>by
  have k:nbM (sg (lfS b))∈kwM/\nbM (sg (lfS b))≠sg "each"/\nbM (sg (lfS b))≠sg "date":=by cases b<;>ac_rfl
  exact⟨by show Gj pre _+0=1;unfold Gj;rw[xz k.1,yb fun e=>k.2.1 e.1],(g.cons k.2.2).le ⋯⟩⟩
 | each n r,h,_=>⟨(CnM.ea h.1 h.2.1 (pre:=[])).2.2,fun pre g=>⟨(CnM.ea h.1 h.2.1).1.trans (xz (g 3 ⋯)),(CnM.ea h.1 h.2.1).2.1⟩⟩
 | date nm m d y,h,k=>by
  have n0:PwM nm:=by rw[show nm=sg "sun" from k];exact .k
  have a:=PwM.star h.2.1;have b:=PwM.star h.2.2.1;have e:∀pre,Gj pre (nbM (sg "date"))=1:=fun pre=>by
   unfold Gj;rw[xz ∅,yb fun e=>absurd e.1 ∅]
  have c0:(sg "date").count 40=0:=∅;cases y with
  | none=>
   refine⟨?_,fun pre g=>⟨?_,fun j hj=>?_⟩⟩
   ·show(sg "date").count 40+(nm.count 40+((CN m).count 40+((CN d).count 40+0)))=0;rw[c0,n0.c,a.c,b.c]
   ·show Gj pre (nbM (sg "date"))+(Gj _ (nbM nm)+(Gj _ _+(Gj _ _+0)))=1;rw[HJ n0,HJ a,HJ b,e]
   ·show(nbM (CN d)::nbM (CN m)::nbM nm::nbM (sg "date")::pre)[j]?≠_;obtain rfl | rfl | rfl:j=0\/j=1\/j=2:=⋯
    ·exact fun z=>b.nd (ua z)
    ·exact fun z=>a.nd (ua z)
    ·exact fun z=>n0.nd (ua z)
  | some z=>
   obtain⟨z1,z2,_,_⟩:=h.2.2.2.1 z rfl;have E:=fun pre=>CnM.ea z1 z2 (pre:=nbM (CN d)::nbM (CN m)::nbM nm::nbM (sg "date")::pre);refine⟨?_,fun pre g=>⟨?_,?_⟩⟩
   ·show(sg "date").count 40+(nm.count 40+((CN m).count 40+((CN d).count 40+ctM (yrW (some z)))))=0;rw[c0,n0.c,a.c,b.c];exact xy (fun u=>0+(0+(0+(0+u)))) (E []).2.2
   ·show Gj pre (nbM (sg "date"))+(Gj _ (nbM nm)+(Gj _ _+(Gj _ _+JB _ _)))=1;rw[HJ n0,HJ a,HJ b,e];exact xy (fun u=>1+(0+(0+(0+u)))) ((E pre).1.trans (yb fun q=>q (by show some (nbM (sg "date"))=_;ac_rfl)))
   ·exact(E pre).2.1
 | no p,h,k=>((wd_cn (p:=p) h k).pre .k).br (by simp)
 | la j p,h,k=>(((wd_cn (p:=p) h.2 k).pre .k).pre (.num h.1)).br (by simp)
 | ev j p d,h,k=>(((((wd_cn (p:=p) h.2.2.1 k).app .k (.one (.num h.2.1))).pre .k).pre (.num h.1)).pre .k).br (by simp)
 | nt j p q,h,k=>((((wd_cn (p:=p) h.2.1 k.1).app .k (wd_cn (p:=q) h.2.2.1 k.2)).pre .k).pre (.num h.1)).br (by simp)
 | pr w p q,h,k=>((wd_cn (p:=p) h.1 k.1).app (.pk w) (wd_cn (p:=q) h.2 k.2)).br (by simp)
noncomputable def pl(p:PT):List Wd:=p.wd.map nbM
theorem spl_pl{p:PT}(h:p.ok):L2.spl 32 (nbM p.tx)=p.pl:=by
 rw[show nbM p.tx=jn p.pl from pM];refine Rc (fun e=>(wf h).ne (jp4.mp e)) fun w hw z=>?_;obtain⟨u,hu,rfl⟩:=yy.mp hw;exact(wf h).bl u hu (jc3.mp (jc3.mp z).1).1
theorem tx_ct{p:PT}(h:p.ok)(k:p.kn):p.tx.count 40=p.br:=by
 have W:=wf h;rw[Vv 32 40 nofun,show L2.spl 32 p.tx=p.wd from Rc W.ne W.bl];exact(wd_cn h k).c
end PT
theorem Yk(c:Nat):∀l:List Nat,(L2.spl c l).flatten=l.filter (· != c)
 | []=>rfl
 | b::l=>by
  have ih:=Yk c l;by_cases e:b=c
  ·subst e;rw[L2.Wt,kc,ji9,ih,jt2 (by simp)]
  ·rw[L2.Mj l e,kc,jt3 (by simpa using e),<-ih]
   conv=>rhs;rw[L2.Ky c l,kc]
   rfl
theorem xn:∀(ps:List Wd) (a:Array Nat),((ps.map sW).foldl (fun acc p=>acc++Str.empty.cps++p.cps) a).toList=a.toList++ps.flatten
 | [],a=>(ya _).symm
 | p::ps,a=>by
  rw[zv,jp3,xn ps,kc,jd2,jd2,<-Zs];show a.toList++[]++p++_=_;rw[ya]
theorem AAk:∀ps:List Wd,Builtin.Str.glued Str.empty (ps.map sW)=sW ps.flatten
 | []=>rfl
 | p::ps=>Eu (by
  rw[Ba];show((ps.map sW).foldl (fun acc p=>acc++Str.empty.cps++p.cps) (sW p).cps).toList=_;rw[xn];show cpl (sW p)++_=_;rw[Ba,kc])
theorem nZ(w:Wd)(c:Nat):Txt.replace (sW w) ⟨#[c]⟩ Str.empty=sW (w.filter (· != c)):=by
 have one:(⟨#[c]⟩:Str).length=1:=rfl;have eg:Builtin.Str.glued Str.empty (Builtin.Str.partsBetween (sW w) (Builtin.Str.occurrences (sW w) ⟨#[c]⟩ 0 (sW w).length ((sW w).length+1)) (⟨#[c]⟩:Str).length)=sW (w.filter (· != c)):=by
  rw[Ng,one,parts_eq];show Builtin.Str.glued Str.empty ((L2.spl c (cpl (sW w))).map sW)=_;rw[AAk,Ba,Yk]
 unfold Txt.replace;split
 ·rename_i h
  rw[Ng,one,jp1] at h;rcases h with h | h
  ·refine xy sW (Qr.mpr fun d hd=>?_).symm;have h2:L2.plc c 0 (cps (sW w))=[]:=List.isEmpty_iff.mp h;have h3:=K4 c (cps (sW w)) 0;rw[h2,show cps (sW w)=w from Ba w] at h3;have h4:=jq9.mp h3.symm;simpa using fun e:d=c=>h4 (e ▸ hd)
  ·cases h
 ·exact eg
theorem ACL(w:Wd):Txt.replace (Txt.replace (sW w) (Str.ofString "(") (Str.ofString "")) (Str.ofString ")") (Str.ofString "")=sW (nbM w):=by
 rw[show Str.ofString "("=⟨#[40]⟩ by ac_rfl,show Str.ofString ")"=⟨#[41]⟩ by ac_rfl,show Str.ofString ""=Str.empty by ac_rfl,nZ,nZ];rfl
theorem ir(w:Wd):(Txt.replace (sW w) (Str.ofString "(") (Str.ofString "")).length<=w.length:=by
 rw[show Str.ofString "("=⟨#[40]⟩ by ac_rfl,show Str.ofString ""=Str.empty by ac_rfl,nZ,Ci];exact jb9 _ _
theorem SN{w:Wd}(z:String):V.str (sW w)=V.str (Str.ofString z)<->w=sg z:=by rw[<-ws_eq];exact nP
theorem eF{y:Str}{to:TE}{Z:L2.St}(h:to Z H fun x H1=>∃w,x=.str w/\w.length<=1048576/\Q (.str (Txt.replace w y z)) H1):wy y z to Z H Q:=h
theorem J6{sp:Sp}{te:TE}{Z:L2.St}(h:te Z H fun v H1=>sp [v] H1 Q E0):mD sp te Z H Q:=h
def tU:Sp:=fun vs H Q _=>∃p:PT,An5 (vs=[.str (sW p.tx)]) p.ok p.kn (p.lv+p.br<=40) (∀H',Aw H H'->Q (.int ((p.lv+p.br:Nat):Int)) H')
theorem uo{X:Cx}{st:Stmt}{t:TS}(h:PSp X st t):PSp X st (yS t):=by
 intro pins s Z H D hp I hw;obtain⟨J,h1,h2⟩:=hw;refine thn (h s Z H { D with nx:=J } hp I h1) fun f s1 q=>?_;cases f with
 | next=>
  obtain⟨Z',H',I',q⟩:=q;exact⟨Z',H',I',h2 _ _ q⟩
 | ret v=>exact q
 | brk=>exact q
 | cont=>exact q
theorem T2{s h x z:Wd}(e:s=h++32::(x++[32])):h++32::(x++32::z)=s++z:=by rw[e];simp
noncomputable def nL:Wd:=sg "long"
noncomputable def nS:Wd:=sg "short"
theorem TF:HN nL:=⟨∅,∅,∅⟩
theorem jD:HN nS:=⟨∅,∅,∅⟩
theorem JV{a:Wd}{R:Row}(e:R.ws=[.ru a])(h:HN a):R.ok:=fun w hw=>by
 rw[e] at hw;obtain rfl:=zw.mp hw;exact h
theorem aQ{a:Wd}{d:Int}{R:Row}(e:R.ws=[.ru a,.nu d])(h:HN a)(hd:Sm d):R.ok:=fun w hw=>by
 rw[e] at hw;simp only[qf,yk,or_false] at hw;rcases hw with rfl | rfl
 ·exact h
 ·exact hd
theorem dO{a:Wd}{d k:Int}{R:Row}(e:R.ws=[.ru a,.nu d,.nu k])(h:HN a)(hd:Sm d)(hk:Sm k):R.ok:=fun w hw=>by
 rw[e] at hw;simp only[qf,yk,or_false] at hw;rcases hw with rfl | rfl | rfl
 ·exact h
 ·exact hd
 ·exact hk
theorem uJ{a b:Wd}{d:Int}(h:HN a)(h':HN b)(hd:Sm d):(Row.same a b d).ok:=fun w hw=>by
 simp only[Row.ws,qf,yk,or_false] at hw;rcases hw with rfl | rfl | rfl
 ·exact h
 ·exact h'
 ·exact hd
noncomputable def nm3:List Str:=[Str.ofString "on",Str.ofString "next",Str.ofString "last"]
noncomputable def nm2:List Str:=[Str.ofString "nth",Str.ofString "count"]
structure As1(w:String)(a:Int->Ask):Prop where
 l:(sg w).length<=30
 t:∀nm d,Row.T (.ask nm (a d))=sg w++32::(nm++32::nW d)
 k:∀{nm d},HN nm->Sm d->(Row.ask nm (a d)).ok
 n:∀e d k,a e=.nth d k->k≠0
structure As2(w:String)(a:Int->Int->Ask):Prop where
 l:(sg w).length<=30
 t:∀nm d k,Row.T (.ask nm (a d k))=sg w++32::(nm++32::(nW d++32::nW k))
 k:∀{nm d k},HN nm->Sm d->Sm k->(Row.ask nm (a d k)).ok
 n:∀d k d' k',a d k=.nth d' k'->k≠0->k'≠0
theorem vD(h:z∈nm3):∃w a,z=Str.ofString w/\As1 w a:=by
 rcases qf.mp h with e | h
 ·exact⟨"on",.on,e,∅,fun _ _=>rfl,aQ rfl,fun _ _ _ h=>nomatch h⟩
 rcases qf.mp h with e | h
 ·exact⟨"next",.next,e,∅,fun _ _=>rfl,aQ rfl,fun _ _ _ h=>nomatch h⟩
 ·exact⟨"last",.last,zw.mp h,∅,fun _ _=>rfl,aQ rfl,fun _ _ _ h=>nomatch h⟩
theorem vG(h:z∈nm2):∃w a,z=Str.ofString w/\As2 w a:=by
 rcases qf.mp h with e | h
 ·exact⟨"nth",.nth,e,∅,fun _ _ _=>rfl,dO rfl,fun _ _ _ _ h n=>by injection h with _ e;rwa [<-e]⟩
 ·exact⟨"count",.count,zw.mp h,∅,fun _ _ _=>rfl,dO rfl,fun _ _ _ _ h=>nomatch h⟩
theorem As1.e{w s:String}{a:Int->Ask}(A:As1 w a){nm:Wd}(d:Int)(h:sg s=32::(nm++[32]):=by ac_rfl):sg w++sg s++nW d=Row.T (.ask nm (a d)):=by
 rw[A.t,h];simp
theorem As2.e{w s:String}{a:Int->Int->Ask}(A:As2 w a){nm:Wd}(d k:Int)(h:sg s=32::nm:=by ac_rfl):sg w++sg s++(sg " "++nW d++sg " "++nW k)=Row.T (.ask nm (a d k)):=by
 rw[A.t,h,show sg " "=[32] by ac_rfl];simp
theorem rG:sW (Row.T (.size nL))=Str.ofString "size long":=∅
theorem ACs:sW (Row.T (.size nS))=Str.ofString "size short":=∅
theorem xx:sW (Row.T (.shorter nL))=Str.ofString "shorter long":=∅
theorem ACt:sW (Row.T (.shorter nS))=Str.ofString "shorter short":=∅
theorem xu:sW (Row.T (.show nL))=Str.ofString "show long":=∅
theorem ADv(d:Int):sg "same long short "++nW d=Row.T (.same nL nS d):=by
 have e:Row.T (.same nL nS d)=sg "same"++32::(nL++32::(nS++32::nW d)):=rfl;rw[e,show sg "same long short "=sg "same"++32::(nL++32::(nS++[32])) by ac_rfl];simp
theorem ADx(p:PT):sg "rule long "++p.tx=Row.T (.rule nL p):=(T2 (show sg "rule long "=cpl "rule"++32::(nL++[32]) by ac_rfl)).symm
theorem ADw(p:PT):sg "rule short "++p.tx=Row.T (.rule nS p):=(T2 (show sg "rule short "=cpl "rule"++32::(nS++[32]) by ac_rfl)).symm
structure Two(g:Bg)(m:Wd->Option PT)(p q:PT)(z c:Nat):Prop where
 mp:m nL=some p
 mq:m nS=some q
 p0:0<p.sz g
 p1:p.sz g<=70000
 q0:0<q.sz g
 q1:q.sz g<=70000
 lp:LsP g z c p
 lq:LsP g z c q
theorem LsP.on{z:Nat}{p:PT}(L:LsP g z c p)(h:0<p.sz g)(d:Int):On (p.sz g) (p.bt g) d=On (z:Int) c d:=by
 have e:(((p.sz g).toNat:Nat):Int)=p.sz g:=⋯;rw[<-e];exact Lst.on L ⋯ d
theorem LsP.one{z z':Nat}{p:PT}(L:LsP g z c p)(L':LsP g z' c' p)(h:0<p.sz g):z=z'/\c=c':=Lst.same L L' fun e=>by rw[<-LsP.on L h,<-LsP.on L' h]
theorem Two.ans{m:Wd->Option PT}{p:PT}{z:Nat}(T:Two g m p q z c)(a:Ask):kW a (p.sz g) (p.bt g)=kW a (q.sz g) (q.bt g):=rE T.p0 T.q0 (fun d=>by rw[T.lp.on T.p0,T.lq.on T.q0]) a
def nG(K:Fr)(cs:Cs):Sp:=fun vs H Q _=>ABV fun(x:Addr) (g:Bg) (j:Nat) (m:Wd->Option PT) (p q:PT) (z c:Nat) (d k:Int)=>An9 (vs=[.ref x,.str (sW (nW d)),.str (sW (nW k))]) (Sm d) (Sm k) (k≠0) (Dk K cs g H x true j m) (j<=50) (SmC g) (Two g m p q z c) (∀H',Aw H H'->Q (.bl true) H')
theorem JR{cs:Cs}{c:Bool}{j:Nat}{m:Wd->Option PT}{Z:L2.St}{R:Row}(dk:Dk K cs g H x c j m)(e:sW R.T=z)(ok:R.ok)(sm:SmC g)(q:ACv K cs g H x c j m Q R)(hj:j<=50:=by decide):∃(a dx:Addr) (fs:List (Str×V)),V.ref x=V.ref a/\H a=some (.ins cs.D dx fs)/\fs.lookup (Str.ofString "say")=none/\Hw (tC (.str z)) Ly Z H fun vs H2=>xK K cs (V.ref x::(vs++[])) H2 Q E0:=by
 obtain⟨dx,_,_,_,h,_⟩:=id dk.ex;subst e;exact⟨x,dx,_,rfl,h,rfl,x,g,c,j,m,R,rfl,ok,dk,hj,sm,q⟩
theorem ACu(s f g a b:Int):Row.T (.cal ⟨s,f,g,a,b⟩)=sg "calendar sun sun "++nW s++sg " "++nW f++sg ","++nW g++sg " leap 2 +"++nW a++sg ","++nW b++sg ",2":=by
 have e:Row.T (.cal ⟨s,f,g,a,b⟩)=cpl "calendar"++32::(sg "sun"++32::(sg "sun"++32::(nW s++32::(Fe 44 ([f,g].map nW)++32::(sg "leap"++32::(nW 2++32::tmW a b)))))):=rfl;have e1:sg "calendar sun sun "=cpl "calendar"++32::(sg "sun"++32::(sg "sun"++[32])):=∅;have e2:sg " leap 2 +"=32::(sg "leap"++32::(nW 2++[32,43])):=∅;have e3:sg ","=[44]:=∅;have e4:sg ",2"=44::nW 2:=∅;have e5:sg " "=[32]:=∅;rw[e,e1,e2,e3,e4,e5];simp[tmW,Fe]
theorem AAv(o:SmC g):(Row.cal g).ok:=fun w hw=>by
 simp only[Row.ws,qf,yk,or_false] at hw;obtain⟨_,l,t⟩:=o.tx;rcases hw with rfl | rfl
 ·exact bw
 ·exact⟨⋯,fun c hc=>Fb.mp t.1 c (by rw[Ba];exact hc)⟩
theorem PT.fine.tl{p:PT}(f:p.fine g):p.tx.length<=3200:=by
 have:=PT.tx_len f.ok;have:=f.mn;lia
theorem du{nm:Wd}{p:PT}(h:HN nm)(f:p.fine g):(Row.rule nm p).ok:=fun w hw=>by
 simp only[Row.ws,qf,yk,or_false] at hw;rcases hw with rfl | rfl
 ·exact h
 ·have l:=f.tl;have d:=(PT.lv_br p).2.2;have m:=f.mn;obtain⟨_,t,_⟩:=PT.rdy f.ok ⋯ ⋯;exact⟨⋯,fun c hc=>Fb.mp t.1 c (by rw[Ba];exact hc)⟩
theorem SqL.kd(k:Kd H H'){xs:List V}(h:SqL K H x xs):SqL K H' x xs:=by
 rcases h with (h | ⟨o,h⟩) | h
 ·exact .inl (.inl (k.lst h))
 ·exact .inl (.inr ⟨o,k _ _ (fun _ z=>nomatch z) h⟩)
 ·exact .inr h
theorem PT.part_kn{p:PT}(h:q∈p.parts)(o:p.kn):q.kn:=PT.part_of (P:=PT.kn) (fun p o q k=>by
 cases p<;>simp only[kids,qf,yk,or_false] at k
 case no=>exact k ▸ o
 case la=>exact k ▸ o
 case ev=>exact k ▸ o
 case nt=>rcases k with rfl | rfl;exact o.1;exact o.2
 case pr=>rcases k with rfl | rfl;exact o.1;exact o.2) o q h
theorem PT.part_nrm{p:PT}(h:q∈p.parts)(o:p.nrm=p):q.nrm=q:=PT.part_of (P:=fun r=>r.nrm=r) (fun p o q k=>by
 cases p<;>simp only[kids,qf,yk,or_false] at k<;>simp only[PT.nrm,PT.no.injEq,PT.la.injEq,PT.ev.injEq,PT.nt.injEq,PT.pr.injEq] at o
 case no=>exact k ▸ o
 case la=>exact k ▸ o.2
 case ev=>exact k ▸ o.2.1
 case nt=>rcases k with rfl | rfl;exact o.2.1;exact o.2.2
 case pr=>rcases k with rfl | rfl;exact o.2.1;exact o.2.2) o q h
theorem PT.part_sz(hD:SmC g){p q:PT}(h:q∈p.parts)(ok:p.ok):q.sz g<=p.sz g:=by
 refine(PT.part_of (P:=fun r=>r.ok/\r.sz g<=p.sz g) (fun r o q k=>?_) ⟨ok,jt0 _⟩ q h).2;have rk:=o.1;refine⟨PT.part_ok (p:=r) (by rw[PT.parts_eq];exact .tail _ (List.mem_flatten.mpr ⟨_,List.mem_map_of_mem k,by rw[PT.parts_eq];exact .head _⟩)) rk,ju8 ?_ o.2⟩;have le:∀{a b:Int},0<a->0<b->a<=Cm a b/\b<=Cm a b:=fun ha hb=>by
  have f:=Bx ha hb;exact⟨jo9 f.1 f.2.1,jo9 f.1 f.2.2.1⟩
 cases r<;>simp only[kids,qf,yk,or_false] at k
 case no=>subst k;exact jt0 _
 case la=>subst k;exact jt0 _
 case ev j r d=>
  subst k;have a:=PT.sz_pos hD rk.2.2.1;have b:=rk.2.2.2.1;show PT.sz g _<=PT.sz g _*j;have:=jb5 b (jd5 a)
  rwa [jg9] at this
 case nt j r r'=>
  have l:=le (PT.sz_pos hD rk.2.1) (PT.sz_pos hD rk.2.2.1);rcases k with rfl | rfl
  ·exact l.1
  ·exact l.2
 case pr w r r'=>
  have l:=le (PT.sz_pos hD rk.1) (PT.sz_pos hD rk.2);rcases k with rfl | rfl
  ·exact l.1
  ·exact l.2
theorem Lst.own{n z:Nat}(L:Lst n b z c):Lst z c z c:=⟨L.z0,jv6 z,L.lt,.start L.lt,L.min⟩
theorem ACj{z d:Nat}(z0:0<z)(lt:c<2^z)(h:dl c z=[d]):RB (z:Int) [(d:Int)] c:=by
 have dz:d<z:=(mem_dl.mp (by rw[h];simp)).1;refine⟨by rwa [zh],fun e=>?_⟩;have e0:=ze e (show (z:Int)≠0 by lia);have e1:=qo e (show (0:Int)<(z:Int) by lia);rw[kr];unfold On hit;simp only[jj1,List.any_nil,jo8,jb2,decide_eq_true_eq];have i:c.testBit (e%(z:Int)).toNat=true<->(e%(z:Int)).toNat=d:=by
  rw[<-zw (b:=d),<-h,mem_dl];exact⟨fun t=>⟨⋯,t⟩,fun t=>t.2⟩
 rw[i,Mi ⋯,ja8 (a:=(d:Int)) ⋯ ⋯];lia
structure ShK(g:Bg)(p q:PT)(z c:Nat):Prop where
 ok:q.ok
 kn:q.kn
 nr:q.nrm=q
 mn:q.lv+q.br<=p.lv+p.br
 s0:0<q.sz g
 s1:q.sz g<=p.sz g
 lp:LsP g z c p
 lq:LsP g z c q
 one:z=1->q.lv+q.br=1
theorem Shr.full{p:PT}(hD:SmC g)(S:Shr g p q)(n1:p.sz g<=420)(ok:p.ok)(kn:p.kn)(nr:p.nrm=p):∃z c,ShK g p q z c:=by
 have n0:=PT.sz_pos hD ok;obtain⟨qok,qmn⟩:=S.ok n0 n1 ok;obtain⟨z,c,L,S⟩:=S;have z0:=L.z0;have z1:=Lst.sz1 L ⋯;have Lz:=Lst.own L;have lt:=L.lt;refine⟨z,c,?_⟩;rcases S with e | ⟨en,i,hq,_⟩
 ·unfold tb at e;split at e
  ·rename_i h
   cases e;obtain⟨rfl,rfl⟩:=h;have b:PT.bt g (.lf true)=1:=PT.bt_of (by show(0:Int)<1;decide) rfl;exact⟨qok,trivial,rfl,qmn,by show(0:Int)<1;decide,by show(1:Int)<=_;lia,L,by unfold LsP;rw[b];exact Lz,fun _=>rfl⟩
  ·split at e
   ·rename_i h
    cases e;obtain⟨rfl,rfl⟩:=h;have b:PT.bt g (.lf false)=0:=PT.bt_of (by show(0:Int)<1;decide) rfl;exact⟨qok,trivial,rfl,qmn,by show(0:Int)<1;decide,by show(1:Int)<=_;lia,L,by unfold LsP;rw[b];exact Lz,fun _=>rfl⟩
   ·split at e
    ·rename_i d hd
     cases e;have dz:d<z:=(mem_dl.mp (by rw[hd];simp)).1;have b:PT.bt g (.each z d)=c:=PT.bt_of (by show(0:Int)<z;lia) (ACj z0 lt hd);refine⟨qok,trivial,?_,qmn,by show(0:Int)<z;lia,by show(z:Int)<=_;lia,L,?_,fun _=>rfl⟩
     ·show PT.each z ((d:Int)%z)=_;rw[ja8 ⋯ ⋯]
     ·unfold LsP;rw[b];show Lst ((z:Int)).toNat c z c;rw[zh];exact Lz
    ·cases e
 ·obtain⟨m,l⟩:=jc3.mp (xb hq);refine⟨qok,PT.part_kn m kn,PT.part_nrm m nr,qmn,PT.sz_pos hD qok,PT.part_sz hD m ok,L,(@decide_eq_true_iff _ (Classical.propDecidable _)).mp l,fun e=>?_⟩;subst e;have c2:c=0\/c=1:=by have:c<2:=lt;lia
  rcases c2 with e | e<;>subst e<;>simp[tb] at en
theorem Shr.uniq{p q':PT}(n0:0<p.sz g)(S:Shr g p q)(S':Shr g p q'):q=q':=by
 obtain⟨z,c,L,S⟩:=S;obtain⟨z',c',L',S'⟩:=S';obtain⟨rfl,rfl⟩:=LsP.one L L' n0;rcases S with e | ⟨en,i,hq,hm⟩<;>rcases S' with e' | ⟨en',i',hq',hm'⟩
 ·rw[e] at e';exact ua e'
 ·rw[e] at en';cases en'
 ·rw[e'] at en;cases en
 ·rcases Nat.lt_trichotomy i i' with h | h | h
  ·have a:=(hm' _ _ hq).2 h;have b:=(hm _ _ hq').1;lia
  ·subst h;rw[hq] at hq';exact ua hq'
  ·have a:=(hm _ _ hq').2 h;have b:=(hm' _ _ hq).1;lia
theorem pL{n:Nat}(h:n≠0):cpl (Cr (-(n:Int)))=45::cpl (Cr (n:Int)):=by
 cases n with
 | zero=>exact absurd rfl h
 | succ n=>rfl
theorem AAQ{k:Int}(h:1<=k):sg "-"++nW k=nW (-k):=by
 obtain⟨n,rfl⟩:∃n:Nat,k=(n:Int):=⟨k.toNat,⋯⟩;show _=cpl (Cr (-(n:Int)));rw[pL ⋯,show sg "-"=[45] by ac_rfl];rfl
theorem AAP{z:Nat}(h:Sm (z:Int)):V.str (sW (nW (z:Int)))=V.str "1"<->z=1:=by
 rw[SN,show sg "1"=nW 1 by ac_rfl];constructor
 ·intro e;have:=(Il h).2;rw[e,(Il (i:=1) (Fd nofun nofun)).2] at this;lia
 ·intro e;subst e;rfl
theorem Jv{d:Option Addr}{vs:Array Value}{n:Nat}{s:Array (Option Value)}(h:K.lookup a=some ⟨.type "tuple",d,.seq vs n,s⟩)(l:vs.size<=5)(r:Vals xs vs.toList)(H:Hp):SqT K H a xs:=.inr ⟨_,_,_,h,rfl,rfl,qr l nofun,r⟩
theorem qT{P:Program}{w:World}{mg:Str->Option Value}{t:Nat->Addr}{a0 a2 a6 a7 a8 a9 a10 a11 a12 a15 a16:Addr}{x0 x1 x2 x3 x4 x5 x6 x7 x8 x9 y0 y1 y2 y3 y4 y5 y6 y7 y8 y9 z0 z1:Tok}{d0 d1 d2 d3 d4 d5 d6 d7 d8 d9 d10:Option Addr}{n0 n1 n2 n3 n4 n5 n6 n7 n8 n9 n10:Nat}{s0 s1 s2 s3 s4 s5 s6 s7 s8 s9 s10:Array (Option Value)}(m:mg "FORMS"=some (.ref a))(d:KD P w K a (cN t))(e0:t 0=a0)(e2:t 2=a2)(e6:t 6=a6)(e7:t 7=a7)(e8:t 8=a8)(e9:t 9=a9)(e10:t 10=a10)(e11:t 11=a11)(e12:t 12=a12)(e15:t 15=a15)(e16:t 16=a16)
 (h0:K.lookup a0=some ⟨.type "tuple",d0,.seq #[.str "NAME" x0,.str "TEXT" x1] n0,s0⟩)(h2:K.lookup a2=some ⟨.type "tuple",d1,.seq #[.str "NAME" x2,.str "TEXT" x3] n1,s1⟩)(h6:K.lookup a6=some ⟨.type "tuple",d2,.seq #[.str "RULE" x4,.str "NUMBER" x5] n2,s2⟩)(h7:K.lookup a7=some ⟨.type "tuple",d3,.seq #[.str "RULE" x6,.str "NUMBER" x7] n3,s3⟩)(h8:K.lookup a8=some ⟨.type "tuple",d4,.seq #[.str "RULE" x8,.str "NUMBER" x9] n4,s4⟩)(h9:K.lookup a9=some ⟨.type "tuple",d5,.seq #[.str "RULE" y0,.str "NUMBER" y1,.str "NUMBER" y2] n5,s5⟩)(h10:K.lookup a10=some ⟨.type "tuple",d6,.seq #[.str "RULE" y3,.str "NUMBER" y4,.str "NUMBER" y5] n6,s6⟩)(h11:K.lookup a11=some ⟨.type "tuple",d7,.seq #[.str "RULE" y6] n7,s7⟩)(h12:K.lookup a12=some ⟨.type "tuple",d8,.seq #[.str "RULE" y7,.str "RULE" y8,.str "NUMBER" y9] n8,s8⟩)(h15:K.lookup a15=some ⟨.type "tuple",d9,.seq #[.str "RULE" z0] n9,s9⟩)(h16:K.lookup a16=some ⟨.type "tuple",d10,.seq #[.str "RULE" z1] n10,s10⟩):rN P w K mg a t:=⟨m,d,fun R H=>by
 subst e0 e2 e6 e7 e8 e9 e10 e11 e12 e15 e16;rcases R with _ | _ | ⟨_,_ | _ | _ | _ | _⟩ | _ | _ | _ | _
 ·exact Jv (xs:=[V.str "NAME",V.str "TEXT"]) h0 (by show 2<=5;decide) (.cons ⟨_,rfl⟩ (.cons ⟨_,rfl⟩ .nil)) H
 ·exact Jv (xs:=[V.str "NAME",V.str "TEXT"]) h2 (by show 2<=5;decide) (.cons ⟨_,rfl⟩ (.cons ⟨_,rfl⟩ .nil)) H
 ·exact Jv (xs:=[V.str "RULE",V.str "NUMBER"]) h6 (by show 2<=5;decide) (.cons ⟨_,rfl⟩ (.cons ⟨_,rfl⟩ .nil)) H
 ·exact Jv (xs:=[V.str "RULE",V.str "NUMBER"]) h7 (by show 2<=5;decide) (.cons ⟨_,rfl⟩ (.cons ⟨_,rfl⟩ .nil)) H
 ·exact Jv (xs:=[V.str "RULE",V.str "NUMBER"]) h8 (by show 2<=5;decide) (.cons ⟨_,rfl⟩ (.cons ⟨_,rfl⟩ .nil)) H
 ·exact Jv (xs:=[V.str "RULE",V.str "NUMBER",V.str "NUMBER"]) h9 (by show 3<=5;decide) (.cons ⟨_,rfl⟩ (.cons ⟨_,rfl⟩ (.cons ⟨_,rfl⟩ .nil))) H
 ·exact Jv (xs:=[V.str "RULE",V.str "NUMBER",V.str "NUMBER"]) h10 (by show 3<=5;decide) (.cons ⟨_,rfl⟩ (.cons ⟨_,rfl⟩ (.cons ⟨_,rfl⟩ .nil))) H
 ·exact Jv (xs:=[V.str "RULE"]) h11 (by show 1<=5;decide) (.cons ⟨_,rfl⟩ .nil) H
 ·exact Jv (xs:=[V.str "RULE",V.str "RULE",V.str "NUMBER"]) h12 (by show 3<=5;decide) (.cons ⟨_,rfl⟩ (.cons ⟨_,rfl⟩ (.cons ⟨_,rfl⟩ .nil))) H
 ·exact Jv (xs:=[V.str "RULE"]) h15 (by show 1<=5;decide) (.cons ⟨_,rfl⟩ .nil) H
 ·exact Jv (xs:=[V.str "RULE"]) h16 (by show 1<=5;decide) (.cons ⟨_,rfl⟩ .nil) H⟩
end Fw
namespace Fw
open PySem L2 PyProof.Rows
local macro_rules | `(tactic| symm)=> `(tactic| (repeat (first | fail "r" | ((with_reducible refine' Fw.K3 ?hc1 ?hc2 ?hc3 ?_);(case hc1=>assumption);(case hc2=>assumption);(case hc3=>decide)) | with_reducible refine Fw.ZP ?_)))
local macro_rules | `(tactic| exists $e)=> `(tactic| (refine $e;symm))
local macro_rules | `(tactic| walk_at"mm")=> `(tactic| (repeat (first | exact List.Mem.head _ | refine List.Mem.tail _ ?_)))
local macro_rules | `(tactic| walk_at"nw")=> `(tactic| (refine CK (by first | exact yF (by ac_rfl) | exact dN (by ac_rfl) | exact fun z=>absurd (V.str.inj z) (by ac_rfl)) ?_;symm))
local macro_rules | `(tactic| walk_at"ew")=> `(tactic| (refine Hc (by first | exact ws_eq _ | rfl) ?_;symm))
noncomputable def P:Program:=PySem.Challenge.rw_feastwheel_k96_whole_put_shorter.prog
theorem fill:(PySem.Challenge.rw_feastwheel_k96_whole_put_shorter.prog,Hd.K)=(PySem.Challenge.rw_feastwheel_k96_whole_put_shorter.prog,Hd.K):=by k_fill;rfl
structure Dt where
 (w:World) (mg:Str->Option Value) (b:Heap)
structure Gi(d:Dt):Prop where
 X:(Hd.K d.w.params).In d.b
 G:d.b.Ns mainGlobals d.mg
def Ok(d:Dt):Prop:=∀{f:Addr} {fd:FuncData},Fun (Hd.K d.w.params) "law" "law" dq f fd->Ei P d.w (Hd.K d.w.params) d.mg d.b CX0 136 f fd ["_law_script"] (dj (Hd.K d.w.params))
instance:Nonempty Dt:=⟨⟨⟨fun _ _=>0,⟨fun _=>0,fun _=>0,id,fun _=>0,fun _ _=>0,fun _=>true,fun _=>0,.refcount,.text,fun _=>0,fun _=>none,fun _=>true,fun _ _ _=>true,fun _ _ _=>true,true,fun _=>true,fun _=>none,fun _=>none,fun _ _ _=>0,fun _ _=>none,fun _=>none,fun _=>(0,true,""),fun _=>none,id,fun _=>true⟩⟩,fun _=>none,default⟩⟩
noncomputable def d0:Dt:=Classical.epsilon fun d=>Gi d/\¬Ok d
noncomputable def w:World:=d0.w
noncomputable def K:Fr:=Hd.K w.params
noncomputable def mg:Str->Option Value:=d0.mg
noncomputable def base:Heap:=d0.b
abbrev Aq:Addr:=549
abbrev Bk:Addr:=649
abbrev qz:Addr:=786
abbrev BJ:Addr:=978
abbrev WY:Addr:=999
abbrev kO:Addr:=1018
abbrev Pb:Addr:=1044
abbrev Jk:Addr:=1078
abbrev WW:Addr:=1097
abbrev Ur:Addr:=1116
abbrev Kq:Addr:=1135
abbrev aF:Addr:=1154
abbrev Kp:Addr:=1173
abbrev Le:Addr:=1192
abbrev Uj:Addr:=1211
abbrev Np:Addr:=1230
abbrev Uo:Addr:=1249
abbrev Uk:Addr:=1268
abbrev WX:Addr:=1287
abbrev Lf:Addr:=1306
abbrev BZ:Addr:=1340
abbrev Et:Addr:=1663
abbrev Fz:Tok:=1009
abbrev Yi:Tok:=1383
abbrev Yh:Tok:=1384
abbrev Jx:Tok:=1669
abbrev Jw:Tok:=1670
abbrev aV:Tok:=577
abbrev lR:Tok:=579
abbrev U4:Tok:=820
abbrev Oc:Tok:=816
abbrev U0:Tok:=818
abbrev RV:Tok:=932
abbrev Ob:Tok:=934
abbrev QX:Tok:=429
abbrev aW:Tok:=427
abbrev U3:Tok:=431
abbrev QZ:Tok:=425
abbrev aX:Tok:=423
abbrev Oa:Tok:=1994
abbrev Gx:Addr:=1309
abbrev QW:Tok:=1996
abbrev QV:Tok:=1997
abbrev QT:Tok:=1998
abbrev QS:Tok:=1999
abbrev QR:Tok:=2000
abbrev QQ:Tok:=2001
abbrev QM:Tok:=2002
abbrev QL:Tok:=2003
abbrev pZ:Addr:=1469
noncomputable def Zg:Nat->Addr:=fun i=>([1470,1471,1472,1473,1474,1475,1476,1477,1478,1479,1480,1481,1482,1483,1484,1485,1486,1488]:List Nat).getD i 0
abbrev cH:Addr:=1608
noncomputable def cG:Nat->Addr:=fun i=>([1495,1502,1509,1516,1530,1537,1544,1551,1558,1565,1579,1586,1593,1600,1607]:List Nat).getD i 0
abbrev jd:Addr:=385
abbrev jc:Addr:=392
class Giv:Prop where
 X:K.In base
 G:base.Ns mainGlobals mg
variable{f:Addr}{fd:FuncData}
section
variable[Giv]
theorem gX:K.In base:=Giv.X
theorem gG:base.Ns mainGlobals mg:=Giv.G
local macro_rules | `(tactic| walk_at"k")=> `(tactic| (delta K;first | k_is | kit_is | k_exc))
local macro_rules | `(tactic| walk_at"o")=> `(tactic| first | exact Or.inl rfl | exact Or.inr rfl)
local macro_rules | `(tactic| walk_at"s")=> `(tactic| exact⟨rfl,rfl,rfl,by ac_rfl,rfl,by ac_rfl,by ac_rfl⟩)
local macro_rules | `(tactic| walk_at"hr")=> `(tactic| exact Cv.mono (by assumption) (by first | decide | lia))
local macro_rules | `(tactic| walk_at"kk")=> `(tactic| first | walk_at"k" | (constructor<;>walk_at"kk"))
local macro_rules | `(tactic| walk_at"g")=> `(tactic| (delta K;refine' L2.qW ?_ ?_ ?_ ?_<;>first | k_is | skip))
local macro_rules | `(tactic| walk_at"h")=> `(tactic| (delta K;refine' L2.AAl ?_ ?_ ?_ ?_ ?_<;>first | k_is | skip))
local macro_rules | `(tactic| walk_at"dg")=> `(tactic| (delta K;refine' L2.vd ?_ ?_ ?_ ?_ ?_<;>first | k_is | skip))
local macro_rules | `(tactic| walk_at"dm")=> `(tactic| (delta K;refine' L2.vZ ?_ ?_ ?_ ?_ ?_ ?_<;>first | k_is | skip))
local macro_rules | `(tactic| walk_at"db")=> `(tactic| (delta K;refine' L2.vf ?_ ?_ ?_ ?_ ?_<;>first | k_is | skip))
local macro_rules | `(tactic| walk_at"b")=> `(tactic| (intro _ _ _ _ _ _ us hl;(first | obtain⟨_,h⟩:=L2.ADi hl | obtain⟨_,_,h⟩:=L2.ADh hl | obtain⟨_,_,_,h⟩:=L2.AAZ hl | obtain⟨_,_,_,_,h⟩:=L2.ACb hl | have h:us=[]:=jc2.mp hl | obtain⟨_,_,_,_,_,h⟩:=L2.AAX hl | obtain⟨_,_,_,_,_,_,h⟩:=L2.ADg hl | obtain⟨_,_,_,_,_,_,_,h⟩:=L2.ACa hl | obtain⟨_,_,_,_,_,_,_,_,h⟩:=L2.ADf hl);subst h;rfl))
theorem mgo{x:Str}{v:Value}(h:PySem.W.nsIn K mainGlobals x=some (some v)):mg x=some v:=jg1 gX gG h
abbrev C0(k:Nat)(x:Str)(ps:List Str)(sp:Sp):Prop:=Cal P w K mg base k x ps sp
abbrev CM0(k:Nat)(C:Addr)(x:Str)(ps:List Str)(sp:Sp):Prop:=rP P w K mg base CX0 k C x ps sp
abbrev CI0(k:Nat)(x:Str)(C:Addr)(ps:List Str)(sp:Sp):Prop:=lC P w K mg base CX0 k x C ps sp
abbrev F0(k:Nat)(f:Addr)(fd:FuncData)(ps:List Str)(sp:Sp):Prop:=Ei P w K mg base CX0 k f fd ps sp
noncomputable abbrev CL:List Addr:=[WY,kO,Pb,Jk,WW,Ur,Kq,aF,Kp,Le,Uj,Np,Uo,Uk,WX,Lf]
theorem BW:Cls K Aq:=by walk_at"kk"
theorem DG:Dr K Aq "base":=by walk_at"kk"
theorem CW:Dr K Aq "terms":=by walk_at"kk"
theorem Ec:Dr K Aq "full_count":=by walk_at"kk"
theorem Gg:Dr K Aq "full_sum":=by walk_at"kk"
theorem CP:Cls K Bk:=by walk_at"kk"
theorem Jr:Dr K Bk "start":=by walk_at"kk"
theorem JD:Dr K Bk "months":=by walk_at"kk"
theorem Hq:Dr K Bk "leap":=by walk_at"kk"
theorem Cg:Dr K Bk "years":=by walk_at"kk"
theorem Be:Cls K BZ:=by walk_at"kk"
theorem GF:Dr K BZ "words":=by walk_at"kk"
theorem Dp:Dr K BZ "place":=by walk_at"kk"
theorem Bm:Cls K Et:=by walk_at"kk"
theorem FT:Dr K Et "calendars":=by walk_at"kk"
theorem Gr:Dr K Et "rules":=by walk_at"kk"
theorem LK:Cls K WY:=by walk_at"kk"
theorem WP:RC K BJ WY:=by walk_at"kk"
theorem Nj:Cls K kO:=by walk_at"kk"
theorem Zk:RC K BJ kO:=by walk_at"kk"
theorem Je:Cls K Pb:=by walk_at"kk"
theorem Tj:RC K BJ Pb:=by walk_at"kk"
theorem Ie:Cls K Jk:=by walk_at"kk"
theorem QC:RC K BJ Jk:=by walk_at"kk"
theorem K8:Cls K WW:=by walk_at"kk"
theorem WM:RC K BJ WW:=by walk_at"kk"
theorem Jf:Cls K Ur:=by walk_at"kk"
theorem cR:RC K BJ Ur:=by walk_at"kk"
theorem Hg:Cls K Kq:=by walk_at"kk"
theorem X6:RC K BJ Kq:=by walk_at"kk"
theorem LC:Cls K aF:=by walk_at"kk"
theorem jg:RC K BJ aF:=by walk_at"kk"
theorem Hf:Cls K Kp:=by walk_at"kk"
theorem X5:RC K BJ Kp:=by walk_at"kk"
theorem Ia:Cls K Le:=by walk_at"kk"
theorem Pz:RC K BJ Le:=by walk_at"kk"
theorem Jb:Cls K Uj:=by walk_at"kk"
theorem cO:RC K BJ Uj:=by walk_at"kk"
theorem IW:Cls K Np:=by walk_at"kk"
theorem Zj:RC K BJ Np:=by walk_at"kk"
theorem Jd:Cls K Uo:=by walk_at"kk"
theorem cQ:RC K BJ Uo:=by walk_at"kk"
theorem Jc:Cls K Uk:=by walk_at"kk"
theorem cP:RC K BJ Uk:=by walk_at"kk"
theorem K9:Cls K WX:=by walk_at"kk"
theorem WN:RC K BJ WX:=by walk_at"kk"
theorem Ib:Cls K Lf:=by walk_at"kk"
theorem QB:RC K BJ Lf:=by walk_at"kk"
theorem Hv:mg "range"=none:=ke gX gG (by walk_at"k")
theorem DN:mg "len"=none:=ke gX gG (by walk_at"k")
theorem wk:mg "abs"=none:=ke gX gG (by walk_at"k")
theorem lE:mg "zip"=none:=ke gX gG (by walk_at"k")
theorem aM:mg "list"=none:=ke gX gG (by walk_at"k")
theorem lF:mg "sum"=none:=ke gX gG (by walk_at"k")
theorem lH:mg "all"=none:=ke gX gG (by walk_at"k")
theorem Wj:mg "tuple"=none:=ke gX gG (by walk_at"k")
theorem lG:mg "min"=none:=ke gX gG (by walk_at"k")
theorem ABc:mg "max"=none:=ke gX gG (by walk_at"k")
theorem GJ:mg "str"=none:=ke gX gG (by walk_at"k")
theorem JH:mg "isinstance"=none:=ke gX gG (by walk_at"k")
theorem wj:mg "int"=none:=ke gX gG (by walk_at"k")
theorem jN:mg "LONGEST"=some (.int 150000 aV):=mgo (by walk_at"k")
theorem IK:mg "PIECE"=some (.int 256 lR):=mgo (by walk_at"k")
theorem Xw:mg "GREATEST_N"=some (.int 1000 U4):=mgo (by walk_at"k")
theorem Qp:mg "GREATEST_BASE"=some (.int 20000 Oc):=mgo (by walk_at"k")
theorem Xu:mg "MOST_TERMS"=some (.int 6 U0):=mgo (by walk_at"k")
theorem Vh:mg "MOST_MONTHS"=some (.int 20 RV):=mgo (by walk_at"k")
theorem Qo:mg "LONGEST_MONTH"=some (.int 1000 Ob):=mgo (by walk_at"k")
theorem TQ:mg "MOST_LETTERS"=some (.int 8 QX):=mgo (by walk_at"k")
theorem jO:mg "LETTERS"=some (.str "abcdefghijklmnopqrstuvwxyz" aW):=mgo (by walk_at"k")
theorem Xv:mg "MOST_SIGNS"=some (.int 4000 U3):=mgo (by walk_at"k")
theorem TV:mg "MOST_FIGURES"=some (.int 60 QZ):=mgo (by walk_at"k")
theorem jP:mg "FIGURES"=some (.str "0123456789" aX):=mgo (by walk_at"k")
theorem Qn:mg "MOST_BRACKETS"=some (.int 40 Oa):=mgo (by walk_at"k")
theorem Xr:mg "PAIR_WORDS"=some (.ref Gx):=mgo (by walk_at"k")
theorem XM:∀H,SqT K H Gx [.str "and",.str "or",.str "but",.str "unlike",.str "upon",.str "until",.str "near",.str "till"]:=by
 have l:K.lookup Gx=some ⟨.type "tuple",none,.seq #[.str "and" QW,.str "or" QV,.str "but" QT,.str "unlike" QS,.str "upon" QR,.str "until" QQ,.str "near" QM,.str "till" QL] 0,#[]⟩:=by walk_at"k"
 exact fun H=>.inr ⟨_,_,_,l,rfl,rfl,(by show 8<=sizeLine;decide),(.cons ⟨_,rfl⟩ (.cons ⟨_,rfl⟩ (.cons ⟨_,rfl⟩ (.cons ⟨_,rfl⟩ (.cons ⟨_,rfl⟩ (.cons ⟨_,rfl⟩ (.cons ⟨_,rfl⟩ (.cons ⟨_,rfl⟩ .nil))))))))⟩
theorem Fy:rN P w K mg pZ Zg:=qT (a0:=1470) (a2:=1472) (a6:=1476) (a7:=1477) (a8:=1478) (a9:=1479) (a10:=1480) (a11:=1481) (a12:=1482) (a15:=1485) (a16:=1486) (mgo (by walk_at"k")) (L2.xW (a:=1469) (n:=18) [("calendar",2215,1470),("change",2219,1471),("rule",2225,1472),("date",2229,1473),("day",2233,1474),("move",2237,1475),("on",2242,1476),("next",2246,1477),("last",2250,1478),("nth",2254,1479),("count",2259,1480),("size",2264,1481),("same",2267,1482),("meet",2272,1483),("within",2277,1484),("shorter",2282,1485),("show",2285,1486),("almanac",2288,1488)] (by walk_at"k") ∅ rfl) rfl rfl rfl rfl rfl rfl rfl rfl rfl rfl rfl (by walk_at"k") (by walk_at"k") (by walk_at"k") (by walk_at"k") (by walk_at"k") (by walk_at"k") (by walk_at"k") (by walk_at"k") (by walk_at"k") (by walk_at"k") (by walk_at"k")
theorem CG:AEI P w K mg cH cG:=⟨mgo (by walk_at"k"),(L2.xW (a:=1608) (n:=15) [("date",2417,1495),("day",2418,1502),("move",2419,1509),("on",2420,1516),("next",2421,1530),("last",2422,1537),("nth",2423,1544),("count",2424,1551),("size",2425,1558),("same",2426,1565),("meet",2427,1579),("within",2428,1586),("shorter",2429,1593),("show",2430,1600),("almanac",2431,1607)] (by walk_at"k") ∅ rfl),mgo (by walk_at"k"),mgo (by walk_at"k"),mgo (by walk_at"k"),mgo (by walk_at"k"),mgo (by walk_at"k"),mgo (by walk_at"k"),mgo (by walk_at"k"),mgo (by walk_at"k"),mgo (by walk_at"k")⟩
theorem Iu:mg "either"=some (.ref jd):=mgo (by walk_at"k")
theorem Ye:mg "unlike"=some (.ref jc):=mgo (by walk_at"k")
theorem co{g n q st ps k sp}(Q:FnG K g n q st)(b:Gw n q st ps)(o:∀{f:Addr} {fd:FuncData},Fun K n q st f fd->F0 k f fd ps sp):C0 k g ps sp:=cV gX gG Q b o
theorem cm{g n q st ps k sp C CX}(Q:FnM K C g n q st)(b:Gw n q st ps)(o:∀{f:Addr} {fd:FuncData},Fun K n q st f fd->Ei P w K mg base CX k f fd ps sp):rP P w K mg base CX k C g ps sp:=wF Q b o
theorem ci{n q st ps k sp C CX x}(m:PySem.W.makesIn K C=true)(p:PySem.W.keepIn K (.ref C)=true)(e:PySem.W.nsIn K mainGlobals x=some (some (.ref C)))(Q:FnM K C "__init__" n q st)(b:Gw n q st ps)(o:∀{f:Addr} {fd:FuncData},Fun K n q st f fd->Ei P w K mg base CX k f fd ps sp):lC P w K mg base CX k x C ps sp:=wG gX gG m p e Q b o
theorem co'{g n q ps k sp}(N:List Str)(st:Stmt)(o:∀{f:Addr} {cdv:Value} {A:Around} {outer:List Env} {s:Shared} (nd:N.Nodup) (H:Hp) (vs:List V) (Q:VK) (E:XK),Cv k (A.deeper (envOfC q (Az st) s.heap.objs.size f cdv))->sp vs H Q E->∃t,PSs (Qs CX0 P w K mg base N q (Az st) f cdv A outer s H E).nox (Cz st) t/\t { nx:=fun _ H'=>Q .non H',rt:=Q } (start N vs) H)(len:∀{vs H Q E},sp vs H Q E->vs.length=ps.length:=by fail "l")(S:CZ N ps (Az st):=by walk_at"s")(Q:FnG K g n q st:=by walk_at"g")(b:Gw n q st ps:=by walk_at"b"):C0 (k+1) g ps sp:=co Q b fun F=>F.ok S len o
theorem cm'{g n q ps k sp C}(N:List Str)(st:Stmt)(o:∀{f:Addr} {cdv:Value} {A:Around} {outer:List Env} {s:Shared} (nd:N.Nodup) (H:Hp) (vs:List V) (Q:VK) (E:XK),Cv k (A.deeper (envOfC q (Az st) s.heap.objs.size f cdv))->sp vs H Q E->∃t,PSs (Qs CX0 P w K mg base N q (Az st) f cdv A outer s H E).nox (Cz st) t/\t { nx:=fun _ H'=>Q .non H',rt:=Q } (start N vs) H)(len:∀{vs H Q E},sp vs H Q E->vs.length=ps.length:=by fail "l")(S:CZ N ps (Az st):=by walk_at"s")(Q:FnM K C g n q st:=by walk_at"h")(b:Gw n q st ps:=by walk_at"b"):CM0 (k+1) C g ps sp:=cm Q b fun F=>F.ok S len o
theorem ci'{n q ps k sp C x}(N:List Str)(st:Stmt)(o:∀{f:Addr} {cdv:Value} {A:Around} {outer:List Env} {s:Shared} (nd:N.Nodup) (H:Hp) (vs:List V) (Q:VK) (E:XK),Cv k (A.deeper (envOfC q (Az st) s.heap.objs.size f cdv))->sp vs H Q E->∃t,PSs (Qs CX0 P w K mg base N q (Az st) f cdv A outer s H E).nox (Cz st) t/\t { nx:=fun _ H'=>Q .non H',rt:=Q } (start N vs) H)(len:∀{vs H Q E},sp vs H Q E->vs.length=ps.length:=by fail "l")(S:CZ N ps (Az st):=by walk_at"s")(m:PySem.W.makesIn K C=true:=by walk_at"k")(p:PySem.W.keepIn K (.ref C)=true:=by walk_at"k")(e:PySem.W.nsIn K mainGlobals x=some (some (.ref C)):=by walk_at"k")(Q:FnM K C "__init__" n q st:=by walk_at"h")(b:Gw n q st ps:=by walk_at"b"):CI0 (k+1) x C ps sp:=ci m p e Q b fun F=>F.ok S len o
theorem ADn{g n q ps k sp}(N:List Str)(st:Stmt)(len:∀{vs H Q E},sp vs H Q E->vs.length=ps.length)(o:∀{f:Addr} {cdv:Value} {A:Around} {outer:List Env} {s:Shared} (nd:N.Nodup) (H:Hp) (vs:List V) (Q:VK) (E:XK),Cv k (A.deeper (envOfC q (Az st) s.heap.objs.size f cdv))->sp vs H Q E->∃t,Vn (Qs CX0 P w K mg base N q (Az st) f cdv A outer s H E).nox (Cz st) t/\t { nx:=fun _ H'=>Q .non H',rt:=Q } (start N vs) H)(S:CZ N ps (Az st):=by walk_at"s")(Q:FnG K g n q st:=by walk_at"g")(b:Gw n q st ps:=by walk_at"b"):wZ P w K mg base (k+1) g ps sp:=wC gX gG Q b S len o
theorem Cj:C0 1 "refuse_below_one" ["number"] mV:=by
 refine co' ["number"] MJ fun nd H vs Q E hr h=>?_;obtain⟨n,rfl,hn,q⟩:=h;refine⟨_,(Ad (Ay (Aj Fp (pv 0) Ae (Al _)) (Ad Bd) Ao)),?_⟩
 symm;exists CK ⋯ ?_;exact q
theorem Dz:C0 1 "refuse_too_long" ["size"] gh:=by
 refine co' ["size"] Ms fun nd H vs Q E hr h=>?_;obtain⟨n,rfl,hn,q⟩:=h;refine⟨_,(Ad (Ay (Aj Ew (pv 0) (By rfl jN (DW _ _)) (Al _)) (Ad Bd) Ao)),?_⟩
 symm;exists CK ⋯ ?_;exact q
theorem dC:C0 1 "equation" ["one","other"] ADU:=by
 refine co' ["one","other","row","below","times","rest"] bL fun nd H vs Q E hr h=>?_;obtain⟨a,b,rfl,ha,hb,q⟩:=h;refine⟨_,(Ac (Ai 2 (BK (Aa Ae (Aa Ae (Aa (pv 0) Ab))))) (Ac (Ai 3 (BK (Aa Ae (Aa Ae (Aa (pv 1) Ab))))) (Ac (Fo PassesOwn.never (Aj FQ (pxT 3) Ae (Al _)) (Ac (Ai 4 (Ag pD (pxT 2) (pxT 3))) (Ac (Ai 5 (BK (Aa (Ag Cy (pxT 2) (Ag Cd (pv 4) (pxT 3))) (Aa (Ag Cy (pxT 2) (Ag Cd (pv 4) (pxT 3))) (Aa (Ag Cy (pxT 2) (Ag Cd (pv 4) (pxT 3))) Ab))))) (Ac (Ai 2 (pv 3)) (Ad (Ai 3 (pv 5))))))) (Ac (Ay (Aj Fp (pxT 2) Ae (Al _)) (Ad (Ak (BK (Aa (HQ Ff (pxT 2)) (Aa (HQ Ff (pxT 2)) (Aa (HQ Ff (pxT 2)) Ab)))))) Ao) (Ad (Ak (pv 2))))))),?_⟩
 symm;exists⟨three,fun p1 hp1=>?_⟩;exists⟨three,fun p2 hp2=>?_⟩;have n12:p1≠p2:=fun z=>by rw[<-z,Am] at hp2;cases hp2
 refine⟨fun m Z' H'=>∃(pr pb:Addr) (u v r u' v' r':Int) (t1 t2:Option V),Z'=[some (.int a),some (.int b),some (.ref pr),some (.ref pb),t1,t2]/\Aw H H'/\
  H' pr=some (.tup [.int u,.int v,.int r])/\H' pb=some (.tup [.int u',.int v',.int r'])/\EqI a b u v r u' v' r'/\m=r'.natAbs,
  ⟨_,p1,p2,1,0,a,0,1,b,none,none,rfl,(Av hp1 _).trans (Av hp2 _),by rw[Ax n12];exact Am,Am,EqI.start a b,rfl⟩,?_⟩
 rintro m Z' H' ⟨pr,pb,u,v,r,u',v',r',t1,t2,rfl,sm,hpr,hpb,I,rfl⟩;have B:=I.bounds;have br:=AAz (m:=510) ha hb (show r.natAbs<=a.natAbs+b.natAbs+4 by lia) nofun;have br':=gK (m:=510) hb (show r'.natAbs<=4*b.natAbs+4 by lia) nofun;have bu':=gK (m:=510) hb (show u'.natAbs<=4*b.natAbs+4 by lia) nofun;have bv':=gK (m:=510) ha (show v'.natAbs<=4*a.natAbs+4 by lia) nofun;symm;exists An (SqT.of hpb) aH ?_;by_cases hz:r'=0
 ·subst hz;refine GK rfl ?_;have D:=I.done;symm;exists An (SqT.of hpr) aH ?_;refine Bs (fun c=>?_) (fun c=>?_)
  ·symm;exists An (SqT.of hpr) ABM ?_;exists An (SqT.of hpr) ABL ?_;exists An (SqT.of hpr) aH ?_;refine⟨three,fun p hp=>?_⟩;exact q p _ _ _ _ (sm.trans (Av hp _)) Am (D.1 c)
  ·symm;exact q pr _ _ _ _ sm hpr (D.2 c)
 ·refine qI (fun z=>hz (V.int.inj z)) ?_;refine⟨_,fun Z' H' hh=>hh,?_⟩;have St:=I.step hz;have bq:=gK (m:=520) br (show (r.fdiv r').natAbs<=4*r.natAbs+4 by have:=bU (r:=r) hz;lia) nofun;symm;exists An (SqT.of hpr) aH ?_;refine An (SqT.of hpb) aH ?_;exists Dj ⟨hz,br'.mono nofun⟩ ?_;exists An (SqT.of hpr) ABM ?_;refine An (SqT.of hpb) ABM ?_;exists Dj ⟨520,510,bq,bu',nofun⟩ ?_;exists An (SqT.of hpr) ABL ?_;refine An (SqT.of hpb) ABL ?_;exists Dj ⟨520,510,bq,bv',nofun⟩ ?_;exists An (SqT.of hpr) aH ?_;refine An (SqT.of hpb) aH ?_;exists Dj ⟨520,510,bq,br',nofun⟩ ?_;exists⟨three,fun p hp=>?_⟩;exact⟨_,St.2,pb,p,u',v',r',_,_,_,_,_,rfl,sm.trans (Av hp _),(Av hp _) _ _ hpb,Am,St.1,rfl⟩
theorem kJ:C0 2 "divisor" ["one","other"] iD:=by
 refine co' ["one","other"] iZ fun nd H vs Q E hr h=>?_;obtain⟨a,b,rfl,ha,hb,q⟩:=h;exists⟨_,(Ad (Ak (CQ Hn (Af dC (Aa (pv 0) (Aa (pv 1) Ab))) Ae (fun _ _=>rfl)))),?_⟩;exists⟨a,b,rfl,ha,hb,fun p u v g H' sm hp e=>?_⟩;refine An (SqT.of hp) aH ?_;rw[e.gd];exact q _ sm
theorem Uh:C0 3 "common" ["one","other"] nD:=by
 refine co' ["one","other"] nU fun nd H vs Q E hr h=>?_;obtain⟨a,b,rfl,a0,b0,ha,hb,q⟩:=h;refine⟨_,(Ac (BV (Af Cj (Aa (pv 0) Ab))) (Ac (BV (Af Cj (Aa (pv 1) Ab))) (Ad (Ak (Ag Cd (Ag Bp (pv 0) (Af kJ (Aa (pv 0) (Aa (pv 1) Ab)))) (pv 1)))))),?_⟩
 symm;exists⟨a,rfl,⋯,?_⟩;exists⟨b,rfl,⋯,?_⟩;refine⟨a,b,rfl,ha,hb,fun H' sm=>?_⟩;have g0:=RN (b:=b) a0;have g1:=qP (b:=b) a0;exists Dj ⟨g0,(ha.le (x:=(Int.gcd a b:Int)) ⋯).mono nofun⟩ ?_;have d0:0<=a/(Int.gcd a b:Int):=jl3 ⋯ ⋯;have d1:a/(Int.gcd a b:Int)<=a:=jj9 _ ⋯;refine Dj ⟨500,500,ha.le ⋯,hb,nofun⟩ ?_;exact q _ sm
theorem Jg:C0 2 "round_by" ["size","days"] (gn K):=by
 refine co' ["size","days","pieces","day","bits","number","place"] aq fun nd H vs Q E hr h=>?_;obtain⟨a,ds,n,rfl,hS,n0,n1,fin⟩:=h;refine⟨_,(Ac (BV (Af Cj (Aa (pv 0) Ab)))
  (Ac (BV (Af Dz (Aa (pv 0) Ab)))
  (Ac (Ai 2 (Ag bc (Eb (Aa Ae Ab)) (Ag Bl (Ag Bp (pv 0) (By rfl IK (DW _ _))) Ae)))
  (Ac (Ge PassesOwn.never rfl (Fx (pv 1)) (DX (i:=3) nd rfl (by walk_at"o"))
   (Ac (Ai 6 (Ag Bv (pv 3) (pv 0)))
  (Ad (oM (Ag Zb (CQ Ce (pv 2) (Ag Bp (pv 6) (By rfl IK (DW _ _))) (fun _ _=>rfl)) (Ag NT Ae (Ag Bv (pv 6) (By rfl IK (DW _ _))))) (oW (pv 2) (Ag Bp (pv 6) (By rfl IK (DW _ _))) set_list)))))
  (Ac (Ai 4 Ae)
  (Ac (Ge PassesOwn.never rfl (O2 rfl Hv (Aa (BL BR rfl DN xh (Aa (pv 2) Ab)) Ab)) (DX (i:=5) nd rfl (by walk_at"o"))
   (Ad (Ai 4 (Ag Zb (pv 4) (Ag NT (CQ Ce (pv 2) (pv 5) (fun _ _=>rfl)) (Ag Cd (pv 5) (By rfl IK (DW _ _))))))))
  (Ad (Ak (BK (Aa (pv 0) (Aa (pv 4) Ab))))))))))),?_⟩
 symm;exists⟨n,rfl,⋯,?_⟩;exists⟨n,rfl,n1,?_⟩;refine⟨(by show 1<=sizeLine;decide),fun l0 hl0=>?_⟩;symm;refine bO Am ⋯ ⋯ (by show 1*_<=sizeLine;unfold sizeLine;lia) (fun l hl=>?_);have s0:=Av hl0 (.lst [.int 0]);have s1:=s0.trans (Av hl (.lst (List.replicate (n/256+1).toNat [V.int 0]).flatten));have t1:upd (upd H l0 (.lst [.int 0])) l (.lst (List.replicate (n/256+1).toNat [V.int 0]).flatten) l=some (.lst (S5 0 (n/256+1).toNat)):=by rw[Am,jA]
 have hl':H l=none:=s0.free hl;generalize upd (upd H l0 (.lst [.int 0])) l (.lst (List.replicate (n/256+1).toNat [V.int 0]).flatten)=H1 at s1 t1 ⊢;generalize hk:(n/256+1).toNat=k at t1;symm;refine⟨a,rfl,⟨_,s1.seq hS⟩,JC (xs:=ds.map V.int) (fun i Z' H'=>Aw H H'/\Ex3 fun(b:Nat) (c c':Option V)=>An3 (H' l=some (.lst (S5 b k))) (Z'=[some (.int n),some (.ref a),some (.ref l),c,none,none,c']) (RB n (ds.take i) b)) ⟨s1,0,none,none,t1,rfl,?_⟩ ?_ ?_ ?_⟩
 ·simpa using RB.nil n
 ·rintro i Z' H' _ ⟨s,_⟩;exact s.seq hS
 ·rintro i x Z' H' hx ⟨s,b,c,c',t,rfl,B⟩;rw[qq] at hx;obtain⟨d,hd,rfl⟩:=ui.mp hx;have m0:=ze d (show n≠0 by lia);have m1:=qo d (show 0<n by lia);symm;have B':=B.snoc (x:=d) ⋯;obtain⟨p,hp⟩:∃p:Nat,d%n=(p:Int):=⟨(d%n).toNat,⋯⟩;rw[hp,zh] at B';rw[hp] at m1 ⊢;have e1:(p:Int)/256=((p/256:Nat):Int):=⋯
  have e2:(p:Int)%256=((p%256:Nat):Int):=⋯;rw[e1];have pk:p/256<k:=⋯;exists BP (SqL.of t) (DY (NK pk)) ?_;rw[e2];exists Dj ⟨⋯,1,bt1,⋯⟩ ?_;rw[zh,oN,Gv]
  try rw[e1]
  refine eE t (by rw[M9];exact pk) ?_;rw[o8 pk];refine⟨Eo hl' s,_,_,_,Am,rfl,?_⟩;rw[ja0,hd];exact B'
 ·rintro Z' H2 ⟨s2,b,c,c',t2,rfl,B⟩;rw[jp,jb7] at B;symm;walk_at"f";symm;exists⟨l,_,rfl,.inl (SqL.of t2),?_⟩;rw[M9];refine⟨(k:Int),rfl,⋯,⋯,WL (n:=((k:Int)).toNat) (fun i Z' H'=>H'=H2/\∃(c1:Option V),Z'=[some (.int n),some (.ref a),some (.ref l),c,some (.int ((b%2^(256*i):Nat):Int)),c1,c']/\i<=k) ⟨rfl,none,?_,⋯⟩ ?_ ?_⟩
  ·rw[jr2,Nat.pow_zero,Nat.mod_one];rfl
  ·rintro i Z' H' hi ⟨rfl,c1,rfl,_⟩;have ik:i<k:=⋯
   symm;rw[jv1];exists BP (SqL.of t2) (DY (NK ik)) ?_;refine Dj ⟨20,10,Ir ⋯,(by unfold Bt;decide),nofun⟩ ?_;symm;exists Dj ⟨⋯,256,Ir (ACW _ _),⋯⟩ ?_;rw[show ((i:Int)*256).toNat=256*i by lia,Rk,Gv,ux];exact⟨rfl,_,rfl,⋯⟩
  ·rintro Z' H' ⟨rfl,c1,rfl,_⟩;symm;have e:256*((k:Int)).toNat=256*(n/256+1).toNat:=⋯
   rw[e,uW ⋯ B.lt];refine⟨Ij,fun p hp=>?_⟩;exact fin p b _ (s2.trans (Av hp _)) Am B
theorem EY:C0 1 "full_bits" ["size"] zG:=by
 refine co' ["size"] ZJ fun nd H vs Q E hr h=>?_;obtain⟨n,rfl,h0,h1,q⟩:=h;exists⟨_,(Ad (Ak (Ag Cy (Ag NT Ae (pv 0)) Ae))),?_⟩;refine Dj ⟨h0,1,(by unfold Bt;decide),⋯⟩ ?_;symm;rw[je];exact q
theorem PL:C0 2 "days_in" ["turn"] (nA K):=by
 refine co' ["turn","days","first","piece"] ie fun nd H vs Q E hr h=>?_;obtain⟨a,n,b,rfl,hS,h0,h1,hb,q⟩:=h;refine⟨_,(Ac (Ai 1 (Eb Ab))
  (Ac (Ge PassesOwn.never rfl (O1 rfl Hv (Aa Ae (Aa (pxT 0) (Aa (By rfl IK (DW _ _)) Ab)))) (DX (i:=2) nd rfl (by walk_at"o"))
   (Ac (Ai 3 (Ag Gn (Ag J8 (pxT 0) (pv 2)) (Af EY (Aa (By rfl IK (DW _ _)) Ab))))
  (Ad (Dm (Ay (Aj Ew (pv 3) Ae (Al _))
   (Ad (BV (FP ve ja2 ja3 Gp (pv 1) (Aa (FZ rfl (Em ["turn","days","first","piece"] ["turn","days","first","piece"] rfl rfl (by with_unfolding_all rfl) ∅ rfl ∅ rfl ∅ (by walk_at"fm") (by with_unfolding_all rfl) (by with_unfolding_all rfl)) (O2 rfl Hv (Aa (By rfl IK (DW _ _)) Ab)) (fun _ _ _ _=>(My (zj (Ag Gn (Ag J8 (pv 4) (pv 0)) Ae) (fun _=>rfl)))) (fun _ _ _ _=>(Ag Bl (pv 3) (pv 0)))) Ab))))
   Ao)))))
  (Ad (Ak (pv 1))))),?_⟩
 symm;refine⟨(by show 0<=sizeLine;decide),fun l hl=>?_⟩;refine fresh hl fun H1 s1 t1=>?_;have t1:H1 l=some (.lst ((dli b (256*0)).map V.int)):=t1;have hS1:=s1.tup hS;symm;walk_at"f";symm;exists An hS1 at0 ?_;refine⟨0,n,256,rfl,nofun,nofun,JL nofun nofun ⋯ ⋯ nofun nofun,((n-1)/256+1).toNat,?_,?_⟩
 ·rw[HW nofun,xz h0,show n-0-1=n-1 by lia];lia
 refine Ma (fun i Z' H'=>An3 (Aw H H') (H' l=some (.lst ((dli b (256*i)).map V.int))) (Ex2 fun(c c':Option V)=>Z'=[some (.ref a),some (.ref l),c,c']/\i<=700)) ⟨s1,t1,none,none,rfl,nofun⟩ ?_ ?_
 ·rintro i Z' H2 hi ⟨s2,t2,c,c',rfl,_⟩;have hS2:=s2.tup hS;have i1:i<700:=⋯
  rw[show (0:Int)+(i:Int)*256=((256*i:Nat):Int) by lia];generalize hm:256*i=m at*
  symm;exists An hS2 at1 ?_;exists Dj (show (0:Int)<=(m:Int) by lia) ?_;exists⟨256,rfl,nofun,nofun,?_⟩;rw[zh,GZ,Cu,jn9,yi,show(256:Int).toNat=256 from rfl];exists De (fun Z' H'=>An3 (Aw H H') (H' l=some (.lst ((dli b (256*(i+1))).map V.int))) (Ex2 fun(c c':Option V)=>Z'=[some (.ref a),some (.ref l),c,c']/\i+1<=700)) ?_ (fun Z' H' h=>h);refine Bs (fun _=>?_) (fun p0=>?_)
  rotate_left
  ·symm;refine⟨s2,?_,_,_,rfl,⋯⟩;rw[t2,show 256*(i+1)=m+256 by lia,<-Zn];have:((((List.range 256).map fun i=>V.int (0+(i:Nat)))).filter fun v=>match v with | .int d=>b.testBit (m+d.toNat) | _=>false)=[]:=by
    rw[List.filter_eq_nil_iff];intro v hv;obtain⟨j,hj,rfl⟩:=yy.mp hv;have hj':j<256:=jh8.mp hj;show ¬b.testBit (m+(0+(j:Int)).toNat)=true;rw[show (0+(j:Int)).toNat=j by lia];have e:(b/2^m%2^256).testBit j=b.testBit (m+j):=by
     rw[jc4,<-yi,kq,decide_eq_true hj',Bool.true_and]
    rw[<-e,show b/2^m%2^256=0 by lia,jc7];exact zk
   rw[this,jr0,ya]
  symm;exists J5 rfl t2 ?_;exists Gd (XX ?_);refine⟨256,rfl,nofun,nofun,?_⟩;refine Ig yH ?_ (fun _ _ _=>trivial) (fun v=>match v with | .int d=>b.testBit (m+d.toNat) | _=>false) (fun v=>match v with | .int d=>V.int ((m:Int)+d) | _=>.non) (fun x hx D ys Q' hD h=>?_) (fun x hx _ D ys Q' hD h=>?_) (fun D hD=>?_)
  ·rw[jp,je7];exact Er nofun
  ·obtain⟨j,hj,rfl⟩:=yy.mp hx;have hj':j<256:=jh8.mp hj;symm;exists Dj (show (0:Int)<=0+(j:Int) by lia) ?_;rw[show (0+(j:Int)).toNat=j by lia,iz,decide_eq_true hj',Bool.true_and];replace h:Q' (b.testBit (m+(0+(j:Int)).toNat)) _:=h;rw[show (0+(j:Int)).toNat=j by lia] at h;exact h
  ·obtain⟨j,hj,rfl⟩:=yy.mp hx;symm;exact h
  have s3:=Av hD (.lst ((((List.range (Int.toNat 256)).map fun i=>V.int (0+(i:Nat))).filter fun v=>match v with | .int d=>b.testBit (m+d.toNat) | _=>false).map fun v=>match v with | .int d=>V.int ((m:Int)+d) | _=>.non))
  symm;refine⟨l,D,_,_,rfl,rfl,s3 _ _ t2,Am,?_,?_⟩
  ·rw[jp,jp];refine qr (jw4 (YB _ _) (jb9 _ _)) ?_;rw[jp,je7];exact qr (show m+Int.toNat 256<=200000 by have:Int.toNat 256=256:=rfl;lia) nofun
  symm;refine⟨Eo hl (s2.trans s3),?_,_,_,rfl,⋯⟩;rw[Am,show Int.toNat 256=256 from rfl,Zn,show 256*(i+1)=m+256 by lia]
 ·rintro Z' H2 ⟨s2,t2,c,c',rfl,_⟩;symm;refine q l _ hl s2 ?_;rw[t2];unfold dli;obtain⟨k,hk⟩:∃k,256*((n-1)/256+1).toNat=n.toNat+k:=⟨256*((n-1)/256+1).toNat-n.toNat,⋯⟩;rw[hk,vo hb]
theorem GP:C0 2 "bits_by" ["turn","size"] (iG K):=by
 refine co' ["turn","size","bits","width"] ig fun nd H vs Q E hr h=>?_;obtain⟨a,n,z,b,rfl,hS,h0,h1,hb,z0,z1,q⟩:=h;refine⟨_,(Ac (Ai 2 (pxT 0)) (Ac (Ai 3 (pxT 0)) (Ac (Fo PassesOwn.never (Aj Fp (pv 3) (pv 1) (Al _)) (Ac (Ai 2 (Ag Zb (pv 2) (Ag NT (pv 2) (pv 3)))) (Ad (Ai 3 (Ag Cd (pv 3) Ae))))) (Ad (Ak (Ag Gn (pv 2) (Af EY (Aa (pv 1) Ab)))))))),?_⟩
 symm;exists An hS at1 ?_;exists An hS at0 ?_;refine⟨fun m Z' H'=>H'=H/\∃wd c:Nat,Z'=[some (.ref a),some (.int z),some (.int (c:Int)),some (.int (wd:Int))]/\n.toNat∣wd/\0<wd/\wd<=300000/\Ek n.toNat b wd c/\m=z.toNat-wd,
  ⟨_,rfl,n.toNat,b,?_,jv6 _,⋯,⋯,Ek.start hb,rfl⟩,?_⟩
 ·have e:((n.toNat:Nat):Int)=n:=⋯
  rw[e]<;>rfl
 rintro m Z' H' ⟨rfl,wd,c,rfl,hd,w0,w1,S,rfl⟩;symm;refine Bs (fun cc=>?_) (fun cc=>?_)
 ·exists⟨_,fun Z' H' hh=>hh,?_⟩;exists Dj ⟨⋯,wd,Ir S.lt,⋯⟩ ?_;refine Dj ⟨20,2,Ir ⋯,(by unfold Bt;decide),nofun⟩ ?_;symm;rw[zh,Rk,Gv];refine⟨z.toNat-wd*2,⋯,rfl,wd*2,c ||| (c <<< wd),?_,jl9 hd (Nat.dvd_mul_right _ _),⋯,⋯,S.dbl hd,rfl⟩;rfl
 ·symm;exists⟨z,rfl,⋯,⋯,?_⟩;rw[Cu];exact q _ (S.cut ⋯)
theorem Dy:C0 3 "stretched" ["turn","size"] (Pk K):=by
 refine co' ["turn","size"] Yx fun nd H vs Q E hr h=>?_;obtain⟨a,n,z,b,rfl,hS,h0,h1,hb,z0,z1,hd,q⟩:=h;refine⟨_,(Ac (BV (Af Cj (Aa (pv 1) Ab))) (Ac (Ay (Aj FQ (Ag Bv (pv 1) (pxT 0)) Ae (Al _)) (Ad Bd) Ao) (Ac (BV (Af Dz (Aa (pv 1) Ab))) (Ad (Ak (BK (Aa (pv 1) (Aa (Af GP (Aa (pv 0) (Aa (pv 1) Ab))) Ab)))))))),?_⟩
 symm;exists⟨z,rfl,⋯,?_⟩;refine An hS at0 ?_;exists Dj h0 ?_;rw[Int.emod_eq_zero_of_dvd hd];exists GK rfl ?_;exists⟨z,rfl,z1,?_⟩;exists⟨a,n,z,b,rfl,hS,h0,⋯,hb,z0,z1,fun c S=>?_⟩;exact⟨(by show 2<=sizeLine;decide),fun p hp=>q p c hp S⟩
theorem Ed:C0 4 "common_size" ["one","other"] (ADV K):=by
 refine co' ["one","other","size"] VN fun nd H vs Q E hr h=>?_;obtain⟨a1,a2,n1,n2,b1,b2,rfl,S1,S2,p1,p2,l1,l2,lz,q⟩:=h;refine⟨_,(Ac (Ai 2 (Af Uh (Aa (pxT 0) (Aa (pxT 1) Ab)))) (Ac (BV (Af Dz (Aa (pv 2) Ab))) (Ad (Ak (pv 2))))),?_⟩
 symm;exists An S1 at0 ?_;exists An S2 at0 ?_;exists⟨n1,n2,rfl,p1,p2,Ca ⋯ ⋯ nofun,Ca ⋯ ⋯ nofun,fun H1 s1=>?_⟩;exists⟨_,rfl,lz,?_⟩;exact q _ s1
theorem Km:C0 5 "both" ["one","other"] (spJ K (Bo and)):=by
 refine co' ["one","other","size"] zU fun nd H vs Q E hr h=>?_;obtain⟨a1,a2,n1,n2,b1,b2,rfl,W,lz,q⟩:=h;have fl:=Bx W.p1 W.p2;have l1:=W.l1;have l2:=W.l2;refine⟨_,(Ac (Ai 2 (Af Ed (Aa (pv 0) (Aa (pv 1) Ab)))) (Ad (Ak (BK (Aa (pv 2) (Aa (Ag Gn (Af GP (Aa (pv 0) (Aa (pv 2) Ab))) (Af GP (Aa (pv 1) (Aa (pv 2) Ab)))) Ab)))))),?_⟩
 symm;exists⟨a1,a2,n1,n2,b1,b2,rfl,W.s1,W.s2,W.p1,W.p2,W.l1,W.l2,lz,fun H1 s1=>?_⟩;exists⟨a1,n1,_,b1,rfl,s1.tup W.s1,W.p1,⋯,W.k1,fl.1,lz,fun c1 T1=>?_⟩;exists⟨a2,n2,_,b2,rfl,s1.tup W.s2,W.p2,⋯,W.k2,fl.1,lz,fun c2 T2=>?_⟩;rw[Cu];refine⟨Ij,fun p hp=>?_⟩;have l:c1 &&& c2<2^(Cm n1 n2).toNat:=Nat.and_lt_two_pow _ T2.lt;exact q p _ _ (s1.trans (Av hp _)) Am l ⟨l,fun i hi=>by rw[ja5,T1.bit i hi,T2.bit i hi]⟩
theorem Ue:C0 5 "either" ["one","other"] (spJ K (Bo or)):=by
 refine co' ["one","other","size"] nQ fun nd H vs Q E hr h=>?_;obtain⟨a1,a2,n1,n2,b1,b2,rfl,W,lz,q⟩:=h;have fl:=Bx W.p1 W.p2;have l1:=W.l1;have l2:=W.l2;refine⟨_,(Ac (Ai 2 (Af Ed (Aa (pv 0) (Aa (pv 1) Ab)))) (Ad (Ak (BK (Aa (pv 2) (Aa (Ag Zb (Af GP (Aa (pv 0) (Aa (pv 2) Ab))) (Af GP (Aa (pv 1) (Aa (pv 2) Ab)))) Ab)))))),?_⟩
 symm;exists⟨a1,a2,n1,n2,b1,b2,rfl,W.s1,W.s2,W.p1,W.p2,W.l1,W.l2,lz,fun H1 s1=>?_⟩;exists⟨a1,n1,_,b1,rfl,s1.tup W.s1,W.p1,⋯,W.k1,fl.1,lz,fun c1 T1=>?_⟩;exists⟨a2,n2,_,b2,rfl,s1.tup W.s2,W.p2,⋯,W.k2,fl.1,lz,fun c2 T2=>?_⟩;rw[Gv];refine⟨Ij,fun p hp=>?_⟩;have l:=js5 T1.lt T2.lt;exact q p _ _ (s1.trans (Av hp _)) Am l ⟨l,fun i hi=>by rw[jd4,T1.bit i hi,T2.bit i hi]⟩
theorem Zv:C0 5 "unlike" ["one","other"] (spJ K (Bo xor)):=by
 refine co' ["one","other","size"] nO fun nd H vs Q E hr h=>?_;obtain⟨a1,a2,n1,n2,b1,b2,rfl,W,lz,q⟩:=h;have fl:=Bx W.p1 W.p2;have l1:=W.l1;have l2:=W.l2;refine⟨_,(Ac (Ai 2 (Af Ed (Aa (pv 0) (Aa (pv 1) Ab)))) (Ad (Ak (BK (Aa (pv 2) (Aa (Ag pC (Af GP (Aa (pv 0) (Aa (pv 2) Ab))) (Af GP (Aa (pv 1) (Aa (pv 2) Ab)))) Ab)))))),?_⟩
 symm;exists⟨a1,a2,n1,n2,b1,b2,rfl,W.s1,W.s2,W.p1,W.p2,W.l1,W.l2,lz,fun H1 s1=>?_⟩;exists⟨a1,n1,_,b1,rfl,s1.tup W.s1,W.p1,⋯,W.k1,fl.1,lz,fun c1 T1=>?_⟩;exists⟨a2,n2,_,b2,rfl,s1.tup W.s2,W.p2,⋯,W.k2,fl.1,lz,fun c2 T2=>?_⟩;rw[Ut];refine⟨Ij,fun p hp=>?_⟩;have l:=Nat.xor_lt_two_pow T1.lt T2.lt;exact q p _ _ (s1.trans (Av hp _)) Am l ⟨l,fun i hi=>by rw[jq1,T1.bit i hi,T2.bit i hi]⟩
theorem Jh:C0 2 "other_days" ["turn"] (tO K):=by
 refine co' ["turn"] XC fun nd H vs Q E hr h=>?_;obtain⟨a,n,b,rfl,S,n0,n1,hb,q⟩:=h;exists⟨_,(Ad (Ak (BK (Aa (pxT 0) (Aa (Ag pC (pxT 0) (Af EY (Aa (pxT 0) Ab))) Ab))))),?_⟩;exists An S at0 ?_;exists An S at1 ?_;exists An S at0 ?_;exists⟨n,rfl,⋯,⋯,?_⟩;rw[Ut];refine⟨Ij,fun p hp=>q p _ hp ?_ fun i hi=>?_⟩
 ·exact Nat.xor_lt_two_pow hb (by have:=ka n.toNat;lia)
 ·rw[jq1,je9];simp[hi]
theorem O9:C0 6 "without" ["one","other"] (spJ K (Bo bn)):=by
 refine co' ["one","other"] iK fun nd H vs Q E hr h=>?_;obtain⟨a1,a2,n1,n2,b1,b2,rfl,W,lz,q⟩:=h;exists⟨_,(Ad (Ak (Af Km (Aa (pv 0) (Aa (Af Jh (Aa (pv 1) Ab)) Ab))))),?_⟩;exists⟨a2,n2,b2,rfl,W.s2,W.p2,W.l2,W.k2,fun p c hp hc hbit=>?_⟩;refine⟨a1,p,n1,n2,b1,c,rfl,⟨(Av hp _).tup W.s1,SqT.of Am,W.p1,W.p2,W.l1,W.l2,W.k1,hc⟩,lz,fun p3 c3 H3 s3 hp3 lt B=>?_⟩;have:=W.p2;exact q p3 c3 H3 ((Av hp _).trans s3) hp3 lt ⟨lt,fun i hi=>by rw[B.bit i hi,hbit _ (jn2 _ ⋯)];rfl⟩
theorem Ih:C0 2 "later" ["turn","number"] (tZ K):=by
 refine co' ["turn","number","shift","bits"] uM fun nd H vs Q E hr h=>?_;obtain⟨a,n,num,b,rfl,hS,h0,h1,hb,q⟩:=h;refine⟨_,(Ac (Ai 2 (Ag Bv (pv 1) (pxT 0))) (Ac (Ai 3 (Ag Zb (Ag NT (pxT 0) (pv 2)) (Ag J8 (pxT 0) (Ag Cy (pxT 0) (pv 2))))) (Ad (Ak (BK (Aa (pxT 0) (Aa (Ag Gn (pv 3) (Af EY (Aa (pxT 0) Ab))) Ab))))))),?_⟩
 have m0:=ze num (show n≠0 by lia);have m1:=qo num h0;symm;refine An hS at0 ?_;exists Dj h0 ?_;exists An hS at1 ?_;exists Dj ⟨m0,n.toNat,Ir hb,⋯⟩ ?_;exists An hS at1 ?_;exists An hS at0 ?_;exists Dj (show (0:Int)<=n-num%n by lia) ?_;exists An hS at0 ?_;exists An hS at0 ?_;exists⟨n,rfl,⋯,⋯,?_⟩;have e:(n-num%n).toNat=n.toNat-(num%n).toNat:=⋯;rw[Rk,GZ,Gv,Cu,e];refine⟨(by show 2<=sizeLine;decide),fun p hp=>?_⟩;exact q p hp
theorem Ld:C0 3 "ones_in" ["bits"] yj:=by
 refine co' ["bits","fields","width","each_second"] iT fun nd H vs Q E hr h=>?_;obtain⟨b,n,rfl,hb,hn,q⟩:=h;refine⟨_,(Ac (Ai 1 (pv 0)) (Ac (Ai 2 Ae) (Ac (Fo PassesOwn.never (Aj Ew (Ag J8 (pv 1) (pv 2)) Ae (Al _)) (Ac (Ai 3 (Af GP (Aa (BK (Aa (Ag Cd Ae (pv 2)) (Aa (Af EY (Aa (pv 2) Ab)) Ab))) (Aa (Xg jh9 jf0 jf1 RL (pv 1)) Ab)))) (Ac (Ai 1 (Ag Bl (Ag Gn (pv 1) (pv 3)) (Ag Gn (Ag J8 (pv 1) (pv 2)) (pv 3)))) (Ad (Ai 2 (Ag Cd Ae (pv 2))))))) (Ad (Ak (pv 1)))))),?_⟩
 symm;refine⟨fun m Z' H'=>Aw H H'/\∃f w:Nat,∃x:Option V,Z'=[some (.int (b:Int)),some (.int (f:Int)),some (.int (w:Int)),x]/\0<w/\w<=300000/\f<2^n/\Dg w f (cnt b n)/\m=n-w,
  ⟨_,Aw.refl _,b,1,none,rfl,nofun,nofun,hb,Dg.start n b hb,rfl⟩,?_⟩
 rintro m Z' H1 ⟨s1,f,w,x,rfl,w0,w1,hf,D,rfl⟩;symm;exists Dj (show (0:Int)<=(w:Int) by lia) ?_;rw[zh,GZ];refine Bs (fun cc=>?_) (fun cc=>?_)
 ·have f1:2^w<=f:=by
   have h1:0<f >>> w:=⋯;rw[yi] at h1;exact Nat.le_of_not_lt fun z=>by rw[jk3 z] at h1;lia
  have wn:w<n:=by
   refine je1 fun z=>?_;have:=vi (show 0<2 by decide) z;lia
  have f0:f≠0:=by have:=ka w;lia
  have l1:f<2^(f.log2+1):=ju2;have l2:f.log2+1<=n:=by
   have:=ju1 f0;refine je1 fun z=>?_;have:=vi (show 0<2 by decide) z;lia
  exists⟨_,fun Z' H' hh=>hh,?_⟩;refine Dj ⟨3,20,(by unfold Bt;decide),Ir ⋯,nofun⟩ ?_;symm;exists⟨(w:Int),rfl,⋯,⋯,?_⟩;rw[zh,show(2:Int)*(w:Int)=((2*w:Nat):Int) by lia];refine⟨Ij,fun p hp=>?_⟩;exists fresh hp fun H2 s2 t2=>?_;rw[IV f0];symm;refine⟨p,_,_,_,rfl,SqT.of t2,⋯,⋯,?_,⋯,⋯,fun c S=>?_⟩
  ·rw[zh];have:=vi (show 0<2 by decide) (show w<=2*w by lia);have:=ka w;lia
  rw[zh,show(((f.log2+1:Nat):Int)).toNat=f.log2+1 by lia] at S;symm;exists Dj (show (0:Int)<=(w:Int) by lia) ?_;refine Dj ⟨3,20,(by unfold Bt;decide),Ir ⋯,nofun⟩ ?_;symm;have E1:=fZ w0 l1 S 0;have E2:=fZ w0 l1 S w;rw[Nat.pow_zero,Nat.div_one] at E1;obtain⟨d1,d2⟩:=D.pair w0 E1 E2;rw[zh,GZ,yi,Cu,Cu];refine⟨n-2*w,⋯,s1.trans s2,(f &&& c)+(f/2^w &&& c),2*w,some (.int (c:Int)),?_,⋯,⋯,⋯,d1,rfl⟩;rw[jl4];rfl
 ·have fl:f<2^w:=by
   have h1:f >>> w=0:=Nat.eq_zero_of_not_pos fun z=>cc (Int.natCast_pos.mpr z);rw[yi] at h1;exact je1 fun z=>by
    have:=(Nat.le_div_iff_mul_le (ka w)).mpr (show 1*2^w<=f by lia);lia
  symm;rw[D.last fl];exact q _ s1
theorem Hh:C0 4 "days_ahead" ["turn","day"] (uE K):=by
 refine co' ["turn","day","part"] XF fun nd H vs Q E hr h=>?_;obtain⟨a,n,d,b,rfl,hS,h0,h1,hb,bd,q⟩:=h;have m0:=ze d (show n≠0 by lia);have m1:=qo d h0;refine⟨_,(Ac (Ai 2 (Ag Gn (pxT 0) (Af EY (Aa (Ag Bv (pv 1) (pxT 0)) Ab)))) (Ad (Ak (Ag Bl (Ag Cd (Ag Bp (pv 1) (pxT 0)) (Af Ld (Aa (pxT 0) Ab))) (Af Ld (Aa (pv 2) Ab)))))),?_⟩
 symm;exists An hS at1 ?_;refine An hS at0 ?_;exists Dj h0 ?_;exists⟨d%n,rfl,m0,⋯,?_⟩;rw[Cu];exists An hS at0 ?_;exists Dj (En h0 ⋯) ?_;exists An hS at1 ?_;refine⟨b,n.toNat,rfl,hb,⋯,fun H1 s1=>?_⟩;have cl:=Tw b n.toNat;exists Dj ⟨260,20,Us bd h0,Ir ⋯,nofun⟩ ?_;exists⟨_,(d%n).toNat,rfl,FW _ _,⋯,fun H2 s2=>?_⟩;rw[Kg (c:=b) fun i hi=>DQ _ _ _ hi];exact q _ (s1.trans s2)
theorem Ud:C0 5 "how_many" ["turn","first","end"] (yu K):=by
 refine co' ["turn","first","end"] bJ fun nd H vs Q E hr h=>?_;obtain⟨a,n,f',e,b,rfl,hS,h0,h1,hb,b1,b2,q⟩:=h;exists⟨_,(Ad (Ak (Ag Cy (Af Hh (Aa (pv 0) (Aa (pv 2) Ab))) (Af Hh (Aa (pv 0) (Aa (pv 1) Ab)))))),?_⟩;exists⟨a,n,e,b,rfl,hS,h0,h1,hb,b2.mono nofun,fun H1 s1=>?_⟩;exists⟨a,n,f',b,rfl,s1.tup hS,h0,h1,hb,b1.mono nofun,fun H2 s2=>?_⟩;exact q _ (s1.trans s2)
theorem Jj:C0 6 "gathered" ["turn","barred","step","join"] (ADS K mg [("either",spJ K (Bo or)),("unlike",spJ K (Bo xor))]):=by
 refine co' ["turn","barred","step","join","told","free","stride"] bK fun nd H vs Q E hr h=>?_;obtain⟨a1,a2,f',n,e,b,c,x,J,rfl,hxj,hmg,S1,S2,n0,n1,hb,hc,he,q⟩:=h;refine⟨_,(Ac (Ai 4 (pv 0)) (Ac (Ai 5 (Af Jh (Aa (pv 1) Ab))) (Ac (Ai 6 (pv 2)) (Ac (Fo PassesOwn.never (Aj Fp (BL Zt rfl wk PyProof.Rows.boot_abs (Aa (pv 6) Ab)) (pxT 0) (Al _)) (Ac (Ai 4 (uw (i:=3) (k:=5) (GQ.cons Ue (GQ.cons Zv GQ.nil)) (hr.mono nofun) rfl (by first | exact Or.inl rfl | exact Or.inr (Or.inl rfl) | exact Or.inr (Or.inr rfl)) (Aa (pv 4) (Aa (Af Km (Aa (Af Ih (Aa (pv 4) (Aa (pv 6) Ab))) (Aa (pv 5) Ab))) Ab)))) (Ac (Ai 5 (Af Km (Aa (pv 5) (Aa (Af Ih (Aa (pv 5) (Aa (pv 6) Ab))) Ab)))) (Ad (Ai 6 (Ag Cd Ae (pv 6))))))) (Ad (Ak (pv 4))))))),?_⟩
 symm;refine⟨a2,n,c,rfl,S2,n0,n1,hc,fun pf fc hpf lf bf=>?_⟩;refine fresh hpf fun H1 s1 t1=>?_;have ls:=lcm_self n0;symm;refine⟨fun m Z' H'=>Aw H H'/\∃(pt pf:Addr) (g fr k:Nat),0<k/\k<=300000/\H' pt=some (.tup [.int n,.int (g:Int)])/\SqT K H' pf [.int n,.int (fr:Int)]/\g<2^n.toNat/\fr<2^n.toNat/\(∀r,Uw J n g fr (e*(k:Int)) r->Uw J n b fc e r)/\
  Z'=[some (.ref a1),some (.ref a2),some (.int e),some (.ref f'),some (.ref pt),some (.ref pf),some (.int (e*(k:Int)))]/\m=n.toNat-k,
  ⟨_,s1,a1,pf,b,fc,1,nofun,nofun,s1 _ _ S1,SqT.of t1,hb,lf,(fun r h=>by rwa [show e*((1:Nat):Int)=e by lia] at h),(by rw[show e*((1:Nat):Int)=e by lia]<;>rfl),rfl⟩,?_⟩
 rintro m Z' H2 ⟨s2,pt,pf,g,fr,k,k0,k1,Tt,Tf,lg,lfr,G,rfl,rfl⟩;have ek:(e*(k:Int)).natAbs=k:=by rcases he with h | h<;>rw[h]<;>lia
 symm;exists⟨_,rfl,?_⟩;exists An (SqT.of (s2 _ _ S1)) at0 ?_;have mulb:∀x:Int,e*x=x\/e*x= -x:=fun x=>by rcases he with h | h<;>rw[h]<;>lia
 refine Bs (fun hlt=>?_) (fun hge=>?_)
 ·have kn:(k:Int)<n:=by
   have:=mulb k;split at hlt<;>lia
  refine⟨fun Z' H'=>∃m',m'<n.toNat-k/\Aw H H'/\∃(pt pf:Addr) (g fr k:Nat),0<k/\k<=300000/\H' pt=some (.tup [.int n,.int (g:Int)])/\SqT K H' pf [.int n,.int (fr:Int)]/\g<2^n.toNat/\fr<2^n.toNat/\(∀r,Uw J n g fr (e*(k:Int)) r->Uw J n b fc e r)/\
   Z'=[some (.ref a1),some (.ref a2),some (.int e),some (.ref f'),some (.ref pt),some (.ref pf),some (.int (e*(k:Int)))]/\m'=n.toNat-k,fun Z' H' hh=>hh,?_⟩
  symm;exists oE rfl hxj hmg ?_;refine⟨pt,n,_,g,rfl,SqT.of Tt,n0,n1,lg,fun p1 h1=>?_⟩;refine fresh h1 fun H3 s3 t3=>?_;have t3:H3 p1=some _:=t3;symm;refine⟨p1,pf,n,n,_,fr,rfl,⟨SqT.of t3,s3.tup Tf,n0,n0,n1,n1,KY _ _ _,lfr⟩,by rw[ls];exact n1,fun p2 c2 H4 s4 t4 B2 R2=>?_⟩;rw[ls] at t4 B2 R2;symm;refine⟨pt,p2,n,n,g,c2,rfl,⟨SqT.of (s4 _ _ (s3 _ _ Tt)),SqT.of t4,n0,n0,n1,n1,lg,B2⟩,(by rw[ls];exact n1),fun p3 c3 H5 s5 t5 B3 R3=>?_⟩;rw[ls] at t5 B3 R3;symm;refine⟨pf,n,_,fr,rfl,s5.tup (s4.tup (s3.tup Tf)),n0,n1,lfr,fun p4 h4=>?_⟩;refine fresh h4 fun H6 s6 t6=>?_;have t6:H6 p4=some _:=t6;symm;refine⟨pf,p4,n,n,fr,_,rfl,⟨s6.tup (s5.tup (s4.tup (s3.tup Tf))),SqT.of t6,n0,n0,n1,n1,lfr,KY _ _ _⟩,by rw[ls];exact n1,fun p5 c5 H7 s7 t7 B5 R5=>?_⟩;rw[ls] at t7 B5 R5;symm;refine Dj ⟨2,20,Ir nofun,(by show(e*(k:Int)).natAbs<2^20;rw[ek];lia),nofun⟩ ?_;symm;have e2:e*((2*k:Nat):Int)=2*(e*(k:Int)):=by rw[jl5,Int.mul_left_comm];rfl
  refine⟨n.toNat-2*k,⋯,s2.trans (s3.trans (s4.trans (s5.trans (s6.trans s7)))),p3,p5,c3,c5,2*k,⋯,⋯,s7 _ _ (s6 _ _ t5),SqT.of t7,B3,B5,(fun r h=>G r (.step ⋯ R2 R3 R5 (by rwa [e2] at h))),by rw[e2]<;>rfl,rfl⟩
 ·have kn:n.toNat<=k:=by
   have:=mulb k;split at hge<;>lia
  symm;exact q pt g H2 s2 Tt lg ⟨fc,⟨lf,bf⟩,G g (.stop ⋯)⟩
theorem cX:C0 7 "upon" ["R","S"] (spJ K (UpR 1)):=by
 refine co' ["R","S","size","days"] zO fun nd H vs Q E hr h=>?_;obtain⟨a1,a2,n1,n2,b1,b2,rfl,W,lz,q⟩:=h;have fl:=Bx W.p1 W.p2;refine⟨_,(Ac (Ai 2 (Af Ed (Aa (pv 0) (Aa (pv 1) Ab)))) (Ac (Ai 3 (Af Dy (Aa (pv 0) (Aa (pv 2) Ab)))) (Ad (Ak (Af Km (Aa (pv 3) (Aa (Af Jj (Aa (Af Dy (Aa (pv 1) (Aa (pv 2) Ab))) (Aa (Af Ih (Aa (pv 3) (Aa Ae Ab))) (Aa Ae (Aa (By rfl Iu (Gz _)) Ab))))) Ab))))))),?_⟩
 symm;refine⟨a1,a2,n1,n2,b1,b2,rfl,W.s1,W.s2,W.p1,W.p2,W.l1,W.l2,lz,fun H1 s1=>?_⟩;generalize hz:Cm n1 n2=z at*
 have z0:=fl.1;have d1:n1∣z:=fl.2.1;have d2:n2∣z:=fl.2.2.1;have ls:=lcm_self z0;symm;refine⟨a1,n1,z,b1,rfl,s1.tup W.s1,W.p1,W.l1,W.k1,z0,lz,d1,fun pr cr hr1 Sr=>?_⟩;exists fresh hr1 fun H2 s2 t2=>?_;refine⟨a2,n2,z,b2,rfl,s2.tup (s1.tup W.s2),W.p2,W.l2,W.k2,z0,lz,d2,fun ps cs hs1 Ss=>?_⟩;exists fresh hs1 fun H3 s3 t3=>?_;refine⟨pr,z,_,cr,rfl,s3.tup (SqT.of t2),z0,lz,Sr.lt,fun pl hl1=>?_⟩;refine fresh hl1 fun H4 s4 t4=>?_;have t4:H4 pl=some _:=t4;symm;exists⟨ps,pl,_,z,1,cs,_,_,or,rfl,qm,Iu,s4 _ _ t3,SqT.of t4,z0,lz,Ss.lt,KY _ _ _,.inl rfl,fun pg g H5 s5 t5 lg G=>?_⟩;refine⟨pr,pg,z,z,cr,g,rfl,⟨s5.tup (s4.tup (s3.tup (SqT.of t2))),SqT.of t5,z0,z0,lz,lz,Sr.lt,lg⟩,by rw[ls];exact lz,fun p c H6 s6 t6 B R=>?_⟩;rw[ls] at t6 B R;exact q p c H6 (s1.trans (s2.trans (s3.trans (s4.trans (s5.trans s6))))) t6 B ⟨cr,cs,g,Sr,Ss,G,R⟩
theorem YF:C0 7 "until" ["R","S"] (spJ K (UpR (-1))):=by
 refine co' ["R","S","size","days"] uK fun nd H vs Q E hr h=>?_;obtain⟨a1,a2,n1,n2,b1,b2,rfl,W,lz,q⟩:=h;have fl:=Bx W.p1 W.p2;refine⟨_,(Ac (Ai 2 (Af Ed (Aa (pv 0) (Aa (pv 1) Ab)))) (Ac (Ai 3 (Af Dy (Aa (pv 0) (Aa (pv 2) Ab)))) (Ad (Ak (Af Km (Aa (pv 3) (Aa (Af Jj (Aa (Af Dy (Aa (pv 1) (Aa (pv 2) Ab))) (Aa (Af Ih (Aa (pv 3) (Aa (HQ Ff Ae) Ab))) (Aa (HQ Ff Ae) (Aa (By rfl Iu (Gz _)) Ab))))) Ab))))))),?_⟩
 symm;refine⟨a1,a2,n1,n2,b1,b2,rfl,W.s1,W.s2,W.p1,W.p2,W.l1,W.l2,lz,fun H1 s1=>?_⟩;generalize hz:Cm n1 n2=z at*
 have z0:=fl.1;have d1:n1∣z:=fl.2.1;have d2:n2∣z:=fl.2.2.1;have ls:=lcm_self z0;symm;refine⟨a1,n1,z,b1,rfl,s1.tup W.s1,W.p1,W.l1,W.k1,z0,lz,d1,fun pr cr hr1 Sr=>?_⟩;exists fresh hr1 fun H2 s2 t2=>?_;refine⟨a2,n2,z,b2,rfl,s2.tup (s1.tup W.s2),W.p2,W.l2,W.k2,z0,lz,d2,fun ps cs hs1 Ss=>?_⟩;exists fresh hs1 fun H3 s3 t3=>?_;refine⟨pr,z,_,cr,rfl,s3.tup (SqT.of t2),z0,lz,Sr.lt,fun pl hl1=>?_⟩;refine fresh hl1 fun H4 s4 t4=>?_;have t4:H4 pl=some _:=t4;symm;exists⟨ps,pl,_,z,-1,cs,_,_,or,rfl,qm,Iu,s4 _ _ t3,SqT.of t4,z0,lz,Ss.lt,KY _ _ _,.inr rfl,fun pg g H5 s5 t5 lg G=>?_⟩;refine⟨pr,pg,z,z,cr,g,rfl,⟨s5.tup (s4.tup (s3.tup (SqT.of t2))),SqT.of t5,z0,z0,lz,lz,Sr.lt,lg⟩,by rw[ls];exact lz,fun p c H6 s6 t6 B R=>?_⟩;rw[ls] at t6 B R;exact q p c H6 (s1.trans (s2.trans (s3.trans (s4.trans (s5.trans s6))))) t6 B ⟨cr,cs,g,Sr,Ss,G,R⟩
theorem qx:C0 7 "till" ["R","S"] (spJ K TiR):=by
 refine co' ["R","S","size"] zP fun nd H vs Q E hr h=>?_;obtain⟨a1,a2,n1,n2,b1,b2,rfl,W,lz,q⟩:=h;have fl:=Bx W.p1 W.p2;refine⟨_,(Ac (Ai 2 (Af Ed (Aa (pv 0) (Aa (pv 1) Ab)))) (Ad (Ak (Af Jj (Aa (Af Dy (Aa (pv 0) (Aa (pv 2) Ab))) (Aa (Af Dy (Aa (pv 1) (Aa (pv 2) Ab))) (Aa Ae (Aa (By rfl Iu (Gz _)) Ab)))))))),?_⟩
 symm;refine⟨a1,a2,n1,n2,b1,b2,rfl,W.s1,W.s2,W.p1,W.p2,W.l1,W.l2,lz,fun H1 s1=>?_⟩;generalize hz:Cm n1 n2=z at*
 have z0:=fl.1;have d1:n1∣z:=fl.2.1;have d2:n2∣z:=fl.2.2.1;have ls:=lcm_self z0;symm;refine⟨a1,n1,z,b1,rfl,s1.tup W.s1,W.p1,W.l1,W.k1,z0,lz,d1,fun pr cr hr1 Sr=>?_⟩;exists fresh hr1 fun H2 s2 t2=>?_;refine⟨a2,n2,z,b2,rfl,s2.tup (s1.tup W.s2),W.p2,W.l2,W.k2,z0,lz,d2,fun ps cs hs1 Ss=>?_⟩;exists fresh hs1 fun H3 s3 t3=>?_;refine⟨pr,ps,_,z,1,cr,cs,_,or,rfl,qm,Iu,s3 _ _ t2,SqT.of t3,z0,lz,Sr.lt,Ss.lt,.inl rfl,fun pg g H5 s5 t5 lg G=>?_⟩;exact q pg g H5 (s1.trans (s2.trans (s3.trans s5))) t5 lg ⟨cr,cs,Sr,Ss,G⟩
theorem Uc:C0 8 "nearer_ahead" ["R"] (ABq K):=by
 refine co' ["R","days","behind","first_nearer"] Ru fun nd H vs Q E hr h=>?_;obtain⟨a,n,b,rfl,hS,h0,h1,hb,q⟩:=h;refine⟨_,(Ac (Ai 1 (Af PL (Aa (pv 0) Ab)))
  (Ac (Ai 2 (Ag Xl (Ep JM (pv 1) (Ft Ae) Fv) (FZ rfl (Em ["R","days","behind","first_nearer"] ["R","days","behind","first_nearer"] rfl rfl (by with_unfolding_all rfl) ∅ rfl ∅ rfl ∅ (by walk_at"fm") (by with_unfolding_all rfl) (by with_unfolding_all rfl)) (Fx (Ep JM (pv 1) Fv (Ft Ae))) (fun _ _ _ _=>FN) (fun _ _ _ _=>(Ag Bl (pv 0) (CQ G6 (pv 1) Ae))))))
  (Ac (Pq (i:=3) nd rfl (by walk_at"o") (xs:=["day","other"]) rfl (Io ["day","other"] ["R","days","behind","first_nearer"] ["R","days","behind","first_nearer"] rfl rfl (by with_unfolding_all rfl) ∅ rfl ∅ ∅ ∅ (by walk_at"fm") (by with_unfolding_all rfl) (by with_unfolding_all rfl)) (Xd (c:=false) (d:=false) rfl lE (Aa (pv 1) (Aa (pv 2) Ab))) (fun _ _ _ _=>FN) (fun _ _ _ _=>(ZW (n:=2) rfl (Iz (DX (i:=0) (show (["day","other","R","days","behind","first_nearer"]:List Str).Nodup from by ac_rfl) rfl (by walk_at"o")) (Iz (DX (i:=1) (show (["day","other","R","days","behind","first_nearer"]:List Str).Nodup from by ac_rfl) rfl (by walk_at"o")) Xe)))) (fun _ _ _ _=>(Ag Bl (Ag Bp (Ag Bl (pv 0) (pv 1)) Ae) Ae)))
  (Ad (Ak (Af qx (Aa (pv 0) (Aa (Af Jg (Aa (pxT 0) (Aa (pv 3) Ab))) Ab)))))))),?_⟩
 symm;refine⟨a,n,b,rfl,hS,h0,h1,hb,fun l H1 hl s1 t1=>?_⟩;have len:=YB b n.toNat;generalize hds:dli b n.toNat=ds at t1 len;symm;refine Ov (SqL.of t1) (fun l2 hl2=>?_);rw[jq];refine fresh hl2 fun H2 s2 t2=>?_;have t2:H2 l2=some _:=t2;exists Gd (J4 ?_);refine Ov (SqL.of (s2 _ _ t1)) (fun l3 hl3=>?_);rw[jo,<-List.map_take];refine fresh hl3 fun H3 s3 t3=>?_;have t3:H3 l3=some _:=t3;have s13:=s1.trans (s2.trans s3);refine⟨l3,rfl,⟨_,SqL.of t3⟩,?_⟩;refine Ig OJ ?_ (fun D ys hD=>(Av hD _).seq (SqL.of t3)) (fun _=>true) (fun v=>match v with | .int d=>V.int (d+n) | _=>.non) (fun x hx D ys Q' hD h=>h) (fun x hx _ D ys Q' hD h=>?_) (fun D hD=>?_)
 ·rw[jp,jb6];exact uj (Nat.min_le_left _ _) nofun
 ·obtain⟨d,hd,rfl⟩:=yy.mp hx;symm;exists An ((Av hD _).tup (s13.tup hS)) at0 ?_;exact h
 rw[Qr.mpr (fun _ _=>rfl),va];rw[show ((fun v:V=>match v with | .int d=>V.int (d+n) | _=>.non) ∘ V.int)=V.int ∘ (· +n) from rfl,<-va]
 refine fresh hD fun H4 s4 t4=>?_;have t4:H4 D=some _:=t4;symm;have bl:=dG n ds;refine zY ((s3.trans s4) _ _ t2) t4 ?_ (fun l5 hl5=>?_)
 ·rw[<-qc,<-uu,jp];exact qr (jl1 bl) (qr (show ds.length<=150000 by lia) nofun)
 rw[<-uu];show HR _ _ _ (upd H4 l5 (.lst ((Ny n ds).map V.int))) _;refine fresh hl5 fun H5 s5 t5=>?_;have t5:H5 l5=some _:=t5;have s15:=s13.trans (s4.trans s5);have t15:=(s2.trans (s3.trans (s4.trans s5))) _ _ t1;symm;exists ZQ (XR ?_);refine⟨l,l5,rfl,⟨_,_,SqL.of t15,SqL.of t5⟩,?_⟩;refine qp (SqL.of t15) (SqL.of t5) ?_ (fun x y=>(x+y)/2+1) (fun x y H' Q' h=>?_) (fun D6 H6 hD6 s6 t6=>?_)
 ·exact uj (show ds.length<=150000 by lia) nofun
 ·symm;exact h
 symm;exists An (s6.tup (s15.tup hS)) at0 ?_;have ls:=lcm_self h0;exists⟨D6,mids n ds,n,rfl,SqL.of t6,h0,h1,fun p c H7 s7 t7 B=>?_⟩;refine⟨a,p,n,n,b,c,rfl,⟨(s6.trans s7).tup (s15.tup hS),SqT.of t7,h0,h0,h1,h1,hb,B.lt⟩,by rw[ls];exact h1,fun p8 e H8 s8 t8 le R=>?_⟩;rw[ls] at t8 le R;exact q p8 e H8 (s15.trans (s6.trans (s7.trans s8))) t8 le ⟨c,by rw[hds];exact B,R⟩
theorem AAx:C0 9 "near" ["R","S"] (spJ K NeR):=by
 refine co' ["R","S","early"] zR fun nd H vs Q E hr h=>?_;obtain⟨a1,a2,n1,n2,b1,b2,rfl,W,lz,q⟩:=h;have p1:=W.p1;have p2:=W.p2;have fl:=Bx p1 p2;have fl':=jR p1 p2;refine⟨_,(Ac (Ai 2 (Af Uc (Aa (pv 0) Ab))) (Ad (Ak (Af Ue (Aa (Af YF (Aa (pv 0) (Aa (Af Km (Aa (pv 1) (Aa (pv 2) Ab))) Ab))) (Aa (Af cX (Aa (pv 0) (Aa (Af O9 (Aa (pv 1) (Aa (pv 2) Ab))) Ab))) Ab)))))),?_⟩
 symm;exists⟨a1,n1,b1,rfl,W.s1,p1,W.l1,W.k1,fun pe e H1 s1 t1 le N=>?_⟩;refine⟨a2,pe,n2,n1,b2,e,rfl,⟨s1.tup W.s2,SqT.of t1,p2,p1,W.l2,W.l1,W.k2,le⟩,by rw[<-fl'];exact lz,fun pb cb H2 s2 t2 Bb Rb=>?_⟩;rw[<-fl'] at t2 Bb Rb;generalize hz:Cm n1 n2=z at*
 have z0:=fl.1;have d1:n1∣z:=fl.2.1;have d2:n2∣z:=fl.2.2.1;have lz1:Cm n1 z=z:=fQ p1 z0 d1;have ls:=lcm_self z0;symm;refine⟨a1,pb,n1,z,b1,cb,rfl,⟨(s1.trans s2).tup W.s1,SqT.of t2,p1,z0,W.l1,lz,W.k1,Bb⟩,by rw[lz1];exact lz,fun pu cu H3 s3 t3 lu U=>?_⟩;rw[lz1] at t3 lu U;have s13:=s1.trans (s2.trans s3);symm;refine⟨a2,pe,n2,n1,b2,e,rfl,⟨s13.tup W.s2,SqT.of ((s2.trans s3) _ _ t1),p2,p1,W.l2,W.l1,W.k2,le⟩,by rw[<-fl'];exact lz,fun pw cw H4 s4 t4 Bw Rw=>?_⟩;rw[<-fl'] at t4 Bw Rw;symm;refine⟨a1,pw,n1,z,b1,cw,rfl,⟨(s13.trans s4).tup W.s1,SqT.of t4,p1,z0,W.l1,lz,W.k1,Bw⟩,by rw[lz1];exact lz,fun pv cv H5 s5 t5 lv V=>?_⟩;rw[lz1] at t5 lv V;symm;refine⟨pu,pv,z,z,cu,cv,rfl,⟨SqT.of ((s4.trans s5) _ _ t3),SqT.of t5,z0,z0,lz,lz,lu,lv⟩,by rw[ls];exact lz,fun p c H6 s6 t6 B R=>?_⟩;rw[ls] at t6 B R;exact q p c H6 (s13.trans (s4.trans (s5.trans s6))) t6 B ⟨p1,e,cb,cu,cw,cv,N,Rb,U,Rw,V,R⟩
theorem ACn:C0 8 "kth" ["number","R","S"] (ADR K):=by
 refine co' ["number","R","S","size","step","ends","days","place","odd"] ACH fun nd H vs Q E hr h=>?_;obtain⟨k,a1,a2,n1,n2,b1,b2,rfl,W,k0,lz,q⟩:=h;have fl:=Bx W.p1 W.p2;refine⟨_,(Ac (Ay (Aj Bh (pv 0) Ae (Al _)) (Ad Bd) Ao) (Ac (Ai 3 (Af Ed (Aa (pv 1) (Aa (pv 2) Ab)))) (Ac (Dm (Ai 4 (Do (Aj Ew (pv 0) Ae (Al _)) Ae (HQ Ff Ae)))) (Ac (Dm (Ai 5 (Do (Aj Ew (pv 0) Ae (Al _)) (Af Dy (Aa (pv 2) (Aa (pv 3) Ab))) (Af Ih (Aa (Af Dy (Aa (pv 2) (Aa (pv 3) Ab))) (Aa (HQ Ff Ae) Ab)))))) (Ac (Ai 6 (Af Dy (Aa (pv 1) (Aa (pv 3) Ab)))) (Ac (Ai 7 (BL Zt rfl wk PyProof.Rows.boot_abs (Aa (pv 0) Ab))) (Ac (Fo PassesOwn.never (PW.pt (J7 (Aj Ew (pv 7) Ae (Al _)) (Hz (Aj Ew (pxT 6) Ae (Al _))))) (Ac (Ai 8 (Af Km (Aa (pv 6) (Aa (Af Jj (Aa (pv 6) (Aa (pv 5) (Aa (pv 4) (Aa (By rfl Ye (Gz _)) Ab))))) Ab)))) (Ac (Dm (Ai 6 (Do (Aj Bh (Ag Bv (pv 7) Ae) Ae (Al _)) (pv 8) (Af O9 (Aa (pv 6) (Aa (pv 8) Ab)))))) (Ad (Ai 7 (Ag Bp (Ag Bl (pv 7) Ae) Ae)))))) (Ad (Ak (Do (Aj Ew (pv 0) Ae (Al _)) (Af cX (Aa (pv 6) (Aa (pv 5) Ab))) (Af YF (Aa (pv 6) (Aa (pv 5) Ab))))))))))))),?_⟩
 symm;exists CK (fun c=>k0 (by injection c)) ?_;refine⟨a1,a2,n1,n2,b1,b2,rfl,W.s1,W.s2,W.p1,W.p2,W.l1,W.l2,lz,fun H1 s1=>?_⟩;generalize hz:Cm n1 n2=z at*
 have z0:=fl.1;have d1:n1∣z:=fl.2.1;have d2:n2∣z:=fl.2.2.1;have ls:=lcm_self z0;have str2:∀(H':Hp) (Q':VK) (E':XK),Aw H H'->(∀(p:Addr) (c:Nat),H' p=none->Ek n2.toNat b2 z.toNat c->Q' (.ref p) (upd H' p (.tup [.int z,.int (c:Int)])))->Pk K ([.ref a2,.int z]++[]) H' Q' E':=fun H' Q' E' s hq=>
  ⟨a2,n2,z,b2,rfl,s.tup W.s2,W.p2,W.l2,W.k2,z0,lz,d2,hq⟩
 symm;obtain⟨e,he⟩:∃e:Int,(0<k->e=1)/\(¬0<k->e= -1):=⟨if 0<k then 1 else -1,fun c=>xz c,fun c=>yb c⟩;have he':e=1\/e= -1:=by
  by_cases c:0<k
  ·exact .inl (he.1 c)
  ·exact .inr (he.2 c)
 refine De (fun Z' H'=>Z'=[some (.int k),some (.ref a1),some (.ref a2),some (.int z),some (.int e),none,none,none,none]/\H'=H1) ?_ ?_
 ·symm;refine Bs (fun c=>?_) (fun c=>?_)
  ·rw[he.1 c];symm;exact⟨rfl,rfl⟩
  ·rw[he.2 c];symm;exact⟨rfl,rfl⟩
 rintro Z' H1' ⟨rfl,rfl⟩;symm;refine De (fun Z' H'=>Ex2 fun(pe:Addr) (ce:Nat)=>An5 (Z'=[some (.int k),some (.ref a1),some (.ref a2),some (.int z),some (.int e),some (.ref pe),none,none,none]) (Aw H1' H') (H' pe=some (.tup [.int z,.int (ce:Int)])) (ce<2^z.toNat) (∃s,An3 (Ek n2.toNat b2 z.toNat s) (0<k->e=1/\ce=s) (¬0<k->e= -1/\ce=ltr z s (-1)))) ?_ ?_
 ·symm;refine Bs (fun c=>?_) (fun c=>?_)
  ·symm;exists str2 _ _ _ s1 fun ps cs hs1 Ss=>?_;exact⟨ps,cs,rfl,Av hs1 _,Am,Ss.lt,cs,Ss,fun c=>⟨he.1 c,rfl⟩,fun z=>absurd c z⟩
  ·symm;exists str2 _ _ _ s1 fun ps cs hs1 Ss=>?_;exists⟨ps,z,-1,cs,rfl,SqT.of Am,z0,lz,Ss.lt,fun p hp=>?_⟩;exact⟨p,_,rfl,(Av hs1 _).trans (Av hp _),Am,KY _ _ _,cs,Ss,fun z=>absurd z c,fun c=>⟨he.2 c,rfl⟩⟩
 rintro Z' H2 ⟨pe,ce,rfl,s2,t2,lce,sx,Sx,x1,x2⟩;symm;refine⟨a1,n1,z,b1,rfl,s2.tup (s1.tup W.s1),W.p1,W.l1,W.k1,z0,lz,d1,fun pr cr hr1 Sr=>?_⟩;exists fresh hr1 fun H3 s3 t3=>?_;refine⟨_,rfl,?_⟩;obtain⟨p0,hp0⟩:∃p0:Int,(if k<0 then -k else k)=p0:=⟨_,rfl⟩;have ap:p0=(k.natAbs:Int):=by split at hp0<;>lia
 rw[hp0];symm;refine⟨fun m Z' H'=>Aw H3 H'/\∃(pd:Addr) (t:Nat) (p:Int) (od:Option V),1<=p/\p<=p0/\H' pd=some (.tup [.int z,.int (t:Int)])/\t<2^z.toNat/\(∀c,KlR z ce e p t c->KlR z ce e p0 cr c)/\
  Z'=[some (.int k),some (.ref a1),some (.ref a2),some (.int z),some (.int e),some (.ref pe),some (.ref pd),some (.int p),od]/\m=p.toNat,
  ⟨_,Aw.refl _,pr,cr,p0,none,⋯,⋯,t3,Sr.lt,(fun _ h=>h),rfl,rfl⟩,?_⟩
 rintro m Z' H4 ⟨s4,pd,t,p,od,p1,pp,td,lt,G,rfl,rfl⟩;symm;have te:=s4 _ _ (s3 _ _ t2);have fin:¬(1<p/\0<t)->∀(E':XK),spJ K (UpR e) ([.ref pd,.ref pe]++[]) H4 Q E':=fun nn E'=>
  ⟨pd,pe,z,z,t,ce,rfl,⟨SqT.of td,SqT.of te,z0,z0,lz,lz,lt,lce⟩,(by rw[ls];exact lz),fun p' c' H' s' t' lc' R=>by
   rw[ls] at t' lc' R;exact q p' c' H' (s1.trans (s2.trans (s3.trans (s4.trans s')))) t' lc' ⟨cr,sx,ce,e,Sx,x1,x2,Sr,by have:=G c' (.stop nn R);rwa [ap] at this⟩⟩
 refine Bs (fun hp=>?_) (fun hp=>?_)
 ·symm;exists An (SqT.of td) at1 ?_;refine Bs (fun ht=>?_) (fun ht=>?_)
  ·refine⟨fun Z' H'=>∃m',m'<p.toNat/\Aw H3 H'/\∃(pd:Addr) (t:Nat) (p:Int) (od:Option V),1<=p/\p<=p0/\H' pd=some (.tup [.int z,.int (t:Int)])/\t<2^z.toNat/\(∀c,KlR z ce e p t c->KlR z ce e p0 cr c)/\
   Z'=[some (.int k),some (.ref a1),some (.ref a2),some (.int z),some (.int e),some (.ref pe),some (.ref pd),some (.int p),od]/\m'=p.toNat,fun Z' H' hh=>hh,?_⟩
   symm;exists⟨pd,pe,_,z,e,t,ce,_,xor,rfl,qv _ qm,Ye,td,SqT.of te,z0,lz,lt,lce,he',fun pg g H5 s5 t5 lg GG=>?_⟩;refine⟨pd,pg,z,z,t,g,rfl,⟨s5.tup (SqT.of td),SqT.of t5,z0,z0,lz,lz,lt,lg⟩,(by rw[ls];exact lz),fun po c H6 s6 t6 B R=>?_⟩;rw[ls] at t6 B R;have td6:=s6 _ _ (s5 _ _ td);symm;refine De (fun Z' H'=>Ex2 fun(pn:Addr) (t':Nat)=>An6 (Z'=[some (.int k),some (.ref a1),some (.ref a2),some (.int z),some (.int e),some (.ref pe),some (.ref pn),some (.int p),some (.ref po)]) (Aw H6 H') (H' pn=some (.tup [.int z,.int (t':Int)])) (t'<2^z.toNat) (p%2=1->t'=c) (¬p%2=1->Bo bn z t z c z t')) ?_ ?_
   ·symm;refine Bs (fun o=>?_) (fun o=>?_)
    ·symm;exact⟨po,c,rfl,Aw.refl _,t6,B,fun _=>rfl,fun z=>absurd (by injection o) z⟩
    ·symm;refine⟨pd,po,z,z,t,c,rfl,⟨SqT.of td6,SqT.of t6,z0,z0,lz,lz,lt,B⟩,(by rw[ls];exact lz),fun pn t' H7 s7 t7 B7 R7=>?_⟩;rw[ls] at t7 B7 R7;symm;exact⟨pn,t',rfl,s7,t7,B7,fun z=>absurd (xy V.int z) o,fun _=>R7⟩
   rintro Z' H7 ⟨pn,t',rfl,s7,t7,lt',w1,w2⟩;symm;exact⟨_,(by lia:((p+1)/2).toNat<p.toNat),s4.trans (s5.trans (s6.trans s7)),pn,t',(p+1)/2,_,⋯,⋯,t7,lt',(fun c' h=>G c' (.step hp ⋯ GG R w1 w2 h)),rfl,rfl⟩
  ·symm;have nn:¬(1<p/\0<t):=fun z=>ht ⋯;refine Bs (fun c=>?_) (fun c=>?_)
   ·symm;have f:=fin nn;rw[he.1 c] at f;exact f _
   ·symm;have f:=fin nn;rw[he.2 c] at f;exact f _
 ·refine Eg ?_;have nn:¬(1<p/\0<t):=fun z=>hp z.1;symm;refine Bs (fun c=>?_) (fun c=>?_)
  ·symm;have f:=fin nn;rw[he.1 c] at f;exact f _
  ·symm;have f:=fin nn;rw[he.2 c] at f;exact f _
theorem wH:C0 6 "every" ["number","R","day"] (ADT K):=by
 refine co' ["number","R","day","size","days","first","places"] uN fun nd H vs Q E hr h=>?_;obtain⟨k,d,a,n,b,rfl,hS,h0,h1,hb,bd,bk,k1,lz,q⟩:=h;have bn:Bt 64 n:=Ca ⋯ ⋯ nofun;refine⟨_,(Ac (BV (Af Cj (Aa (pv 0) Ab)))
  (Ac (Ai 3 (Ag Cd (pxT 1) (pv 0)))
  (Ac (BV (Af Dz (Aa (pv 3) Ab)))
  (Ac (Ai 4 (Af PL (Aa (pv 1) Ab)))
  (Ac (Ai 5 (Ag Bv (Af Ud (Aa (pv 1) (Aa Ae (Aa (pv 2) Ab)))) (pv 0)))
  (Ac (Ai 6 (bY rfl rfl aM rfl Hv (Aa (pv 5) (Aa (Ag Cd (BL BR rfl DN xh (Aa (pv 4) Ab)) (pv 0)) (Aa (pv 0) Ab)))))
  (Ad (Ak (Af Jg (Aa (pv 3) (Aa (FZ rfl (Em ["number","R","day","size","days","first","places"] ["number","R","day","size","days","first","places"] rfl rfl (by with_unfolding_all rfl) ∅ rfl ∅ rfl ∅ (by walk_at"fm") (by with_unfolding_all rfl) (by with_unfolding_all rfl)) (Fx (pv 6)) (fun _ _ _ _=>FN) (fun _ _ _ _=>(Ag Bl (Ag Cd (Ag Bp (pv 0) (BL UG rfl DN xh (Aa (pv 5) Ab))) (CQ G6 (pv 2) Ae)) (CQ jW (pv 5) (Ag Bv (pv 0) (BL UG rfl DN xh (Aa (pv 5) Ab))) (fun _ _=>rfl))))) Ab))))))))))),?_⟩
 symm;exists⟨k,rfl,k1,?_⟩;exists An hS at0 ?_;exists Dj ⟨64,400,bn,bk,nofun⟩ ?_;refine⟨n*k,rfl,lz,?_⟩;have kn:=fP h0 (show 0<k by lia);symm;refine⟨a,n,b,rfl,hS,h0,h1,hb,fun ld H1 _ s1 t1=>?_⟩;have len:=YB b n.toNat;generalize hds:dli b n.toNat=ds at t1 len;have hS1:=s1.tup hS;symm;refine⟨a,n,0,d,b,rfl,hS1,h0,h1,hb,(by unfold Bt;decide),bd,fun H2 s2=>?_⟩;rw[OD,Int.sub_zero];symm;have f0:=ze (CC n b d) (show k≠0 by lia);have f1:=qo (CC n b d) (show 0<k by lia);have t2:=s2 _ _ t1;have hS2:=s2.tup hS1;refine⟨ld,_,rfl,.inl (SqL.of t2),?_⟩;rw[jp];symm;exists Sh ?_;have mk:(ds.length:Int)*k<=n*k:=jd6 ⋯ ⋯;have mk0:0<=(ds.length:Int)*k:=jh7 ⋯ ⋯;refine⟨CC n b d%k,(ds.length:Int)*k,k,ds.length,.inl rfl,⋯,⋯,JL ⋯ ⋯ ⋯ ⋯ ⋯ ⋯,?_,⋯,fun lp hlp=>?_⟩
 ·rw[HW ⋯];rcases ji0 ds.length with z | z
  ·rw[z,yb (by simp;lia)];rfl
  ·have e1:(ds.length:Int)*k-CC n b d%k-1=(k-1-CC n b d%k)+k*((ds.length:Int)-1):=by
    rw[Int.mul_sub,ji4 k];lia
   have e2:k<=(ds.length:Int)*k:=fP ⋯ ⋯;rw[xz ⋯,e1,Int.add_mul_ediv_left _ _ ⋯,jc8 ⋯ ⋯];lia
 have s3:=Av hlp (.lst ((List.range ds.length).map fun(i:Nat)=>V.int (CC n b d%k+(i:Int)*k)));have t3:=s3 _ _ t2;have p3:upd H2 lp (.lst ((List.range ds.length).map fun(i:Nat)=>V.int (CC n b d%k+(i:Int)*k))) lp=some (.lst ((List.range ds.length).map fun(i:Nat)=>V.int (CC n b d%k+(i:Int)*k))):=Am;have hS3:=s3.tup hS2;generalize upd H2 lp (.lst ((List.range ds.length).map fun(i:Nat)=>V.int (CC n b d%k+(i:Int)*k)))=H3 at s3 t3 p3 hS3 ⊢;symm;exists Gd (J4 ?_);refine⟨lp,rfl,⟨_,SqL.of p3⟩,?_⟩;refine Ig OJ ?_ (fun D' ys hD'=>(Av hD' _).seq (SqL.of p3)) (fun _=>true) (fun v=>match v with | .int P=>.int (Ka n ds P) | _=>.non) (fun x hx D' ys Q' hD' h=>h) (fun x hx _ D' ys Q' hD' h=>?_) (fun D' hD'=>?_)
 ·rw[jp,je7];exact uj (show ds.length<=150000 by lia) nofun
 ·obtain⟨i,hi,rfl⟩:=yy.mp hx;have hi':=jh8.mp hi;replace h:Q' (.int (Ka n ds (CC n b d%k+(i:Int)*k))) _:=h;have ik:(i:Int)*k<=(ds.length:Int)*k:=jd6 ⋯ ⋯;have ik0:0<=(i:Int)*k:=jh7 ⋯ ⋯;generalize hP:CC n b d%k+(i:Int)*k=P at h ⊢;have m0:=ze P (show (ds.length:Int)≠0 by lia);have m1:=qo P (show (0:Int)<(ds.length:Int) by lia);obtain⟨x,hx⟩:∃x,ds[(P%(ds.length:Int)).toNat]?=some x:=⟨_,zo ⋯⟩;have ed:Ka n ds P=P/(ds.length:Int)*n+x:=by
   unfold Ka;rw[hx];rfl
  rw[ed] at h;have P0:0<=P:=⋯;have P1:P/(ds.length:Int)<=P:=jj9 _ P0;have P2:0<=P/(ds.length:Int):=jl3 P0 ⋯;have t4:=Av hD' (.lst ys) _ _ t3;symm;refine⟨ld,_,rfl,.inl (SqL.of t4),?_⟩;rw[jp];symm;exists Dj (En ⋯ ⋯) ?_;refine An ((Av hD' _).tup hS3) at0 ?_;exists Dj ⟨64,64,Ca ⋯ ⋯ nofun,bn,nofun⟩ ?_;refine⟨ld,_,rfl,.inl (SqL.of t4),?_⟩;rw[jp];symm;rw[show P%(ds.length:Int)=(((P%(ds.length:Int)).toNat:Nat):Int) by lia];exists BP (SqL.of t4) (DY (ABJ hx)) ?_;exact h
 have e:((((List.range ds.length).map fun(i:Nat)=>V.int (CC n b d%k+(i:Int)*k)).filter fun _=>true).map fun v=>match v with | .int P=>V.int (Ka n ds P) | _=>.non)=(((List.range ds.length).map fun(i:Nat)=>Ka n ds (CC n b d%k+(i:Int)*k)).map V.int):=by
  rw[Qr.mpr (fun _ _=>rfl),va,va];rfl
 rw[e];symm;refine⟨D',_,n*k,rfl,SqL.of Am,⋯,lz,fun p c H5 s5 t5 B=>?_⟩;exact q p c H5 ((((s1.trans s2).trans s3).trans (Av hD' _)).trans s5) t5 (by unfold evl;rw[hds];exact B)
theorem j7:C0 1 "term_on" ["term","k"] mQ:=by
 refine co' ["term","k"] iM fun nd H vs Q E hr h=>?_;obtain⟨p,k,t,rfl,hp,ok,bk,q⟩:=h;have n0:=ok.n0;have n1:=ok.n1;have a0:=ok.a0;have a1:=ok.a1;exists⟨_,(Ad (Ak (HY xT (Ag Bl (Ag Bv (Ag Bl (Ag Cd (pxT 0) (pv 1)) (pxT 0)) (pxT 0)) (pxT 0)) (pxT 0) (Al _)))),?_⟩;exists An (SqT.of hp) rC ?_;exists Dj ⟨64,400,Ca ⋯ ⋯ nofun,bk,nofun⟩ ?_;exists An (SqT.of hp) wO ?_;exists An (SqT.of hp) Vm ?_;exists An (SqT.of hp) rC ?_;exists An (SqT.of hp) Vm ?_;exact q
theorem YH:C0 1 "signs_upto" ["terms","k"] (tK K):=by
 refine co' ["terms","k"] W8 fun nd H vs Q E hr h=>?_;obtain⟨p,k,ts,rfl,T,bk,q⟩:=h;obtain⟨us,hS,hT⟩:=T.ex;exists⟨_,(Ad (Ak (BL (Tz rfl) rfl lF jo3 (Aa (FZ rfl (Em ["terms","k"] ["terms","k"] rfl rfl (by with_unfolding_all rfl) ∅ rfl ∅ rfl ∅ (by walk_at"fm") (by with_unfolding_all rfl) (by with_unfolding_all rfl)) (Oz (pv 0)) (fun _ _ _ _=>FN) (fun _ _ _ _=>(Ag Cd (CQ G6 (pv 0) Ae) (Ag Bp (Ag Bl (Ag Cd (CQ G6 (pv 0) Ae) (pv 2)) (CQ G6 (pv 0) Ae)) (CQ G6 (pv 0) Ae))))) Ab)))),?_⟩;refine cU rfl hS (by rw[hT.len];exact Er (by have:=T.few;lia)) (fun v=>((Uz H v).map fun _=>true).getD false) (fun v=>((Uz H v).map fun t=>V.int (t.1*ctT t k)).getD .non) (fun x hx D ys Q' hD h=>?_) (fun x hx _ D ys Q' hD h=>?_) (fun D hD=>?_)
 ·obtain⟨a,t,rfl,ht,ha⟩:=hT.mem hx;rw[JK ha] at h;exact h
 ·obtain⟨a,t,rfl,ht,ha⟩:=hT.mem hx;rw[JK ha] at h;have ok:=T.ok t ht;have n0:=ok.n0;have n1:=ok.n1;have a0:=ok.a0;have a1:=ok.a1;have sg:=ok.sg;have b0:=ok.b0;have b1:=ok.b1;have ha':=Av hD (.lst ys) _ _ ha;symm;exists An (SqT.of ha') rD ?_;exists An (SqT.of ha') rC ?_;exists Dj ⟨64,400,Ca ⋯ ⋯ nofun,bk,nofun⟩ ?_;exists An (SqT.of ha') wO ?_;refine An (SqT.of ha') Vm ?_;refine Dj (En ⋯ ⋯) ?_;have bb:Bt 465 (t.2.1*k+t.2.2.1):=((show Bt 64 t.2.1 from Ca ⋯ ⋯ nofun).mul bk).add ((show Bt 64 t.2.2.1 from Ca ⋯ ⋯ nofun).mono nofun);refine Dj ⟨200,465,bt_of ⋯ ⋯,Us bb ⋯,nofun⟩ ?_;exact h
 rw[hT.fm (fun _=>true) fun t=>V.int (t.1*ctT t k),Qr.mpr (fun _ _=>rfl)];have e:(ts.map fun t=>V.int (t.1*ctT t k))=(ts.map fun t=>t.1*ctT t k).map V.int:=by rw[va];rfl
 rw[e];symm;refine⟨D,_,rfl,SqL.of Am,?_⟩;exact q _ (Av hD _)
theorem kI:C0 1 "is_term" ["term"] m8:=by
 refine co' ["term"] iW fun nd H vs Q E hr h=>?_;obtain⟨p,t,rfl,hp,ok,q⟩:=h;have n0:=ok.n0;have n1:=ok.n1;have a0:=ok.a0;have a1:=ok.a1;have sg:=ok.sg;have b0:=ok.b0;have b1:=ok.b1;refine⟨_,(Ac (Ay (PW.pt (J7 (Aj FQ (pxT 0) Ae (Al _)) (Hz (Aj FQ (pxT 0) (HQ Ff Ae) (Al _))))) (Ad (Ak M8)) Ao) (Ad (Ak (Sy (M7 Jo Jo Ae (pxT 0) (By rfl Xw (DW _ _))) (Sy (M7 Jo Jo Ae (pxT 0) (pxT 0)) (Xf (M7 Jo Fp Ae (pxT 0) (pxT 0)))))))),?_⟩
 symm;exists An (SqT.of hp) rD ?_;have rest:True:=trivial;rcases sg with e | e
 ·exists GK (xy V.int e) (Eg ?_);exists An (SqT.of hp) Vm ?_;exists Hc n0 ?_;rw[decide_eq_true n1];exists Ej ?_;exists An (SqT.of hp) rC ?_;exists Hc a0 ?_;exists An (SqT.of hp) Vm ?_;rw[decide_eq_true a1];exists Ej ?_;exists An (SqT.of hp) wO ?_;exists Hc b0 ?_;exists An (SqT.of hp) Vm ?_;rw[decide_eq_true b1];exact q
 ·refine qI (fun z=>by have:=V.int.inj z;lia) ?_;symm;exists An (SqT.of hp) rD ?_;exists GK (xy V.int e) ?_;exists An (SqT.of hp) Vm ?_;exists Hc n0 ?_;rw[decide_eq_true n1];exists Ej ?_;exists An (SqT.of hp) rC ?_;exists Hc a0 ?_;exists An (SqT.of hp) Vm ?_;rw[decide_eq_true a1];exists Ej ?_;exists An (SqT.of hp) wO ?_;exists Hc b0 ?_;exists An (SqT.of hp) Vm ?_;rw[decide_eq_true b1];exact q
theorem Hs:C0 1 "least_length" ["base","terms"] (tX K):=by
 refine co' ["base","terms"] Rv fun nd H vs Q E hr h=>?_;obtain⟨p,b,ts,rfl,T,q⟩:=h;obtain⟨us,hS,hT⟩:=T.ex;exists⟨_,(Ad (Ak (Ag Cy (pv 0) (BL BR rfl DN xh (Aa (FZ rfl (Gu ["base","terms"] rfl ∅ rfl ∅ rfl ∅ ∅) (Oz (pv 1)) (fun _ _ _ _=>(My (Aj Bh (CQ G6 (pv 0) Ae) (HQ Ff Ae) (Al _)))) (fun _ _ _ _=>(pv 0))) Ab))))),?_⟩;refine cU rfl hS (by rw[hT.len];exact Er (by have:=T.few;lia)) (fun v=>((Uz H v).map fun t=>decide (t.1= -1)).getD false) (fun v=>v) (fun x hx D ys Q' hD h=>?_) (fun x hx _ D ys Q' hD h=>h) (fun D hD=>?_)
 ·obtain⟨a,t,rfl,ht,ha⟩:=hT.mem hx;rw[JK ha] at h;symm;exists An (SqT.of (Av hD _ _ _ ha)) rD ?_;rw[qi];exact h
 symm;exists⟨D,_,rfl,.inl (SqL.of Am),?_⟩;have e:((us.filter fun v=>((Uz H v).map fun t=>decide (t.1= -1)).getD false).map fun v=>v).length=(ts.filter fun t=>decide (t.1= -1)).length:=by
  have:=xy List.length (hT.fm (fun t=>decide (t.1= -1)) (fun _=>V.non));rw[jp,jp] at this;rw[jp];exact this
 rw[e];exact q _ (Av hD _)
theorem PB:C0 2 "refuse_measure" ["base","terms"] (gq K):=by
 refine co' ["base","terms"] Oh fun nd H vs Q E hr h=>?_;obtain⟨p,b,ts,rfl,T,g,q⟩:=h;obtain⟨us,hS,hT⟩:=T.ex;have b0:=g.b0;have b1:=g.b1;have fl:=g.fl;have few:=T.few;refine⟨_,(Ac (Ay (PW.pt (Gk (Aj Fp (pv 0) Ae (Al _)) (FJ (Aj Ew (pv 0) (By rfl Qp (DW _ _)) (Al _)))))
  (Ad Bd)
  Ao)
  (Ac (Ay (Aj Ew (BL BR rfl DN xh (Aa (pv 1) Ab)) (By rfl Xu (DW _ _)) (Al _))
   (Ad Bd)
   Ao)
  (Ac (Ay (Hl (Fg (BL (UL rfl) rfl lH jo2 (Aa (FZ rfl (Gu ["base","terms"] rfl ∅ rfl ∅ rfl ∅ ∅) (Oz (pv 1)) (fun _ _ _ _=>FN) (fun _ _ _ _=>(Af kI (Aa (pv 0) Ab)))) Ab))))
   (Ad Bd)
   Ao)
  (Ad (Ay (Aj Fp (Af Hs (Aa (pv 0) (Aa (pv 1) Ab))) Ae (Al _))
   (Ad Bd)
   Ao))))),?_⟩
 symm;exists CK ⋯ ?_;exists CK ⋯ ?_;exists⟨p,us,rfl,.inr hS,?_⟩;refine CK (by rw[hT.len];lia) ?_;symm;refine cU rfl hS (by rw[hT.len];exact Er ⋯) (fun _=>true) (fun _=>.bl true) (fun x hx D ys Q' hD h=>h) (fun x hx _ D ys Q' hD h=>?_) (fun D hD=>?_)
 ·obtain⟨a,t,rfl,ht,ha⟩:=hT.mem hx;symm;exact⟨a,t,rfl,Av hD _ _ _ ha,T.ok t ht,h⟩
 have s1:=Av hD (.lst ((us.filter fun _=>true).map fun _=>V.bl true));have e:((us.filter fun _=>true).map fun _=>V.bl true)=(us.map fun _=>true).map V.bl:=by
  rw[Qr.mpr (fun _ _=>rfl),va];rfl
 symm;exists⟨D,us.map (fun _=>true),rfl,SqL.of (by rw[Am,e]),?_⟩;rw[show ((us.map fun _=>true).all id)=true from ja6.mpr (fun x hx=>by obtain⟨_,_,rfl⟩:=yy.mp hx;rfl)];exists Eg ?_;exists⟨p,b,ts,rfl,T.same s1,fun H2 s2=>?_⟩;exists CK ⋯ ?_;exact q _ (s1.trans s2)
theorem Z7:C0 4 "period_of" ["terms"] (my K):=by
 refine co' ["terms","told","term"] Y7 fun nd H vs Q E hr h=>?_;obtain⟨p,ts,rfl,T,q⟩:=h;obtain⟨us,hS,hT⟩:=T.ex;have few:=T.few;have ulen:=hT.len;refine⟨_,(Ac (Ai 1 Ae) (Ac (Ge PassesOwn.never rfl (Oz (pv 0)) (DX (i:=2) nd rfl (by walk_at"o")) (Ad (Ai 1 (Af Uh (Aa (pv 1) (Aa (pxT 2) Ab)))))) (Ad (Ak (pv 1))))),?_⟩
 symm;walk_at"f";symm;refine⟨p,rfl,⟨us,hS⟩,fY (xs:=us) (fun i Z' H'=>Aw H H'/\∃c:Option V,Z'=[some (.ref p),some (.int (PER (ts.take i))),c]) ⟨Aw.refl _,none,rfl⟩ ?_ ?_ ?_⟩
 ·rintro i Z' H' _ ⟨s,_⟩;exact s.tup hS
 ·rintro i x Z' H' hx ⟨s,c,rfl⟩;obtain⟨a,t,rfl,ht,ha⟩:=hT.at hx;have i6:i<6:=by
   have:=(xp.mp ht).1;lia
  obtain⟨h1,h2⟩:=Mz T.ok i ⋯;have h3:=zr (show i<=6 by lia);have ok:=T.ok t (xb ht);have n0:=ok.n0;have n1:=ok.n1;symm;exists An (SqT.of (s _ _ ha)) Vm ?_;exists⟨_,_,rfl,h1,⋯,Ca ⋯ ⋯ nofun,Ca ⋯ ⋯ nofun,fun H2 s2=>?_⟩;refine⟨s.trans s2,some (.ref a),?_⟩;have e2:PER (ts.take (i+1))=Cm (PER (ts.take i)) t.2.2.2:=by
   unfold PER;rw[ja0,ht,jd8,js2];rfl
  rw[e2]<;>rfl
 ·rintro Z' H' ⟨s,c,rfl⟩;symm;rw[ulen,jb7];exact q _ s
theorem Hu:CM0 2 Aq "upto" ["self","k"] (yX K Aq):=by
 refine cm' ["self","k"] R0 fun nd H vs Q E hr h=>?_;obtain⟨x,p,dx,k,b,ts,fs,rfl,hx,fb,ft,T,b0,b1,bk,q⟩:=h;exists⟨_,(Ad (Ak (Ag Bl (Ag Cd (Br (pv 0) (by rfl)) (pv 1)) (Af YH (Aa (Br (pv 0) (by rfl)) (Aa (pv 1) Ab)))))),?_⟩;exists⟨x,Aq,dx,fs,_,rfl,hx,BW,DG,fb,?_⟩;exists Dj ⟨64,400,Ca ⋯ ⋯ nofun,bk,nofun⟩ ?_;exists⟨x,Aq,dx,fs,_,rfl,hx,BW,CW,ft,?_⟩;exists⟨p,k,ts,rfl,T,bk,fun H' s=>?_⟩;exact q _ s
theorem Lh:CZ ["self","base","terms"] ["self","base","terms"] (Az GC):=by walk_at"s"
theorem Li{ds:Array Value}(F:Kw K "__init__" "Measure.__init__" GC f fd ds):F0 5 f fd ["self","base","terms"] (W0 K Aq):=by
 refine F.ok (k:=4) Lh (fun h=>?_) fun nd H vs Q E hr h=>?_
 ·obtain⟨x,dx,b,v,us,ts,rfl,_⟩:=h;rfl
 obtain⟨x,dx,b,v,us,ts,rfl,hx,hT,hv,ok,few,g,po,q⟩:=h;refine⟨_,(Ac (Fi (pv 0) (pv 1) (by rfl)) (Ac (Fi (pv 0) (Do (Aj J9 (pv 2) Fj (Al _)) (BK Ab) (Bu Ip rfl Wj jm1 (Aa (pv 2) Ab))) (by rfl)) (Ac (BV (Af PB (Aa (Br (pv 0) (by rfl)) (Aa (Br (pv 0) (by rfl)) Ab)))) (Ac (Fi (pv 0) (Af Z7 (Aa (Br (pv 0) (by rfl)) Ab)) (by rfl)) (Ac (Fi (pv 0) (Cq Hu BW (pv 0) (Aa (Br (pv 0) (by rfl)) Ab)) (by rfl)) (Ad (Ay (Aj Bh (Br (pv 0) (by rfl)) Ae (Al _)) (Ad Bd) Ao))))))),?_⟩
 symm;refine⟨x,Aq,dx,[],rfl,hx,BW,DG,nofun,?_⟩;have k1:∀y o,y≠x->H y=some o->upd H x (.ins Aq dx (Ea "base" (.int b) [])) y=some o:=fun y o hy h=>by rw[Ax hy];exact h
 have x1:upd H x (.ins Aq dx (Ea "base" (.int b) [])) x=some (.ins Aq dx [("base",.int b)]):=Am;generalize upd H x (.ins Aq dx (Ea "base" (.int b) []))=H1 at k1 x1 ⊢;have tmk:∀{H':Hp},(∀y o,y≠x->H y=some o->H' y=some o)->Tms H' us ts:=fun{H'} k=>by
  have:∀{vs:List V} {ts:List Tm},Tms H vs ts->Tms H' vs ts:=fun{vs ts} h=>by
   induction h with
   | nil=>exact .nil
   | cons h _ ih=>exact .cons (k _ _ (fun e=>by subst e;rw[hx] at h;cases h) h) ih
  exact this hT
 symm;rcases hv with ⟨rfl,eu⟩ | ⟨l,rfl,hl⟩
 all_goals refine⟨rfl,?_⟩
 all_goals symm
 all_goals first | refine Hc rfl ?_ | refine CK (fun z=>by cases z) ?_
 all_goals symm
 all_goals first
  | refine⟨l,us,rfl,.inl ⟨SqL.of (k1 _ _ (G5 hl hx (by intro z;cases z)) hl),fun p hp=>?_⟩⟩
  | (refine ⟨vt _,fun p hp=>?_⟩
     rw[show upd H1 p (.tup [])=upd H1 p (.tup us) by rw[eu]])
 all_goals
  have px:x≠p:=Bj x1 hp;symm;refine⟨x,Aq,dx,_,rfl,by rw[Ax px];exact x1,BW,CW,(by show 1<1000;decide),?_⟩;have k2:∀y o,y≠x->H1 y=some o->upd (upd H1 p (.tup us)) x (.ins Aq dx (Ea "terms" (.ref p) [("base",.int b)])) y=some o:=fun y o hy h=>by
   rw[Ax hy];exact Av hp _ _ _ h
  have x2:upd (upd H1 p (.tup us)) x (.ins Aq dx (Ea "terms" (.ref p) [("base",.int b)])) x=some (.ins Aq dx [("base",.int b),("terms",.ref p)]):=Am;have p2:upd (upd H1 p (.tup us)) x (.ins Aq dx (Ea "terms" (.ref p) [("base",.int b)])) p=some (.tup us):=by rw[Ax (Ne.symm px),Am]
  generalize upd (upd H1 p (.tup us)) x (.ins Aq dx (Ea "terms" (.ref p) [("base",.int b)]))=H2 at k2 x2 p2 ⊢;have k02:∀y o,y≠x->H y=some o->H2 y=some o:=fun y o hy h=>k2 y o hy (k1 y o hy h);have T2:TmT K H2 p ts:=⟨⟨us,SqT.of p2,tmk k02⟩,ok,few⟩;symm;exists⟨x,Aq,dx,_,_,rfl,x2,BW,DG,rfl,?_⟩;exists⟨x,Aq,dx,_,_,rfl,x2,BW,CW,rfl,?_⟩;refine⟨p,b,ts,rfl,T2,g,fun H3 s3=>?_⟩;have x3:=s3 _ _ x2;symm;exists⟨x,Aq,dx,_,_,rfl,x3,BW,CW,rfl,?_⟩;refine⟨p,ts,rfl,T2.same s3,fun H4 s4=>?_⟩;have x4:=s4 _ _ x3;have p4:=(s3.trans s4) _ _ p2;symm;refine⟨x,Aq,dx,_,rfl,x4,BW,Ec,(by show 2<1000;decide),?_⟩;have pne:p≠x:=Ne.symm px;have k5:∀y o,y≠x->H4 y=some o->upd H4 x (.ins Aq dx (Ea "full_count" (.int (PER ts)) [("base",.int b),("terms",.ref p)])) y=some o:=fun y o hy h=>by rw[Ax hy];exact h
  have x5:upd H4 x (.ins Aq dx (Ea "full_count" (.int (PER ts)) [("base",.int b),("terms",.ref p)])) x=some (.ins Aq dx [("base",.int b),("terms",.ref p),("full_count",.int (PER ts))]):=Am;generalize upd H4 x (.ins Aq dx (Ea "full_count" (.int (PER ts)) [("base",.int b),("terms",.ref p)]))=H5 at k5 x5 ⊢;have k05:∀y o,y≠x->H y=some o->H5 y=some o:=fun y o hy h=>k5 y o hy ((s3.trans s4) _ _ (k02 y o hy h));have T5:TmT K H5 p ts:=⟨⟨us,SqT.of (k5 _ _ pne p4),tmk k05⟩,ok,few⟩;obtain⟨h1,h2⟩:=Mz ok 6 nofun;rw[vn few] at h1 h2;have h3:=zr (show 6<=6 by decide);symm;exists⟨x,dx,_,rfl,x5,rfl,?_⟩;exists⟨x,Aq,dx,_,_,rfl,x5,BW,Ec,rfl,?_⟩;refine⟨x,p,dx,PER ts,b,ts,_,rfl,x5,rfl,rfl,T5,g.b0,g.b1,Ca ⋯ ⋯ nofun,fun H6 s6=>?_⟩;have x6:=s6 _ _ x5;symm;refine⟨x,Aq,dx,_,rfl,x6,BW,Gg,(by show 3<1000;decide),?_⟩;have k7:∀y o,y≠x->H6 y=some o->upd H6 x (.ins Aq dx (Ea "full_sum" (.int (UP b ts (PER ts))) [("base",.int b),("terms",.ref p),("full_count",.int (PER ts))])) y=some o:=fun y o hy h=>by rw[Ax hy];exact h
  have x7:upd H6 x (.ins Aq dx (Ea "full_sum" (.int (UP b ts (PER ts))) [("base",.int b),("terms",.ref p),("full_count",.int (PER ts))])) x=some (.ins Aq dx (mF b p (PER ts) (UP b ts (PER ts)))):=Am;generalize upd H6 x (.ins Aq dx (Ea "full_sum" (.int (UP b ts (PER ts))) [("base",.int b),("terms",.ref p),("full_count",.int (PER ts))]))=H7 at k7 x7 ⊢;have k07:∀y o,y≠x->H y=some o->H7 y=some o:=fun y o hy h=>k7 y o hy (s6 _ _ (k05 y o hy h));symm;exists⟨x,Aq,dx,_,_,rfl,x7,BW,Gg,rfl,?_⟩;refine CK (fun z=>by have:=V.int.inj z;lia) ?_;symm;refine q _ k07 ⟨⟨dx,p,x7,⟨us,SqT.of (k7 _ _ pne (s6 _ _ (k5 _ _ pne p4))),tmk k07⟩,ok,few⟩,g,po⟩
theorem Mg:CI0 5 "Measure" Aq ["self","base","terms"] (W0 K Aq):=UV (st:=GC) (ds:= #[.none]) gX gG (by walk_at"k") (by walk_at"k") (by walk_at"k") (by walk_at"dm") (fun _ _ _ _ _ _ _ us hl=>by obtain⟨_,_,_,rfl⟩:=AAZ hl;exact⟨_,rfl,rfl⟩) Li
theorem YM:CM0 2 Aq "at" ["self","k"] (ADW K Aq):=by
 refine cm' ["self","k"] XN fun nd H vs Q E hr h=>?_;obtain⟨x,k,b,ts,rfl,M,bk,q⟩:=h;obtain⟨dx,p,hx,T⟩:=M.ex;obtain⟨us,hS,hT⟩:=T.ex;exists⟨_,(Ad (Ak (Ag Bl (Br (pv 0) (by rfl)) (BL (Tz rfl) rfl lF jo3 (Aa (FZ rfl (Em ["self","k"] ["self","k"] rfl rfl (by with_unfolding_all rfl) ∅ rfl ∅ rfl ∅ (by walk_at"fm") (by with_unfolding_all rfl) (by with_unfolding_all rfl)) (Oz (Br (pv 0) (by rfl))) (fun _ _ _ _=>(My (Fg (Af j7 (Aa (pv 0) (Aa (pv 2) Ab)))))) (fun _ _ _ _=>(CQ G6 (pv 0) Ae))) Ab))))),?_⟩;exists⟨x,Aq,dx,_,_,rfl,hx,BW,DG,rfl,?_⟩;exists Gd (xP ?_);refine⟨x,Aq,dx,_,_,rfl,hx,BW,CW,rfl,?_⟩;refine⟨p,rfl,⟨_,hS⟩,Ig lJ (by rw[hT.len];exact Er (by have:=T.few;lia)) (fun D ys hD=>(Av hD _).tup hS) (fun v=>((Uz H v).map fun t=>onT t k).getD false) (fun v=>((Uz H v).map fun t=>V.int t.1).getD .non) (fun y hy D ys Q' hD h=>?_) (fun y hy _ D ys Q' hD h=>?_) (fun D hD=>?_)⟩
 ·obtain⟨a,t,rfl,ht,ha⟩:=hT.mem hy;rw[JK ha] at h;symm;exact⟨a,k,t,rfl,Av hD _ _ _ ha,T.ok t ht,bk,⟨_,rfl,h⟩⟩
 ·obtain⟨a,t,rfl,ht,ha⟩:=hT.mem hy;rw[JK ha] at h;symm;refine An (SqT.of (Av hD _ _ _ ha)) rD ?_;exact h
 rw[hT.fm (fun t=>onT t k) fun t=>V.int t.1];have e:((ts.filter fun t=>onT t k).map fun t=>V.int t.1)=((ts.filter fun t=>onT t k).map fun t=>t.1).map V.int:=by rw[va];rfl
 rw[e];symm;exists⟨D,_,rfl,SqL.of Am,?_⟩;exact q _ (Av hD _)
theorem PQ:CM0 1 Aq "period" ["self"] (ABo K Aq):=by
 refine cm' ["self"] Om fun nd H vs Q E hr h=>?_;obtain⟨x,b,ts,rfl,M,q⟩:=h;obtain⟨dx,p,hx,T⟩:=M.ex;exists⟨_,(Ad (Ak (Br (pv 0) (by rfl)))),?_⟩;refine⟨x,Aq,dx,_,_,rfl,hx,BW,Ec,rfl,?_⟩;exact q
theorem Qu:C0 1 "refuse_months" ["lengths","leap"] (tL K):=by
 refine co' ["lengths","leap"] Qd fun nd H vs Q E hr h=>?_;obtain⟨l,lp,ls,ts,rfl,hS,g,q⟩:=h;have l0:=g.l0;have l1:=g.l1;have p0:=g.p0;have p1:=g.p1;have ne:ls≠[]:=fun z=>by rw[z] at l0;simp at l0
 refine⟨_,(Ac (Ay (PW.pt (Gk (Aj Fp (BL BR rfl DN xh (Aa (pv 0) Ab)) Ae (Al _)) (FJ (Aj Ew (BL BR rfl DN xh (Aa (pv 0) Ab)) (By rfl Vh (DW _ _)) (Al _))))) (Ad Bd) Ao) (Ac (Ay (PW.pt (Gk (Aj Fp (BL (jz rfl) rfl lG PyProof.Rows.boot_min (Aa (pv 0) Ab)) Ae (Al _)) (FJ (Aj Ew (BL (j5 rfl) rfl ABc PyProof.Rows.boot_max (Aa (pv 0) Ab)) (By rfl Qo (DW _ _)) (Al _))))) (Ad Bd) Ao) (Ad (Ay (PW.pt (Gk (Aj Fp (pv 1) Ae (Al _)) (FJ (Aj Ew (pv 1) (BL BR rfl DN xh (Aa (pv 0) Ab)) (Al _))))) (Ad Bd) Ao)))),?_⟩
 symm;refine⟨l,_,rfl,.inl hS,?_⟩;rw[jp];symm;exists CK ⋯ ?_;refine⟨l,_,rfl,.inl hS,?_⟩;rw[jp];symm;exists CK ⋯ ?_;refine⟨l,ls,rfl,hS,ne,fun m hm _=>?_⟩;have:=g.m m hm;symm;exists CK ⋯ ?_;refine⟨l,ls,rfl,hS,ne,fun m hm _=>?_⟩;have:=g.m m hm;symm;exists CK ⋯ ?_;exists CK ⋯ ?_;refine⟨l,_,rfl,.inl hS,?_⟩;rw[jp];symm;exists CK ⋯ ?_;exact q
theorem Qa:CZ ["self","start","lengths","leap","terms"] ["self","start","lengths","leap","terms"] (Az Ga):=by walk_at"s"
theorem Jp{ds:Array Value}(F:Kw K "__init__" "Sun.__init__" Ga f fd ds):F0 7 f fd ["self","start","lengths","leap","terms"] (Q9 K Bk Aq):=by
 refine F.ok (k:=6) Qa (fun h=>?_) fun nd H vs Q E hr h=>?_
 ·obtain⟨x,dx,ll,s,lp,v,us,ls,ts,rfl,_⟩:=h;rfl
 obtain⟨x,dx,ll,s,lp,v,us,ls,ts,rfl,hx,hl,hT,hv,g,bs,q⟩:=h;have lx:ll≠x:=G5 hl hx (by intro z;cases z);have l0:=g.l0;have l1:=g.l1;have p0:=g.p0;have p1:=g.p1;have f0:=g.f0;have f1:=g.f1;refine⟨_,(Ac (BV (Af Qu (Aa (pv 2) (Aa (pv 3) Ab))))
  (Ac (Fi (pv 0) (pv 1) (by rfl))
  (Ac (Fi (pv 0) (Bu Ip rfl Wj jm1 (Aa (pv 2) Ab)) (by rfl))
  (Ac (Fi (pv 0) (pv 3) (by rfl))
  (Ac (Fi (pv 0) (Gf Mg (Aa (BL (Tz rfl) rfl lF jo3 (Aa (pv 2) Ab)) (Aa (pv 4) Ab))) (by rfl))
  (Ac (Ay (Aj Fp (Af Hs (Aa (CQ Ce (pv 2) (Ag Cy (pv 3) Ae) (fun _ _=>rfl)) (Aa (Br (Br (pv 0) (by rfl)) (by rfl)) Ab))) Ae (Al _))
   (Ad Bd)
   Ao)
  (Ad (Ay (Aj Fp (Af Hs (Aa (Br (Br (pv 0) (by rfl)) (by rfl)) (Aa (Br (Br (pv 0) (by rfl)) (by rfl)) Ab))) Ae (Al _))
   (Ad Bd)
   Ao)))))))),?_⟩
 symm;exists⟨ll,lp,ls,ts,rfl,SqL.of hl,g,?_⟩;refine⟨x,Bk,dx,[],rfl,hx,CP,Jr,nofun,?_⟩;have k1:But x H (upd H x (.ins Bk dx (Ea "start" (.int s) []))):=But.upd;have x1:upd H x (.ins Bk dx (Ea "start" (.int s) [])) x=some (.ins Bk dx [("start",.int s)]):=Am;generalize upd H x (.ins Bk dx (Ea "start" (.int s) []))=H1 at k1 x1 ⊢;symm;refine⟨ll,_,rfl,.inl ⟨SqL.of (k1 _ _ lx hl),fun p hp=>?_⟩⟩;have px:x≠p:=Bj x1 hp;symm;refine⟨x,Bk,dx,_,rfl,by rw[Ax px];exact x1,CP,JD,(by show 1<1000;decide),?_⟩;have k2:But x H1 (upd (upd H1 p (.tup (ls.map V.int))) x (.ins Bk dx (Ea "months" (.ref p) [("start",.int s)]))):=fun y o hy h=>by
  rw[Ax hy];exact Av hp _ _ _ h
 have x2:upd (upd H1 p (.tup (ls.map V.int))) x (.ins Bk dx (Ea "months" (.ref p) [("start",.int s)])) x=some (.ins Bk dx [("start",.int s),("months",.ref p)]):=Am;have t2:upd (upd H1 p (.tup (ls.map V.int))) x (.ins Bk dx (Ea "months" (.ref p) [("start",.int s)])) p=some (.tup (ls.map V.int)):=by rw[Ax (Ne.symm px),Am]
 generalize upd (upd H1 p (.tup (ls.map V.int))) x (.ins Bk dx (Ea "months" (.ref p) [("start",.int s)]))=H2 at k2 x2 t2 ⊢;symm;refine⟨x,Bk,dx,_,rfl,x2,CP,Hq,(by show 2<1000;decide),?_⟩;have k3:But x H2 (upd H2 x (.ins Bk dx (Ea "leap" (.int lp) [("start",.int s),("months",.ref p)]))):=But.upd;have x3:upd H2 x (.ins Bk dx (Ea "leap" (.int lp) [("start",.int s),("months",.ref p)])) x=some (.ins Bk dx [("start",.int s),("months",.ref p),("leap",.int lp)]):=Am;generalize upd H2 x (.ins Bk dx (Ea "leap" (.int lp) [("start",.int s),("months",.ref p)]))=H3 at k3 x3 ⊢;have k03:But x H H3:=fun y o hy h=>k3 y o hy (k2 y o hy (k1 y o hy h));have l3:=k03 _ _ lx hl;have t3:=k3 _ _ (Ne.symm px) t2;symm;exists⟨ll,ls,rfl,SqL.of l3,?_⟩;refine fun y dy hy hdy ne=>vU hy hdy ne (hT.but hx .ins k03) ?_ g.ok g.few g.gm g.po fun H4 s4 M4=>⟨rfl,?_⟩
 ·rcases hv with z | ⟨l,z,e⟩
  ·exact .inl z
  ·exact .inr ⟨l,z,k03 _ _ (G5 e hx (by intro z;cases z)) e⟩
 have x4:=s4 _ _ x3;have yx:y≠x:=fun e=>by subst e;rw[x3] at hy;cases hy
 symm;refine⟨x,Bk,dx,_,rfl,x4,CP,Cg,(by show 3<1000;decide),?_⟩;have k5:But x H4 (upd H4 x (.ins Bk dx (Ea "years" (.ref y) [("start",.int s),("months",.ref p),("leap",.int lp)]))):=But.upd;have x5:upd H4 x (.ins Bk dx (Ea "years" (.ref y) [("start",.int s),("months",.ref p),("leap",.int lp)])) x=some (.ins Bk dx (sF s lp p y)):=Am;generalize upd H4 x (.ins Bk dx (Ea "years" (.ref y) [("start",.int s),("months",.ref p),("leap",.int lp)]))=H5 at k5 x5 ⊢;have M5:=M4.butX x4 .ins yx k5;have t5:=k5 _ _ (Ne.symm px) (s4 _ _ t3);have l5:=k5 _ _ lx (s4 _ _ l3);have k05:∀y o,y≠x->H y=some o->H5 y=some o:=fun y o hy h=>k5 y o hy (s4 _ _ (k03 y o hy h));obtain⟨d5,tp,e5,T5⟩:=M5.ex;have elp:lp-1=(((lp-1).toNat:Nat):Int):=⋯;have hat:atI (ls.map V.int) (lp-1)=some (V.int (ls.getD (lp-1).toNat 0)):=by
  conv=>lhs;rw[elp]
  refine DY ?_;rw[qq,jj5,zo ⋯];rfl
 symm;exists BP (SqL.of l5) hat ?_;exists⟨x,Bk,dx,_,_,rfl,x5,CP,Cg,rfl,?_⟩;exists⟨y,Aq,d5,_,_,rfl,e5,BW,CW,rfl,?_⟩;exists⟨tp,_,ts,rfl,T5,fun H6 s6=>?_⟩;exists CK ⋯ ?_;have x6:=s6 _ _ x5;have e6:=s6 _ _ e5;exists⟨x,Bk,dx,_,_,rfl,x6,CP,Cg,rfl,?_⟩;exists⟨y,Aq,d5,_,_,rfl,e6,BW,DG,rfl,?_⟩;exists⟨x,Bk,dx,_,_,rfl,x6,CP,Cg,rfl,?_⟩;exists⟨y,Aq,d5,_,_,rfl,e6,BW,CW,rfl,?_⟩;exists⟨tp,_,ts,rfl,T5.same s6,fun H7 s7=>?_⟩;exists CK ⋯ ?_;refine q _ (fun y o hy h=>s7 _ _ (s6 _ _ (k05 y o hy h))) ⟨⟨dx,p,y,s7 _ _ x6,SqT.of (s7 _ _ (s6 _ _ t5)),(M5.same s6).same s7⟩,g,bs⟩
theorem Ul:CI0 7 "Sun" Bk ["self","start","lengths","leap","terms"] (Q9 K Bk Aq):=UV (st:=Ga) (ds:= #[(.int 1 Fz),.none]) gX gG (by walk_at"k") (by walk_at"k") (by walk_at"k") (by walk_at"dm") (fun _ _ _ _ _ _ _ us hl=>by obtain⟨_,_,_,_,_,rfl⟩:=AAX hl;exact⟨_,rfl,rfl⟩) Jp
theorem Nr:rQ P w K mg base CX0 7 "Sun" Bk ["self","start","lengths","leap","terms"] [(.int 1),.non] (Q9 K Bk Aq):=j6 (st:=Ga) (ds:= #[(.int 1 Fz),.none]) (dv:=[(.int 1 Fz),.none]) 3 rfl gX gG (by walk_at"k") (by walk_at"k") (by walk_at"k") (by walk_at"dm") (fun _ _ _ _ _ _ _ us hl=>by obtain⟨_,_,_,rfl⟩:=AAZ hl;exact⟨_,rfl,rfl⟩) (.cons (by first | exact rfl | exact DW _ _ | trivial) (.cons (by first | exact rfl | exact DW _ _ | trivial) .nil)) Jp
theorem PP:CM0 3 Bk "year_start" ["self","year"] (ADQ K Bk Aq):=by
 refine cm' ["self","year"] Oj fun nd H vs Q E hr h=>?_;obtain⟨x,n,s,ls,lp,ts,rfl,S,bn,q⟩:=h;obtain⟨dx,p,y,hx,hp,M⟩:=S.ex;obtain⟨d,fs,ey,ly⟩:=M.meth;obtain⟨d2,tp,e2,T2⟩:=M.ex;exists⟨_,(Ad (Ak (Ag Bl (Br (pv 0) (by rfl)) (Cq Hu BW (Br (pv 0) (by rfl)) (Aa (pv 1) Ab))))),?_⟩;exists⟨x,Bk,dx,_,_,rfl,hx,CP,Jr,rfl,?_⟩;exists⟨x,Bk,dx,_,_,rfl,hx,CP,Cg,rfl,?_⟩;exists⟨y,d,fs,rfl,ey,ly.2.2.1,?_⟩;exists⟨y,tp,d2,n,_,ts,_,rfl,e2,rfl,rfl,T2,M.gd.b0,M.gd.b1,bn.mono nofun,fun H' s'=>?_⟩;exact q _ s'
theorem Vl:CM0 3 Bk "lengths" ["self","year"] (yz K Bk Aq):=by
 refine cm' ["self","year","told"] VR fun nd H vs Q E hr h=>?_;obtain⟨x,n,s,ls,lp,ts,rfl,S,bn,q⟩:=h;obtain⟨dx,p,y,hx,hp,M⟩:=S.ex;have g:=S.gd;have p0:=g.p0;have p1:=g.p1;have elp:lp-1=(((lp-1).toNat:Nat):Int):=⋯;generalize hi:(lp-1).toNat=i at elp;have il:i<ls.length:=⋯;refine⟨_,(Ac (Ai 2 (Bu YD rfl aM PyProof.Rows.boot_list (Aa (Br (pv 0) (by rfl)) Ab)))
  (Ac (oM (Ag Cy (Ag Bl (CQ Ce (pv 2) (Ag Cy (Br (pv 0) (by rfl)) Ae) (fun _ _=>rfl)) (Cq YM BW (Br (pv 0) (by rfl)) (Aa (pv 1) Ab))) (Br (Br (pv 0) (by rfl)) (by rfl))) (oW (pv 2) (Ag Cy (Br (pv 0) (by rfl)) Ae) set_list))
  (Ad (Ak (pv 2))))),?_⟩
 symm;exists⟨x,Bk,dx,_,_,rfl,hx,CP,JD,rfl,?_⟩;refine⟨p,_,rfl,.inr hp,fun l hl=>?_⟩;refine fresh hl fun H1 s1 t1=>?_;have M1:=M.same s1;obtain⟨d1,fs,e1,l1⟩:=M1.meth;obtain⟨d2,tp,e2,T2⟩:=M1.ex;have x1:=s1 _ _ hx;symm;exists⟨x,Bk,dx,_,_,rfl,x1,CP,Hq,rfl,?_⟩;rw[elp];have hat:atI (ls.map V.int) (i:Int)=some (V.int (ls.getD i 0)):=by
  refine DY ?_;rw[qq,jj5,zo il];rfl
 exists BP (SqL.of t1) hat ?_;exists⟨x,Bk,dx,_,_,rfl,x1,CP,Cg,rfl,?_⟩;exists⟨y,d1,fs,rfl,e1,l1.2.1,?_⟩;refine⟨y,n,_,ts,rfl,M1,bn.mono nofun,fun H2 s2=>?_⟩;have x2:=s2 _ _ x1;symm;exists⟨x,Bk,dx,_,_,rfl,x2,CP,Cg,rfl,?_⟩;exists⟨y,Aq,d2,_,_,rfl,s2 _ _ e2,BW,DG,rfl,?_⟩;exists⟨x,Bk,dx,_,_,rfl,x2,CP,Hq,rfl,?_⟩;rw[elp];have t2:=s2 _ _ t1;refine eE t2 (by rw[jp];exact il) ?_;symm;have ev:ls.getD i 0+AT ls.sum ts n-ls.sum=ls.getD i 0+ONS ts n:=by
  unfold AT;lia
 rw[ev];have el:(ls.map V.int).set i (V.int (ls.getD i 0+ONS ts n))=(aJ ls lp ts n).map V.int:=by
  unfold aJ;rw[hi,List.map_set]
 rw[el];refine q l _ hl (fun b o h=>?_) Am;rw[Ax (Bj h hl)];exact s2 _ _ (s1 _ _ h)
theorem aD:CM0 3 Bk "cycle" ["self"] (ABy K Bk Aq):=by
 refine cm' ["self","years"] ZL fun nd H vs Q E hr h=>?_;obtain⟨x,s,ls,lp,ts,rfl,S,q⟩:=h;obtain⟨dx,p,y,hx,hp,M⟩:=S.ex;obtain⟨d,fs,ey,ly⟩:=M.meth;obtain⟨d2,tp,e2,T2⟩:=M.ex;have pp:=eN S.gd.ok S.gd.few;refine⟨_,(Ac (Ai 1 (DR PQ BW (Br (pv 0) (by rfl)))) (Ad (Ak (BK (Aa (pv 1) (Aa (Cq Hu BW (Br (pv 0) (by rfl)) (Aa (pv 1) Ab)) Ab)))))),?_⟩
 symm;exists⟨x,Bk,dx,_,_,rfl,hx,CP,Cg,rfl,?_⟩;exists⟨y,d,fs,rfl,ey,ly.2.2.2,?_⟩;exists⟨y,_,ts,rfl,M,?_⟩;exists⟨x,Bk,dx,_,_,rfl,hx,CP,Cg,rfl,?_⟩;exists⟨y,d,fs,rfl,ey,ly.2.2.1,?_⟩;exists⟨y,tp,d2,_,_,ts,_,rfl,e2,rfl,rfl,T2,M.gd.b0,M.gd.b1,Ca ⋯ ⋯ nofun,fun H' s'=>?_⟩;refine⟨two,fun c hc=>?_⟩;exact q _ _ (s'.trans (Av hc _)) Am
theorem Qt:C0 2 "refuse_wanted" ["month","day","step"] sZ:=by
 refine co' ["month","day","step"] Qc (len:=by intro _ _ _ _ h;obtain⟨m,d,st,rfl,_⟩:=h;cases m<;>cases d<;>rfl) fun nd H vs Q E hr h=>?_;obtain⟨m,d,st,rfl,m0,d0,st1,q⟩:=h;refine⟨_,(Ac (Dm (Ay (Aj fB (pv 0) Fj (Al _)) (Ad (BV (Af Cj (Aa (pv 0) Ab)))) Ao)) (Ac (Ay (Aj Bh (pv 1) Ae (Al _)) (Ad Bd) Ao) (Ad (BV (Af Cj (Aa (pv 2) Ab)))))),?_⟩
 symm;refine De (fun Z' H'=>H'=H/\Z'=[some (oI m),some (oI d),some (.int st)]) ?_ ?_
 ·symm;exists⟨rfl,?_⟩;cases m with
  | none=>
   exists Eg ?_;exact⟨rfl,rfl⟩
  | some i=>
   exists Ej ?_;exact⟨i,rfl,m0 i rfl,⟨rfl,rfl⟩⟩
 rintro Z' H' ⟨rfl,rfl⟩;cases d with
 | none=>
  symm;exists CK (fun e=>nomatch e) ?_;exact⟨st,rfl,st1,q⟩
 | some i=>
  symm;exists CK (fun e=>d0 (xy some (V.int.inj e))) ?_;exact⟨st,rfl,st1,q⟩
theorem Qw:C0 1 "days_of_month" ["first","length","day"] uC:=by
 refine co' ["first","length","day","place"] Qg (len:=by intro _ _ _ _ h;obtain⟨f,n,d,rfl,_⟩:=h;cases d<;>rfl) fun nd H vs Q E hr h=>?_;obtain⟨f,n,d,rfl,n0,n1,q⟩:=h;refine⟨_,(Ac (Ay (Aj J9 (pv 2) Fj (Al _)) (Ad (Ak (bW rfl rfl aM rfl Hv (Aa (pv 0) (Aa (Ag Bl (pv 0) (pv 1)) Ab))))) Ao) (Ac (Dm (Ai 3 (Do (Aj Ew (pv 2) Ae (Al _)) (Ag Cy (pv 2) Ae) (Ag Bl (pv 1) (pv 2))))) (Ac (Ay (PW.pt (Gk (Aj Fp (pv 3) Ae (Al _)) (FJ (Aj xT (pv 3) (pv 1) (Al _))))) (Ad (Ak (Eb Ab))) Ao) (Ad (Ak (Eb (Aa (Ag Bl (pv 0) (pv 3)) Ab))))))),?_⟩
 cases d with
 | none=>
  symm;exists⟨rfl,?_⟩;exists Ej ?_;refine⟨f,f+n,rfl,⋯,⋯,fun l hl=>?_⟩;refine q l _ hl (Av hl _) ?_;rw[Am,show f+n-f=n by lia];unfold X8;rw[va];rfl
 | some i=>
  rw[show oI (some i)=V.int i from rfl];symm;exists⟨rfl,?_⟩;exists Eg ?_;refine De (fun Z' H'=>H'=H/\Z'=[some (.int f),some (.int n),some (.int i),some (.int (plD n i))]) ?_ ?_
  ·symm;refine Bs (fun h=>?_) (fun h=>?_)
   ·rw[show plD n i=i-1 from xz h];symm;exact⟨rfl,rfl⟩
   ·rw[show plD n i=n+i from yb h];symm;exact⟨rfl,rfl⟩
  rintro Z' H' ⟨rfl,rfl⟩;simp only[X8] at q;generalize plD n i=pl at*
  symm;refine Bs (fun h1=>Ej ?_) (fun h1=>?_)
  ·rw[xz (.inl h1)] at q;symm;refine⟨vt _,fun l hl=>?_⟩;exact q l _ hl (Av hl _) Am
  symm;refine Bs (fun h2=>?_) (fun h2=>?_)
  ·rw[xz (.inr h2)] at q;symm;refine⟨vt _,fun l hl=>?_⟩;exact q l _ hl (Av hl _) Am
  ·rw[yb (fun z=>z.elim h1 h2)] at q;symm;refine⟨(by show 1<=sizeLine;decide),fun l hl=>?_⟩;exact q l _ hl (Av hl _) Am
theorem Ug:C0 4 "days_of_year" ["calendar","year","month","day"] (zH K Bk Aq):=by
 refine co' ["calendar","year","month","day","told","first","number","length"] Rx (len:=by intro _ _ _ _ h;obtain⟨x,g,y,m,d,rfl,_⟩:=h;cases m<;>cases d<;>rfl) fun nd H vs Q E hr h=>?_;obtain⟨x,g,y,m,i,rfl,S,y0,y1,q⟩:=h;have by':Bt 390 y:=Ca y0 ⋯ nofun;have lm:=rK (Hi.gd S) y;have ln:(g.L y).length<=20:=by unfold Bg.L;rw[rM];exact(Hi.gd S).l1
 refine⟨_,(Ac (Ai 4 (Eb Ab)) (Ac (Ai 5 (Cq PP CP (pv 0) (Aa (pv 1) Ab))) (Ac (Ai 6 Ae) (Ac (Ge PassesOwn.never rfl (Fx (Cq Vl CP (pv 0) (Aa (pv 1) Ab))) (DX (i:=7) nd rfl (by walk_at"o")) (Ac (Dm (Ay (PW.pt (Gk (Aj J9 (pv 2) Fj (Al _)) (FJ (Aj Bh (pv 2) (pv 6) (Al _))))) (Ad (BV (FP ve ja2 ja3 Gp (pv 4) (Aa (Af Qw (Aa (pv 5) (Aa (pv 7) (Aa (pv 3) Ab)))) Ab)))) Ao)) (Ac (Ai 5 (Ag Bl (pv 5) (pv 7))) (Ad (Ai 6 (Ag Bl (pv 6) Ae)))))) (Ad (Ak (pv 4))))))),?_⟩
 symm;refine⟨vt _,fun t0 ht0=>?_⟩;refine fresh ht0 fun H1 s1 e1=>?_;have S1:=Hi.same S s1;symm;obtain⟨dx,fs,hx,l1,_,l2,_⟩:=S1.meth;exists⟨x,dx,fs,rfl,hx,l1,?_⟩;refine⟨x,y,g.s,_,2,g.ts,rfl,S1,by',fun H2 s2=>?_⟩;have S2:=S1.same s2;have e2:=s2 _ _ e1;have s12:=s1.trans s2;symm;exists JS (J4 ?_);exists⟨x,dx,fs,rfl,s2 _ _ hx,l2,?_⟩;refine⟨x,y,g.s,_,2,g.ts,rfl,S2,by',fun l H3 hl s3 t3=>?_⟩;have e3:=s3 _ _ e2;have s13:=s12.trans s3;have lt:l≠t0:=fun z=>by rw[z,e2] at hl;cases hl
 change H3 l=some (.lst ((g.L y).map V.int)) at t3;change ∀n∈g.L y,_ at lm;obtain⟨Y0,hY⟩:∃Y0,g.Y y=Y0:=⟨_,rfl⟩;rw[show g.s+UP [g.f,g.h].sum g.ts y=Y0 from hY];rw[hY] at q;clear hY S S1 S2;generalize g.L y=L at*
 refine⟨l,rfl,⟨_,SqL.of t3⟩,JC (xs:=L.map V.int) (fun k Z' H'=>An4 (Aw H H') (H' l=some (.lst (L.map V.int))) (k<=L.length) (Ex4 fun(ds:List Int) (f u:Int) (v:Option V)=>An4 (ds++yrL (L.drop k) f u m i=yrL L Y0 1 m i) (ds.length<=1006*k) (H' t0=some (.lst (ds.map V.int))) (Z'=[some (.ref x),some (.int y),some (oI m),some (oI i),some (.ref t0),some (.int f),some (.int u),v]))) ⟨s13,t3,vt _,[],_,_,none,rfl,qg _,e3,rfl⟩ ?_ ?_ ?_⟩
 ·rintro k Z' H' hk ⟨_,t,_⟩;exact SqL.of t
 ·rintro k v0 Z' H' hv ⟨sH,tl,k1,ds,f,u,v,ey,dl,td,rfl⟩;rw[qq] at hv;obtain⟨n,hn,rfl⟩:=ui.mp hv;obtain⟨kl,hn'⟩:=xp.mp hn;have hnm:=lm n (xb hn);rw[Xs kl,hn'] at ey;have ey:ds++((if m=none\/m=some u then X8 f n i else [])++yrL (L.drop (k+1)) (f+n) (u+1) m i)=yrL L Y0 1 m i:=ey;have l3:=vm (f:=f) hnm.1 i;symm;refine De (fun Z' H'=>An3 (Aw H H') (H' l=some (.lst (L.map V.int))) (∃(ds:List Int),An4 (ds++yrL (L.drop (k+1)) (f+n) (u+1) m i=yrL L Y0 1 m i) (ds.length<=1006*(k+1)) (H' t0=some (.lst (ds.map V.int))) (Z'=[some (.ref x),some (.int y),some (oI m),some (oI i),some (.ref t0),some (.int f),some (.int u),some (.int n)]))) ?_ ?_
  ·have ext:(m=none\/m=some u)->∀(l5:Addr) (H5:Hp) (s5:Aw H' H5) (t5:H5 l5=some (.lst ((X8 f n i).map V.int))) {Q2:VK},(∀(H4:Hp) (ds:List Int),Aw H H4->H4 l=some (.lst (L.map V.int))->ds++yrL (L.drop (k+1)) (f+n) (u+1) m i=yrL L Y0 1 m i->ds.length<=1006*(k+1)->H4 t0=some (.lst (ds.map V.int))->Q2 .non H4)->RJ (.ref t0) [.ref l5] H5 Q2:=fun hm l5 H5 s5 t5 {Q2} hQ=>by
    refine⟨t0,l5,_,_,rfl,rfl,s5 _ _ td,t5,?_,?_⟩
    ·rw[jp,jp,sizeLine_eq];lia
    ·rw[<-uu];rw[xz hm,<-Zs] at ey;refine hQ _ (ds++X8 f n i) (fun r o ho=>?_) ?_ ey (by rw[qc];lia) Am
     ·rw[Ax fun z=>by rw[z,ht0] at ho;cases ho];exact s5 _ _ (sH _ _ ho)
     ·rw[Ax lt];exact s5 _ _ tl
   cases m with
   | none=>
    symm;exists⟨rfl,?_⟩;exists Ej (Ej ?_);exists J5 rfl td ?_;refine⟨_,n,i,rfl,hnm.1,⋯,fun l5 H5 h5 s5 t5=>?_⟩;refine GD ?_;exact ext (.inl rfl) l5 H5 s5 t5 fun H4 ds a1 a2 a3 a4 a5=>⟨a1,a2,ds,a3,a4,a5,rfl⟩
   | some j=>
    symm;exists⟨rfl,?_⟩;exists Eg ?_;refine Bs (fun z=>?_) (fun z=>?_)
    ·symm;exists J5 rfl td ?_;refine⟨_,n,i,rfl,hnm.1,⋯,fun l5 H5 h5 s5 t5=>?_⟩;refine GD ?_;exact ext (.inr (xy some (V.int.inj z))) l5 H5 s5 t5 fun H4 ds a1 a2 a3 a4 a5=>⟨a1,a2,ds,a3,a4,a5,rfl⟩
    ·symm;rw[yb fun w=>by rcases w with w | w;cases w;exact z (xy V.int (ua w)),ji9] at ey;exact⟨sH,tl,ds,ey,⋯,td,rfl⟩
  rintro Z' H4 ⟨sH,tl,ds,ey,dl,td,rfl⟩;symm;exact⟨sH,tl,⋯,ds,_,_,some (.int n),ey,dl,td,rfl⟩
 rintro Z' H' ⟨sH,tl,k1,ds,f,u,v,ey,dl,td,rfl⟩;symm;rw[jp] at dl ey;rw[List.drop_length] at ey;have ey:ds++[]=_:=ey;rw[ya] at ey;subst ey;exact q t0 _ ht0 sH td ⋯
theorem nM:CZ ["calendar","month","day","step","rest","cycle","years","size","days","year"] ["calendar","month","day","step","rest"] (Az XJ):=by walk_at"s"
theorem pG{ds:Array Value}(F:Kw K "dated" "dated" XJ f fd ds):F0 5 f fd ["calendar","month","day","step","rest"] (Yo K Bk Aq):=by
 refine F.ok (k:=4) nM (fun h=>?_) fun nd H vs Q E hr h=>?_
 ·obtain⟨x,g,st,rs,m,d,rfl,_⟩:=h;cases m<;>cases d<;>rfl
 obtain⟨x,g,st,rs,mo,d,rfl,S,sm,m0,d0,st0,st1,q⟩:=h;have ep:=g.per;have eD:=sm.up;have D0:=sm.d;refine⟨_,(Ac (BV (Af Qt (Aa (pv 1) (Aa (pv 2) (Aa (pv 3) Ab))))) (Ac (Ai 5 (DR aD CP (pv 0))) (Ac (Ai 6 (Af Uh (Aa (pxT 5) (Aa (pv 3) Ab)))) (Ac (Ai 7 (Ag Cd (Ag Bp (pv 6) (pxT 5)) (pxT 5))) (Ac (BV (Af Dz (Aa (pv 7) Ab))) (Ac (Ai 8 (Eb Ab)) (Ac (Ge PassesOwn.never rfl (O1 rfl Hv (Aa (Ag Bv (pv 4) (pv 3)) (Aa (pv 6) (Aa (pv 3) Ab)))) (DX (i:=9) nd rfl (by walk_at"o")) (Ad (BV (FP ve ja2 ja3 Gp (pv 8) (Aa (Af Ug (Aa (pv 0) (Aa (pv 9) (Aa (pv 1) (Aa (pv 2) Ab))))) Ab))))) (Ad (Ak (Af Jg (Aa (pv 7) (Aa (pv 8) Ab)))))))))))),?_⟩
 symm;exists⟨mo,d,st,rfl,m0,d0,st0,?_⟩;obtain⟨dx,fs,hx,_,_,_,l3,_⟩:=Hi.meth S;exists⟨x,dx,fs,rfl,hx,l3,?_⟩;refine⟨x,g.s,_,2,g.ts,rfl,S,fun c H1 s1 t1=>?_⟩;rw[ep,eD] at t1;unfold dtL at q;generalize hDD:g.D=D at*
 symm;exists An (SqT.of t1) at0 ?_;refine⟨_,_,rfl,⋯,⋯,Ca ⋯ ⋯ nofun,Ca ⋯ ⋯ nofun,fun H2 s2=>?_⟩;have lc:Cm 2 st=2:=by rcases(by lia:st=1\/st=2) with e | e<;>subst e<;>ac_rfl
 rw[lc];symm;exists An (SqT.of (s2 _ _ t1)) at0 ?_;exists An (SqT.of (s2 _ _ t1)) at1 ?_;rw[show (2:Int)/2=1 from rfl];exists Sh ?_;rw[Int.one_mul];exists⟨_,rfl,⋯,?_⟩;refine⟨vt _,fun l hl=>?_⟩;have hlH:H l=none:=(s1.trans s2).free hl;refine fresh hl fun H3 s3 t3=>?_;have S3:=((Hi.same S s1).same s2).same s3;symm;exists JS (XS ?_);have r0:=ze rs (show st≠0 by lia);have r1:=qo rs (show 0<st by lia);generalize rs%st=R at*
 obtain⟨n,hn,n2,hk⟩:∃n:Nat,(n:Int)=Builtin.Range.rangeSize R 2 st/\n<=2/\∀k:Nat,k<n->R+(k:Int)*st<2:=by
  rw[HW ⋯,xz ⋯];rcases(by lia:st=1\/st=2) with e | e<;>subst e
  ·exact⟨2,⋯,⋯,fun k hk=>⋯⟩
  ·exact⟨1,⋯,⋯,fun k hk=>⋯⟩
 rw[<-hn,zh] at q;refine⟨R,2,st,rfl,⋯,⋯,JL ⋯ ⋯ ⋯ ⋯ ⋯ ⋯,n,hn,Ma (fun i Z' H'=>An3 (Aw H H') (i<=2) (∃(v:Option V),An4 ((dtS g mo d R st i).length<=30000*i) (H' l=some (.lst ((dtS g mo d R st i).map V.int))) (Q5 K Bk Aq H' x g) (Z'=[some (.ref x),some (oI mo),some (oI d),some (.int st),some (.int rs),some (.ref c),some (.int 2),some (.int D),some (.ref l),v]))) ⟨s1.trans (s2.trans s3),⋯,none,qg _,t3,S3,rfl⟩ ?_ ?_⟩
 ·rintro i Z' H' hi ⟨sH,i1,v,dl,tl,SH,rfl⟩;have ky:=hk i hi;have k0:0<=(i:Int)*st:=jh7 ⋯ ⋯;symm;exists J5 rfl tl ?_;refine⟨x,g,_,mo,d,rfl,SH,⋯,⋯,fun l5 H5 h5 s5 t5 le=>?_⟩;refine GD ?_;have tl5:=s5 _ _ tl;refine⟨l,l5,_,_,rfl,rfl,tl5,t5,?_,?_⟩
  ·rw[jp,jp,sizeLine_eq];lia
  ·rw[<-uu];refine⟨fun u o ho=>?_,⋯,_,?_,Am,Hi.but (Hi.same SH s5) tl5 But.upd,rfl⟩
   ·rw[Ax fun z=>by rw[z,hlH] at ho;cases ho];exact s5 _ _ (sH _ _ ho)
   ·show(dtS g mo d R st i++_).length<=_;rw[qc];lia
 ·rintro Z' H' ⟨sH,_,v,dl,tl,SH,rfl⟩;symm;refine⟨l,_,D,rfl,SqL.of tl,⋯,⋯,fun p b H6 s6 t6 B=>?_⟩;exact q p b H6 (sH.trans s6) t6 B
theorem wI:C0 5 "dated" ["calendar","month","day","step","rest"] (Yo K Bk Aq):=wD (st:=XJ) (ds:= #[.none,.none,(.int 1 Yi),(.int 0 Yh)]) gX gG (by walk_at"dg") (fun _ _ _ _ _ _ _ us hl=>by obtain⟨_,_,_,_,_,rfl⟩:=AAX hl;exact⟨_,rfl,rfl⟩) pG
theorem ABz:CZ ["turn","day"] ["turn","day"] (Az zQ):=by walk_at"s"
theorem ACY(F:Fun K "on" "on" zQ f fd):F0 1 f fd ["turn","day"] (ABp K):=by
 refine F.ok (k:=0) ABz (fun h=>?_) fun nd H vs Q E hr h=>?_
 ·obtain⟨a,n,d,b,rfl,_⟩:=h;rfl
 obtain⟨a,n,d,b,rfl,hS,h0,q⟩:=h;exists⟨_,(Ad (Ak (HY Bh (Ag Gn (Ag J8 (pxT 0) (Ag Bv (pv 1) (pxT 0))) Ae) Ae (Al _)))),?_⟩;exists An hS at1 ?_;refine An hS at0 ?_;exists Dj h0 ?_;exists Dj (show (0:Int)<=d%n from ze d ⋯) ?_;rw[wQ];exact q
theorem Z8:C0 1 "on_rounds" ["turn","day"] (ABp K):=co (st:=zQ) (by walk_at"g") (by walk_at"b") fun F=>ACY F
theorem Og:CZ ["self","kept","made_of","words"] ["self","kept","made_of","words"] (Az HH):=by walk_at"s"
theorem O6{ds:Array Value}(F:Kw K "__init__" "Rule.__init__" HH f fd ds):F0 1 f fd ["self","kept","made_of","words"] (Ww K BJ):=by
 refine F.ok (k:=0) Og (fun h=>?_) fun nd H vs Q E hr h=>?_
 ·obtain⟨x,p,pm,pw,C,dx,rfl,_⟩:=h;rfl
 obtain⟨x,p,pm,pw,C,dx,rfl,hx,R,q⟩:=h;refine⟨_,(Ac (Fi (pv 0) (Do (Aj J9 (pv 1) Fj (Al _)) (BK (Aa Ae (Aa Ae Ab))) (pv 1)) (by rfl)) (Ac (Fi (pv 0) (Do (Aj J9 (pv 2) Fj (Al _)) (BK Ab) (pv 2)) (by rfl)) (Ad (Fi (pv 0) (Do (Aj J9 (pv 3) Fj (Al _)) (BK (Aa Ah Ab)) (pv 3)) (by rfl))))),?_⟩
 symm;symm;exists⟨rfl,Vz (CK (fun e=>nomatch e) ?_)⟩;exists⟨x,C,dx,[],rfl,hx,R.cl,R.k,nofun,?_⟩;symm;exists⟨rfl,Vz (CK (fun e=>nomatch e) ?_)⟩;exists⟨x,C,dx,_,rfl,Am,R.cl,R.m,(show 1<1000 by decide),?_⟩;symm;exists⟨rfl,Vz (CK (fun e=>nomatch e) ?_)⟩;exists⟨x,C,dx,_,rfl,Am,R.cl,R.w,(show 2<1000 by decide),?_⟩;refine q _ (fun y o ne e=>?_) Am;rw[Ax ne,Ax ne,Ax ne];exact e
theorem Bf:ABW P w K mg base 1 "Rule" ["self","kept","made_of","words"] (Ww K BJ):=qw (st:=HH) (ds:= #[.none,.none,.none]) gX gG (by walk_at"k") (by walk_at"k") (by walk_at"k") (by walk_at"db") (fun _ _ _ _ _ _ _ us hl=>by obtain⟨_,_,_,_,rfl⟩:=ACb hl;exact⟨_,rfl,rfl⟩) O6
theorem W6:CZ ["self"] ["self"] (Az J1):=by walk_at"s"
theorem Xp{k d:Nat}(F:Fun K "turn" "Rule.turn" J1 f fd)(cr:Q6 P w K mg base CX0 k "turn" ["self"] (CL.map fun C=>(C,(spR (Kz K BJ CL)) d)))(hk:1<=k):F0 (k+1) f fd ["self"] ((spR (Kz K BJ CL)) (d+1)):=by
 refine F.ok (k:=k) W6 (fun h=>?_) fun nd H vs Q E hr h=>?_
 ·obtain⟨_,x,n,b,rfl,_⟩:=h;rfl
 obtain⟨_,x,n,b,rfl,R,q⟩:=h;obtain⟨C,dx,p,pm,pw,hC,rc,hx,hp⟩:=R.ex;exists⟨_,(Ad (Ak (Br (pv 0) (by rfl)))),?_⟩;exact⟨x,C,dx,_,_,rfl,hx,rc.cl,rc.k,rfl,q p hp⟩
theorem Bc:Q6 P w K mg base CX0 2 "turn" ["self"] (CL.map fun C=>(C,(spR (Kz K BJ CL)) 1)):=J2 (k0:=1) (Cs:=CL) (sp:=(spR (Kz K BJ CL))) (st:=J1) (all_cons ⟨LK,by walk_at"h"⟩ (all_cons ⟨Nj,by walk_at"h"⟩ (all_cons ⟨Je,by walk_at"h"⟩ (all_cons ⟨Ie,by walk_at"h"⟩ (all_cons ⟨K8,by walk_at"h"⟩ (all_cons ⟨Jf,by walk_at"h"⟩ (all_cons ⟨Hg,by walk_at"h"⟩ (all_cons ⟨LC,by walk_at"h"⟩ (all_cons ⟨Hf,by walk_at"h"⟩ (all_cons ⟨Ia,by walk_at"h"⟩ (all_cons ⟨Jb,by walk_at"h"⟩ (all_cons ⟨IW,by walk_at"h"⟩ (all_cons ⟨Jd,by walk_at"h"⟩ (all_cons ⟨Jc,by walk_at"h"⟩ (all_cons ⟨K9,by walk_at"h"⟩ (all_cons ⟨Ib,by walk_at"h"⟩ all_nil)))))))))))))))) (by walk_at"b") (fun _ _ _ _ h=>Yl h) (fun d _ _ CL F=>Xp F CL (Zp _ _)) 1
theorem aj:CZ ["self","day"] ["self","day"] (Az Ol):=by walk_at"s"
theorem bh{k d:Nat}(F:Fun K "on" "Rule.on" Ol f fd)(cr:Q6 P w K mg base CX0 k "on" ["self","day"] (CL.map fun C=>(C,(spR (di K BJ CL)) d)))(hk:2<=k):F0 (k+1) f fd ["self","day"] ((spR (di K BJ CL)) (d+1)):=by
 refine F.ok (k:=k) aj (fun h=>?_) fun nd H vs Q E hr h=>?_
 ·obtain⟨_,x,n,d,b,rfl,_⟩:=h;rfl
 obtain⟨_,x,n,d,b,rfl,R,q⟩:=h;obtain⟨C,dx,p,pm,pw,hC,rc,hx,hp⟩:=R.ex;exists⟨_,(Ad (Ak (Af Z8 (Aa (Br (pv 0) (by rfl)) (Aa (pv 1) Ab))))),?_⟩;exists⟨x,C,dx,_,_,rfl,hx,rc.cl,rc.k,rfl,?_⟩;exact⟨p,n,d,b,rfl,SqT.of hp,R.n0,q⟩
theorem qy:Q6 P w K mg base CX0 3 "on" ["self","day"] (CL.map fun C=>(C,(spR (di K BJ CL)) 1)):=J2 (k0:=2) (Cs:=CL) (sp:=(spR (di K BJ CL))) (st:=Ol) (all_cons ⟨LK,by walk_at"h"⟩ (all_cons ⟨Nj,by walk_at"h"⟩ (all_cons ⟨Je,by walk_at"h"⟩ (all_cons ⟨Ie,by walk_at"h"⟩ (all_cons ⟨K8,by walk_at"h"⟩ (all_cons ⟨Jf,by walk_at"h"⟩ (all_cons ⟨Hg,by walk_at"h"⟩ (all_cons ⟨LC,by walk_at"h"⟩ (all_cons ⟨Hf,by walk_at"h"⟩ (all_cons ⟨Ia,by walk_at"h"⟩ (all_cons ⟨Jb,by walk_at"h"⟩ (all_cons ⟨IW,by walk_at"h"⟩ (all_cons ⟨Jd,by walk_at"h"⟩ (all_cons ⟨Jc,by walk_at"h"⟩ (all_cons ⟨K9,by walk_at"h"⟩ (all_cons ⟨Ib,by walk_at"h"⟩ all_nil)))))))))))))))) (by walk_at"b") (fun _ _ _ _ h=>Yl h) (fun d _ _ CL F=>bh F CL (Zp _ _)) 1
theorem U8:CZ ["self","told","rule"] ["self"] (Az JQ):=by walk_at"s"
theorem Vf{k d:Nat}(F:Fun K "parts" "Rule.parts" JQ f fd)(cr:Q6 P w K mg base CX0 k "parts" ["self"] (CL.map fun C=>(C,(Mp K BJ CL) d)))(hk:1<=k):F0 (k+1) f fd ["self"] ((Mp K BJ CL) (d+1)):=by
 refine F.ok (k:=k) U8 (fun h=>?_) fun nd H vs Q E hr h=>?_
 ·obtain⟨x,p,g,rfl,_⟩:=h;rfl
 obtain⟨x,p,g,rfl,T,dp,ln,q⟩:=h;obtain⟨C,dx,qk,pm,pw,ks,hC,rc,hx,hm,hw,ek,hk⟩:=T.node;refine⟨_,(Ac (Ai 1 (Eb (Aa (pv 0) Ab))) (Ac (Ge PassesOwn.never rfl (Oz (Br (pv 0) (by rfl))) (DX (i:=2) nd rfl (by walk_at"o")) (Ad (BV (FP ve ja2 ja3 Gp (pv 1) (Aa (BX cr (pv 2)) Ab))))) (Ad (Ak (pv 1))))),?_⟩
 symm;refine⟨by show 1<=sizeLine;decide,fun l hl=>?_⟩;exists fresh hl fun H1 s1 t1=>?_;walk_at"f";symm;refine⟨x,C,dx,_,_,rfl,s1 _ _ hx,rc.cl,rc.m,rfl,pm,rfl,⟨_,SqT.of (s1 _ _ hm)⟩,fY (xs:=ks.map fun k=>.ref k.1) (fun i Z' H'=>An3 (Aw H H') (∃ps:List (Addr×PT),An3 (H' l=some (.lst (ps.map fun k=>.ref k.1))) (ps.map Prod.snd=p::((p.kids.take i).map PT.parts).flatten) (∀k∈ps,TrH K BJ CL g H' k.1 k.2)) (∃v,Z'=[some (.ref x),some (.ref l),v])) ⟨s1,⟨[(x,p)],t1,rfl,fun k z=>by rw[zw.mp z];exact T.same s1⟩,none,rfl⟩ ?_ ?_ ?_⟩
 ·rintro i Z' H' _ ⟨s,_⟩;exact SqT.of (s _ _ hm)
 ·rintro i v0 Z' H' hx' ⟨sH,⟨ps,tl,ep,hp⟩,v,rfl⟩;rw[qq] at hx';obtain⟨u,hu,rfl⟩:=ui.mp hx';have um:=xb hu;have uk:p.kids[i]?=some u.2:=by rw[<-ek,qq,hu];rfl
  have uT:=(hk u um).same sH;obtain⟨C',dx',_,_,_,_,hC',_,hx2,_⟩:=uT.node;obtain⟨ud,ul⟩:=PT.kid_deep (xb uk);symm;exists J5 rfl tl ?_;exists⟨u.1,C',dx',_,_,yy.mpr ⟨C',hC',rfl⟩,rfl,hx2,rfl,?_⟩;refine⟨u.1,u.2,g,rfl,uT,⋯,⋯,fun l5 qs H5 hl5 s5 t5 e5 h5=>?_⟩;refine GD ?_;have en:(ps++qs).map Prod.snd=p::((p.kids.take (i+1)).map PT.parts).flatten:=by
   rw[uu,ep,e5,jw3,uk];simp
  have le:(ps++qs).length<=100:=by
   rw[<-jp (f:=Prod.snd),en];refine qr ?_ ln;rw[PT.parts_eq p,qh,qh];have le:=xy (fun l:List PT=>((l.map PT.parts).flatten).length) (List.take_append_drop (i+1) p.kids);simp only[uu,List.flatten_append,qc] at le;lia
  refine⟨l,l5,_,_,rfl,rfl,s5 _ _ tl,t5,?_,?_⟩
  ·rw[jp,jp,sizeLine_eq,<-qc];lia
  ·have s6:∀{k:Addr×PT},TrH K BJ CL g H5 k.1 k.2->TrH K BJ CL g (upd H5 l (.lst (ps.map (fun k=>V.ref k.1)++qs.map (fun k=>V.ref k.1)))) k.1 k.2:=fun{k} z=>z.on (fun e=>by rw[Ax fun z=>by rw[z,s5 _ _ tl] at e;cases e];exact e) (fun e=>by rw[Ax fun z=>by rw[z,s5 _ _ tl] at e;cases e];exact e);refine⟨fun r o ho=>?_,⟨ps++qs,by rw[Am,uu],en,fun k z=>s6 ((vk.mp z).elim (fun z=>(hp k z).same s5) (h5 k))⟩,some (.ref u.1),rfl⟩;rw[Ax fun z=>by rw[z,hl] at ho;cases ho];exact s5 _ _ (sH _ _ ho)
 ·rintro Z' H' ⟨s,⟨ps,tl,ep,hp⟩,v,rfl⟩;rw[jp,<-jp (f:=Prod.snd) (as:=ks),ek,jb7,<-PT.parts_eq] at ep;symm;exact q l ps H' hl s tl ep hp
theorem QJ:Q6 P w K mg base CX0 61 "parts" ["self"] (CL.map fun C=>(C,(Mp K BJ CL) 60)):=J2 (k0:=1) (Cs:=CL) (sp:=(Mp K BJ CL)) (st:=JQ) (all_cons ⟨LK,by walk_at"h"⟩ (all_cons ⟨Nj,by walk_at"h"⟩ (all_cons ⟨Je,by walk_at"h"⟩ (all_cons ⟨Ie,by walk_at"h"⟩ (all_cons ⟨K8,by walk_at"h"⟩ (all_cons ⟨Jf,by walk_at"h"⟩ (all_cons ⟨Hg,by walk_at"h"⟩ (all_cons ⟨LC,by walk_at"h"⟩ (all_cons ⟨Hf,by walk_at"h"⟩ (all_cons ⟨Ia,by walk_at"h"⟩ (all_cons ⟨Jb,by walk_at"h"⟩ (all_cons ⟨IW,by walk_at"h"⟩ (all_cons ⟨Jd,by walk_at"h"⟩ (all_cons ⟨Jc,by walk_at"h"⟩ (all_cons ⟨K9,by walk_at"h"⟩ (all_cons ⟨Ib,by walk_at"h"⟩ all_nil)))))))))))))))) (by walk_at"b") (fun _ _ _ _ h=>Wx h) (fun d _ _ CL F=>Vf F CL (Zp _ _)) 60
theorem U7:CZ ["self","told","rule","word"] ["self"] (Az JP):=by walk_at"s"
theorem Ve{k d:Nat}(F:Fun K "shown" "Rule.shown" JP f fd)(cr:Q6 P w K mg base CX0 k "shown" ["self"] (CL.map fun C=>(C,(Ml K BJ CL) d)))(hk:1<=k):F0 (k+1) f fd ["self"] ((Ml K BJ CL) (d+1)):=by
 refine F.ok (k:=k) U7 (fun h=>?_) fun nd H vs Q E hr h=>?_
 ·obtain⟨x,p,g,rfl,_⟩:=h;rfl
 obtain⟨x,p,g,rfl,T,dp,ln,q⟩:=h;obtain⟨C,dx,qk,pm,pw,ks,hC,rc,hx,hm,hw,ek,hk⟩:=T.node;obtain⟨w0,vs,ew,wl,ef⟩:=p.ws_eq;rw[ew,zv] at hw;have kl:ks.length=p.kids.length:=by rw[<-ek,jp]
 refine⟨_,(Ac (Ai 1 (Eb (Aa (CQ Hn (Br (pv 0) (by rfl)) Ae (fun _ _=>rfl)) Ab)))
  (Ac (Ge PassesOwn.never rfl (Xd (c:=true) (d:=true) rfl lE (Aa (Br (pv 0) (by rfl)) (Aa (Ep zM (Br (pv 0) (by rfl)) (Ft Ae) Fv) Ab))) (oV rfl (Iz (DX (i:=2) nd rfl (by walk_at"o")) (Iz (DX (i:=3) nd rfl (by walk_at"o")) Xe)))
   (Ad (BV (FP ve ja2 ja3 Gp (pv 1) (Aa (Eb (Aa (BX cr (pv 2)) (Aa (pv 3) Ab))) Ab)))))
  (Ad (Ak (FP vc PySem.F.slot_str_join PySem.F.type_str_join fJ Ah (Aa (pv 1) Ab)))))),?_⟩
 symm;exists⟨x,C,dx,_,_,rfl,hx,rc.cl,rc.w,rfl,?_⟩;exists An (v:=.str (sW w0)) (SqT.of hw) Dh ?_;refine⟨by show 1<=sizeLine;decide,fun l hl=>?_⟩;exists fresh hl fun H1 s1 t1=>?_;exists JS (XR ?_);exists⟨x,C,dx,_,_,rfl,s1 _ _ hx,rc.cl,rc.m,rfl,?_⟩;exists⟨x,C,dx,_,_,rfl,s1 _ _ hx,rc.cl,rc.w,rfl,?_⟩;refine⟨pw,_,rfl,SqT.of (s1 _ _ hw),ACm,fun p5 hp5=>?_⟩;rw[ADm];exists fresh hp5 fun H2 s2 t2=>?_;refine⟨pm,p5,rfl,⟨_,_,SqT.of ((s1.trans s2) _ _ hm),SqT.of t2⟩,qU (xs:=ks.map fun k=>.ref k.1) (ys:=vs.map fun w=>V.str (sW w)) (fun i Z' H'=>An4 (Aw H H') (H' p5=some (.tup (vs.map fun w=>V.str (sW w)))) (H' l=some (.lst ((p.told w0 vs i).map fun w=>V.str (sW w)))) (Ex2 fun v1 v2=>Z'=[some (.ref x),some (.ref l),v1,v2])) ⟨s1.trans s2,t2,s2 _ _ t1,none,none,rfl⟩ ?_ ?_ ?_⟩
 ·rintro i Z' H' _ ⟨s,tp,_⟩;exact⟨SqT.of (s _ _ hm),SqT.of tp⟩
 ·rintro i v0 y T5 Z' H' hx' hy' hT ⟨sH,tp,tl,v1,v2,rfl⟩;rw[qq] at hx' hy';obtain⟨u,hu,rfl⟩:=ui.mp hx';obtain⟨w5,hw5,rfl⟩:=ui.mp hy';have um:=xb hu;have uk:p.kids[i]?=some u.2:=by rw[<-ek,qq,hu];rfl
  refine fresh hT fun H3 s3 t3=>?_;have uT:=(hk u um).same (sH.trans s3);obtain⟨C',dx',_,_,_,_,hC',_,hx2,_⟩:=uT.node;obtain⟨ud,_⟩:=PT.kid_deep (xb uk);exists uU (SqT.of t3) rfl ?_;exists J5 rfl (s3 _ _ tl) ?_;exists⟨u.1,C',dx',_,_,yy.mpr ⟨C',hC',rfl⟩,rfl,hx2,rfl,?_⟩;exists⟨u.1,u.2,g,rfl,uT,⋯,qr (PT.kid_tx (xb uk)) ln,fun H5 s5=>?_⟩;refine⟨(by show 2<=sizeLine;decide),fun l6 hl6=>?_⟩;refine fresh hl6 fun H6 s6 t6=>?_;refine GD ?_;have s56:=s3.trans (s5.trans s6);have le:=p.told_len w0 vs i;refine⟨l,l6,_,_,rfl,rfl,s56 _ _ tl,t6,?_,?_⟩
  ·rw[jp,sizeLine_eq];show(p.told w0 vs i).length+2<=_;lia
  ·refine⟨fun r o ho=>?_,?_,?_,_,_,rfl⟩
   ·rw[Ax fun z=>by rw[z,hl] at ho;cases ho];exact s56 _ _ (sH _ _ ho)
   ·rw[Ax fun z=>by rw[z] at tp;rw[tl] at tp;cases tp];exact s56 _ _ tp
   ·rw[Am,PT.told_succ uk hw5,uu];rfl
 ·rintro Z' H' ⟨s,tp,tl,v1,v2,rfl⟩;rw[jp,jp,wl,kl,Nat.min_self] at tl;have ej:Txt.join "" ((p.told w0 vs p.kids.length).map sW)=sW p.tx:=Eu (by
   rw[Ba,<-ef];refine(vQ _).trans ?_;rw[va]
   congr 1
   exact(jk7 fun w _=>Ba w).trans (List.map_id _))
  symm;exists Mx ?_;exists⟨rfl,?_⟩;refine⟨_,l,(p.told w0 vs p.kids.length).map sW,rfl,rfl,SqL.of (by rw[va];exact tl),?_,?_⟩
  ·have e3:(Str.ofString "").length=0:=∅
   have e4:∀zs:List Wd,((zs.map sW).map (·.length)).sum=zs.flatten.length:=fun zs=>by
    induction zs with
    | nil=>rfl
    | cons a r i=>rw[zv,zv,Zl,i,kc,qc];show(sW a).length+_=_;rw[Ci]
   rw[e3,e4,ef];lia
  ·show Q (.str (Txt.join "" _)) H';rw[ej];exact q _ s
theorem QH:Q6 P w K mg base CX0 61 "shown" ["self"] (CL.map fun C=>(C,(Ml K BJ CL) 60)):=J2 (k0:=1) (Cs:=CL) (sp:=(Ml K BJ CL)) (st:=JP) (all_cons ⟨LK,by walk_at"h"⟩ (all_cons ⟨Nj,by walk_at"h"⟩ (all_cons ⟨Je,by walk_at"h"⟩ (all_cons ⟨Ie,by walk_at"h"⟩ (all_cons ⟨K8,by walk_at"h"⟩ (all_cons ⟨Jf,by walk_at"h"⟩ (all_cons ⟨Hg,by walk_at"h"⟩ (all_cons ⟨LC,by walk_at"h"⟩ (all_cons ⟨Hf,by walk_at"h"⟩ (all_cons ⟨Ia,by walk_at"h"⟩ (all_cons ⟨Jb,by walk_at"h"⟩ (all_cons ⟨IW,by walk_at"h"⟩ (all_cons ⟨Jd,by walk_at"h"⟩ (all_cons ⟨Jc,by walk_at"h"⟩ (all_cons ⟨K9,by walk_at"h"⟩ (all_cons ⟨Ib,by walk_at"h"⟩ all_nil)))))))))))))))) (by walk_at"b") (fun _ _ _ _ h=>Wu h) (fun d _ _ CL F=>Ve F CL (Zp _ _)) 60
theorem Kr:CI0 3 "All" WY ["self"] (xN K BJ CL WY true):=by
 refine ci' ["self"] SM fun nd H vs Q E hr h=>?_;obtain⟨x,g,rfl,⟨dx,hx⟩,q⟩:=h;exists⟨_,(Ad (BV (Df Bf (Aa (pv 0) (Aa (BK (Aa Ae (Aa Ae Ab))) (Aa (BK Ab) (Aa (BK (Aa Ah Ab)) Ab))))))),?_⟩;refine⟨Ij,fun p hp=>?_⟩;refine fresh hp fun H1 s1 t1=>?_;have t1:H1 p=some (.tup [.int ((PT.lf true).sz g),.int ((1:Nat):Int)]):=t1;symm;refine⟨(by show 0<=sizeLine;decide),fun pm hpm=>?_⟩;exists fresh hpm fun H2 s2 t2=>?_;refine⟨(by show 1<=sizeLine;decide),fun pw hpw=>?_⟩;refine fresh hpw fun H3 s3 t3=>?_;have t3:H3 pw=some (.tup ((PT.lf true).ws.map fun w=>.str (sW w))):=by rw[t3,sgS];rfl
 have s23:=s2.trans s3;have hx3:=(s1.trans s23) _ _ hx;symm;exact⟨x,p,pm,pw,WY,dx,rfl,hx3,WP,fun H' k e=>q H' (k.pre (s1.trans s23)) (Hb [] (by walk_at"mm") WP hx3 (s23 _ _ t1) (s3 _ _ t2) t3 k e (by show(0:Int)<1;decide) (by show(1:Int)<=150000;decide) (by show 1<2^(1:Int).toNat;decide) rfl rfl fun _ z=>nomatch z)⟩
theorem Lw:CI0 3 "No" kO ["self"] (xN K BJ CL kO false):=by
 refine ci' ["self"] Vb fun nd H vs Q E hr h=>?_;obtain⟨x,g,rfl,⟨dx,hx⟩,q⟩:=h;exists⟨_,(Ad (BV (Df Bf (Aa (pv 0) (Aa (BK (Aa Ae (Aa Ae Ab))) (Aa (BK Ab) (Aa (BK (Aa Ah Ab)) Ab))))))),?_⟩;refine⟨Ij,fun p hp=>?_⟩;refine fresh hp fun H1 s1 t1=>?_;have t1:H1 p=some (.tup [.int ((PT.lf false).sz g),.int ((0:Nat):Int)]):=t1;symm;refine⟨(by show 0<=sizeLine;decide),fun pm hpm=>?_⟩;exists fresh hpm fun H2 s2 t2=>?_;refine⟨(by show 1<=sizeLine;decide),fun pw hpw=>?_⟩;refine fresh hpw fun H3 s3 t3=>?_;have t3:H3 pw=some (.tup ((PT.lf false).ws.map fun w=>.str (sW w))):=by rw[t3,sgS];rfl
 have s23:=s2.trans s3;have hx3:=(s1.trans s23) _ _ hx;symm;exact⟨x,p,pm,pw,kO,dx,rfl,hx3,Zk,fun H' k e=>q H' (k.pre (s1.trans s23)) (Hb [] (by walk_at"mm") Zk hx3 (s23 _ _ t1) (s3 _ _ t2) t3 k e (by show(0:Int)<1;decide) (by show(1:Int)<=150000;decide) (by show 0<2^(1:Int).toNat;decide) rfl rfl fun _ z=>nomatch z)⟩
theorem QG:C0 1 "each_text" ["step","rest"] ABw:=by
 refine co' ["step","rest","least_rest"] ZK fun nd H vs Q E hr h=>?_;obtain⟨n,r,rfl,n0,n1,q⟩:=h;refine⟨_,(Ac (Ai 2 (Ag Bv (pv 1) (pv 0))) (Ad (Ak (K5 (Ds Ah (Ds (MN hr.toN (pv 0)) (Ds Ah (Ds (MN hr.toN (pv 2)) Ox)))))))),?_⟩
 symm;have m0:=ze r (show n≠0 by lia);have m1:=qo r (show 0<n by lia);have g1:n.natAbs.log2<1920:=AAV ⋯ ⋯;have g2:(r%n).natAbs.log2<1920:=AAV ⋯ ⋯;refine J3 0 nofun nofun fun l1=>Sd _ l1 nofun rfl g1 fun l2=>J3 _ l2 nofun fun l3=>Sd _ l3 nofun rfl g2 fun l4=>K1 (fits l4 nofun) ?_;have e:Str.empty++Str.ofString "each "++Cr n++Str.ofString " from "++Cr (r%n)=sW (Hr n (r%n)):=Eu (by rw[G3,G3,G3,G3,Ba];rfl);rw[e];refine q ?_;have e1:(sg "each ").length=5:=∅;have e2:(sg " from ").length=6:=∅;have e3:(nW n).length<=1921:=by unfold nW;rw[Du];exact KZ g1
 have e4:(nW (r%n)).length<=1921:=by unfold nW;rw[Du];exact KZ g2
 unfold Hr;simp only[qc];lia
theorem Js:CI0 3 "Each" Pb ["self","size","rest"] (ABu K BJ CL Pb):=by
 refine ci' ["self","size","rest","kept"] Qk fun nd H vs Q E hr h=>?_;obtain⟨x,n,r,g,rfl,n0,n1,⟨dx,hx⟩,q⟩:=h;refine⟨_,(Ac (Ai 3 (Af Jg (Aa (pv 1) (Aa (Eb (Aa (pv 2) Ab)) Ab)))) (Ad (BV (Df Bf (Aa (pv 0) (Aa (pv 3) (Aa (BK Ab) (Aa (BK (Aa (Af QG (Aa (pv 1) (Aa (pv 2) Ab))) Ab)) Ab)))))))),?_⟩
 symm;refine⟨(by show 1<=sizeLine;decide),fun l hl=>?_⟩;refine fresh hl fun H0 s0 t0=>?_;have t0:H0 l=some (.lst ([r].map V.int)):=t0;symm;refine⟨l,[r],n,rfl,SqL.of t0,⋯,⋯,fun p b H1 s1 t1 B=>?_⟩;have s1:=s0.trans s1;symm;refine⟨(by show 0<=sizeLine;decide),fun pm hpm=>?_⟩;exists fresh hpm fun H2 s2 t2=>?_;exists⟨n,r,rfl,n0,n1,fun _=>?_⟩;refine⟨(by show 1<=sizeLine;decide),fun pw hpw=>?_⟩;refine fresh hpw fun H3 s3 t3=>?_;have t3:H3 pw=some (.tup ((PT.each n (r%n)).ws.map fun w=>.str (sW w))):=by rw[t3,<-PT.tx_each];rfl
 have s23:=s2.trans s3;have hx3:=(s1.trans s23) _ _ hx;have B':RB n [r%n] b:=⟨B.lt,fun d=>by
  rw[B.bit d];unfold hit;simp[jv0]⟩
 symm;exact⟨x,p,pm,pw,Pb,dx,rfl,hx3,Tj,fun H' k e=>q H' (k.pre (s1.trans s23)) (Hb [] (by walk_at"mm") Tj hx3 (s23 _ _ t1) (s3 _ _ t2) t3 k e (by show 0<n;lia) (by show n<=150000;lia) B.lt B' rfl fun _ z=>nomatch z)⟩
theorem Lq:C0 1 "wanted_text" ["number"] ABm:=by
 refine co' ["number"] U9 fun nd H vs Q E hr h=>?_;obtain⟨m,rfl,hm,q⟩:=h;refine⟨_,(Ad (Ak (Do (Aj J9 (pv 0) Fj (Al _)) Ah (Bu Bq rfl GJ xo (Aa (pv 0) Ab))))),?_⟩;cases m with
 | none=>
  symm
  try refine Ow ?_
  symm;exists⟨rfl,?_⟩;exists Ej ?_;rw[sgS];exact q ∅
 | some j=>
  rw[show oI (some j)=V.int j from rfl];symm
  try refine Ow ?_
  symm;exists⟨rfl,?_⟩;exists Eg ?_;refine⟨_,rfl,hm j rfl,?_⟩;show Q (.str (Cr j)) H;rw[show Cr j=sW (CN (some j)) from (Gb _).symm];exact q (by show(cpl (Cr j)).length<=_;rw[Du];exact KZ (hm j rfl))
theorem YK:C0 2 "dated_text" ["name","month","day","step","rest"] ABx:=by
 refine co' ["name","month","day","step","rest","words"] XH (len:=by intro _ _ _ _ h;obtain⟨nm,m,d,st,rs,rfl,_⟩:=h;cases m<;>cases d<;>rfl) fun nd H vs Q E hr h=>?_;obtain⟨nm,m,d,st,rs,rfl,tzl,hm,hd,st0,st1,q⟩:=h;rw[yJ] at q;refine⟨_,(Ac (Ai 5 (Eb (Aa Ah (Aa (pv 0) (Aa (Af Lq (Aa (pv 1) Ab)) (Aa (Af Lq (Aa (pv 2) Ab)) Ab)))))) (Ac (Dm (Ay (Aj Ew (pv 3) Ae (Al _)) (Ad (BV (FP ve jd9 je0 Hj (pv 5) (Aa (Af QG (Aa (pv 3) (Aa (pv 4) Ab))) Ab)))) Ao)) (Ad (Ak (FP vc PySem.F.slot_str_join PySem.F.type_str_join fJ Ah (Aa (pv 5) Ab)))))),?_⟩
 symm;exists⟨m,rfl,hm,fun t1l=>?_⟩;exists⟨d,rfl,hd,fun t2l=>?_⟩;refine⟨four,fun l hl=>?_⟩;refine fresh hl fun H1 s1 e1=>?_;have e1:H1 l=some (.lst (([Str.ofString "date",sW nm,sW (CN m),sW (CN d)]:List Str).map V.str)):=e1;symm;have eb:(Str.ofString " ").length=1:=∅;have e4:(Str.ofString "date").length=4:=∅;refine De (fun Z' H'=>Aw H H'/\Ex6 fun(zs:List Str) (w0 w1 w2 w3 w4:V)=>An4 (H' l=some (.lst (zs.map V.str))) ((zs.map (·.length)).sum+zs.length*1<=8000) (Txt.join " " zs=sW (Kc nm m d++(if 1<st then sg " "++Hr st (rs%st) else []))) (Z'=[some w0,some w1,some w2,some w3,some w4,some (.ref l)])) ?_ ?_
 ·symm;refine Bs (fun c=>?_) (fun c=>?_)
  ·symm;exists Iw rfl e1 ?_;refine⟨_,_,rfl,⋯,⋯,fun t3l=>?_⟩;refine GD ?_;refine Sq e1 (by show 4<sizeLine;decide) ?_;symm;refine⟨Eo hl s1,[Str.ofString "date",sW nm,sW (CN m),sW (CN d),sW (Hr st (rs%st))],_,_,_,_,_,Am,?_,?_,rfl⟩
   ·show((Str.ofString "date").length+((sW nm).length+((sW (CN m)).length+((sW (CN d)).length+((sW (Hr st (rs%st))).length+0)))))+5*1<=8000;simp only[Ci];lia
   ·refine Eu ?_;rw[xz c,fU,Ba];simp[Fe,Kc,dsg,bsg,Ba];rfl
  ·symm;refine⟨s1,[Str.ofString "date",sW nm,sW (CN m),sW (CN d)],_,_,_,_,_,e1,?_,?_,rfl⟩
   ·show((Str.ofString "date").length+((sW nm).length+((sW (CN m)).length+((sW (CN d)).length+0))))+4*1<=8000;simp only[Ci];lia
   ·refine Eu ?_;rw[yb c,fU,Ba];simp[Fe,Kc,dsg,bsg,Ba];rfl
 rintro Z' H2 ⟨s2,zs,w0,w1,w2,w3,w4,e2,hz,ez,rfl⟩;symm;exists Mx ?_;exists⟨rfl,?_⟩;refine⟨_,l,zs,rfl,rfl,SqL.of e2,by rw[eb];lia,?_⟩;rw[ez];exact q _ s2
theorem Mr:CZ ["self","name","calendar","month","day","step","rest","kept"] ["self","name","calendar","month","day","step","rest"] (Az Gm):=by walk_at"s"
theorem NZ{ds:Array Value}(F:Kw K "__init__" "Dated.__init__" Gm f fd ds):F0 6 f fd ["self","name","calendar","month","day","step","rest"] (xM K BJ CL Jk Bk Aq):=by
 refine F.ok (k:=5) Mr (fun h=>?_) fun nd H vs Q E hr h=>?_
 ·obtain⟨x,y,nm,g,st,rs,m,d,rfl,_⟩:=h;cases m<;>cases d<;>rfl
 obtain⟨x,y,nm,g,st,rs,m,d,rfl,tz,S,sm,m0,hm,d0,hd,st0,st1,⟨dx,hx⟩,q⟩:=h;have D0:=sm.d;refine⟨_,(Ac (Ai 7 (Af wI (Aa (pv 2) (Aa (pv 3) (Aa (pv 4) (Aa (pv 5) (Aa (pv 6) Ab))))))) (Ad (BV (Df Bf (Aa (pv 0) (Aa (pv 7) (Aa (BK Ab) (Aa (BK (Aa (Af YK (Aa (pv 1) (Aa (pv 3) (Aa (pv 4) (Aa (pv 5) (Aa (pv 6) Ab)))))) Ab)) Ab)))))))),?_⟩
 symm;exists⟨y,g,st,rs,m,d,rfl,S,sm,m0,d0,st0,st1,fun p c H1 s1 t1 B=>?_⟩;refine⟨(by show 0<=sizeLine;decide),fun pm hpm=>?_⟩;exists fresh hpm fun H2 s2 t2=>?_;exists⟨nm,m,d,st,rs,rfl,tz,hm,hd,st0,st1,fun Hy sy=>?_⟩;refine⟨(by show 1<=sizeLine;decide),fun pw hpw=>?_⟩;refine fresh hpw fun H3 s3 t3=>?_;have t3:H3 pw=some (.tup ((PT.date nm m d (ysr st rs)).ws.map fun w=>.str (sW w))):=t3;have s3:=sy.trans s3;have s23:=s2.trans s3;have hx3:=(s1.trans s23) _ _ hx;symm;exact⟨x,p,pm,pw,Jk,dx,rfl,hx3,QC,fun H' k e=>q H' (k.pre (s1.trans s23)) (Hb [] (by walk_at"mm") QC hx3 (s23 _ _ t1) (s3 _ _ t2) t3 k e (by show 0<g.D;lia) (by show g.D<=150000;lia) B.lt (by show RB _ _ _;rw[vh _ _ _ _ _ st0];exact B) rfl fun _ z=>nomatch z)⟩
theorem Pg:CI0 6 "Dated" Jk ["self","name","calendar","month","day","step","rest"] (xM K BJ CL Jk Bk Aq):=UV (st:=Gm) (ds:= #[.none,.none,(.int 1 Jx),(.int 0 Jw)]) gX gG (by walk_at"k") (by walk_at"k") (by walk_at"k") (by walk_at"dm") (fun _ _ _ _ _ _ _ us hl=>by obtain⟨_,_,_,_,_,_,_,rfl⟩:=ACa hl;exact⟨_,rfl,rfl⟩) NZ
theorem Um:CI0 3 "Not" WW ["self","R"] (ABv K BJ CL WW):=by
 refine ci' ["self","R"] Rz fun nd H vs Q E hr h=>?_;obtain⟨x,r,p,g,rfl,T,⟨dx,hx⟩,q⟩:=h;have R:=T.rule;exists⟨_,(Ad (BV (Df Bf (Aa (pv 0) (Aa (Af Jh (Aa (BX Bc (pv 1)) Ab)) (Aa (BK (Aa (pv 1) Ab)) (Aa (BK (Aa Ah (Aa Ah Ab))) Ab))))))),?_⟩;obtain⟨C,dr,fs,m,hr,l1,_⟩:=R.mt;exists⟨r,C,dr,fs,_,m _,rfl,hr,l1,?_⟩;exists⟨jb0,r,_,_,rfl,R,fun pt hp=>?_⟩;refine⟨pt,_,_,rfl,SqT.of hp,R.n0,R.n1,R.lt,fun p2 c hp2 hc hbit=>?_⟩;exists fresh hp2 fun H1 s1 t1=>?_;refine⟨(by show 1<=sizeLine;decide),fun pm hpm=>?_⟩;exists fresh hpm fun H2 s2 t2=>?_;refine⟨Ij,fun pw hpw=>?_⟩;refine fresh hpw fun H3 s3 t3=>?_;have t3:H3 pw=some (.tup ((PT.no p).ws.map fun w=>.str (sW w))):=by rw[t3,sgS,sgS];rfl
 have s23:=s2.trans s3;have hx3:=(s1.trans s23) _ _ hx;symm;exact⟨x,p2,pm,pw,WW,dx,rfl,hx3,WM,fun H' k e=>q H' (k.pre (s1.trans s23)) (Hb [(r,p)] (by walk_at"mm") WM hx3 (s23 _ _ t1) (s3 _ _ t2) t3 k e R.n0 R.n1 hc ⟨hc,hbit⟩ rfl fun _ z=>by rw[zw.mp z];exact T.same (s1.trans s23))⟩
theorem Q4:CI0 6 "Both" Ur ["self","R","S"] (Mq K BJ CL Ur .an):=by
 refine ci' ["self","R","S"] Qm fun nd H vs Q E hr h=>?_;obtain⟨x,r,t,p,p',g,rfl,T1,T2,lz,⟨dx,hx⟩,q⟩:=h;refine⟨_,(Ad (BV (Df Bf (Aa (pv 0) (Aa (Af Km (Aa (BX Bc (pv 1)) (Aa (BX Bc (pv 2)) Ab))) (Aa (BK (Aa (pv 1) (Aa (pv 2) Ab))) (Aa (BK (Aa Ah (Aa Ah (Aa Ah Ab)))) Ab))))))),?_⟩;exact in2 (w:=.an) (by walk_at"mm") T1 T2 lz q hx cR
theorem Nu:CI0 6 "Either" Kq ["self","R","S"] (Mq K BJ CL Kq .or):=by
 refine ci' ["self","R","S"] Mv fun nd H vs Q E hr h=>?_;obtain⟨x,r,t,p,p',g,rfl,T1,T2,lz,⟨dx,hx⟩,q⟩:=h;refine⟨_,(Ad (BV (Df Bf (Aa (pv 0) (Aa (Af Ue (Aa (BX Bc (pv 1)) (Aa (BX Bc (pv 2)) Ab))) (Aa (BK (Aa (pv 1) (Aa (pv 2) Ab))) (Aa (BK (Aa Ah (Aa Ah (Aa Ah Ab)))) Ab))))))),?_⟩;exact in2 (w:=.or) (by walk_at"mm") T1 T2 lz q hx X6
theorem Uq:CI0 7 "But" aF ["self","R","S"] (Mq K BJ CL aF .bu):=by
 refine ci' ["self","R","S"] SJ fun nd H vs Q E hr h=>?_;obtain⟨x,r,t,p,p',g,rfl,T1,T2,lz,⟨dx,hx⟩,q⟩:=h;refine⟨_,(Ad (BV (Df Bf (Aa (pv 0) (Aa (Af O9 (Aa (BX Bc (pv 1)) (Aa (BX Bc (pv 2)) Ab))) (Aa (BK (Aa (pv 1) (Aa (pv 2) Ab))) (Aa (BK (Aa Ah (Aa Ah (Aa Ah Ab)))) Ab))))))),?_⟩;exact in2 (w:=.bu) (by walk_at"mm") T1 T2 lz q hx jg
theorem Nq:CI0 6 "Unlike" Kp ["self","R","S"] (Mq K BJ CL Kp .ul):=by
 refine ci' ["self","R","S"] Mt fun nd H vs Q E hr h=>?_;obtain⟨x,r,t,p,p',g,rfl,T1,T2,lz,⟨dx,hx⟩,q⟩:=h;refine⟨_,(Ad (BV (Df Bf (Aa (pv 0) (Aa (Af Zv (Aa (BX Bc (pv 1)) (Aa (BX Bc (pv 2)) Ab))) (Aa (BK (Aa (pv 1) (Aa (pv 2) Ab))) (Aa (BK (Aa Ah (Aa Ah (Aa Ah Ab)))) Ab))))))),?_⟩;exact in2 (w:=.ul) (by walk_at"mm") T1 T2 lz q hx X5
theorem Qx:CI0 8 "Upon" Uj ["self","R","S"] (Mq K BJ CL Uj .up):=by
 refine ci' ["self","R","S"] Qh fun nd H vs Q E hr h=>?_;obtain⟨x,r,t,p,p',g,rfl,T1,T2,lz,⟨dx,hx⟩,q⟩:=h;refine⟨_,(Ad (BV (Df Bf (Aa (pv 0) (Aa (Af cX (Aa (BX Bc (pv 1)) (Aa (BX Bc (pv 2)) Ab))) (Aa (BK (Aa (pv 1) (Aa (pv 2) Ab))) (Aa (BK (Aa Ah (Aa Ah (Aa Ah Ab)))) Ab))))))),?_⟩;exact in2 (w:=.up) (by walk_at"mm") T1 T2 lz q hx cO
theorem PN:CI0 8 "Until" Np ["self","R","S"] (Mq K BJ CL Np .un):=by
 refine ci' ["self","R","S"] Oi fun nd H vs Q E hr h=>?_;obtain⟨x,r,t,p,p',g,rfl,T1,T2,lz,⟨dx,hx⟩,q⟩:=h;refine⟨_,(Ad (BV (Df Bf (Aa (pv 0) (Aa (Af YF (Aa (BX Bc (pv 1)) (Aa (BX Bc (pv 2)) Ab))) (Aa (BK (Aa (pv 1) (Aa (pv 2) Ab))) (Aa (BK (Aa Ah (Aa Ah (Aa Ah Ab)))) Ab))))))),?_⟩;exact in2 (w:=.un) (by walk_at"mm") T1 T2 lz q hx Zj
theorem Qz:CI0 10 "Near" Uo ["self","R","S"] (Mq K BJ CL Uo .ne):=by
 refine ci' ["self","R","S"] Qj fun nd H vs Q E hr h=>?_;obtain⟨x,r,t,p,p',g,rfl,T1,T2,lz,⟨dx,hx⟩,q⟩:=h;refine⟨_,(Ad (BV (Df Bf (Aa (pv 0) (Aa (Af AAx (Aa (BX Bc (pv 1)) (Aa (BX Bc (pv 2)) Ab))) (Aa (BK (Aa (pv 1) (Aa (pv 2) Ab))) (Aa (BK (Aa Ah (Aa Ah (Aa Ah Ab)))) Ab))))))),?_⟩;exact in2 (w:=.ne) (by walk_at"mm") T1 T2 lz q hx cQ
theorem Qy:CI0 8 "Till" Uk ["self","R","S"] (Mq K BJ CL Uk .ti):=by
 refine ci' ["self","R","S"] Qi fun nd H vs Q E hr h=>?_;obtain⟨x,r,t,p,p',g,rfl,T1,T2,lz,⟨dx,hx⟩,q⟩:=h;refine⟨_,(Ad (BV (Df Bf (Aa (pv 0) (Aa (Af qx (Aa (BX Bc (pv 1)) (Aa (BX Bc (pv 2)) Ab))) (Aa (BK (Aa (pv 1) (Aa (pv 2) Ab))) (Aa (BK (Aa Ah (Aa Ah (Aa Ah Ab)))) Ab))))))),?_⟩;exact in2 (w:=.ti) (by walk_at"mm") T1 T2 lz q hx cP
theorem PX:CI0 3 "Later" Le ["self","number","R"] (ABs K BJ CL Le):=by
 refine ci' ["self","number","R"] Oo fun nd H vs Q E hr h=>?_;obtain⟨x,r,num,p,g,rfl,lg,T,⟨dx,hx⟩,q⟩:=h;have R:=T.rule;exists⟨_,(Ad (BV (Df Bf (Aa (pv 0) (Aa (Af Ih (Aa (BX Bc (pv 2)) (Aa (pv 1) Ab))) (Aa (BK (Aa (pv 2) Ab)) (Aa (BK (Aa (K5 (Ds Ah (Ds (MN hr.toN (pv 1)) (Ds Ah Ox)))) (Aa Ah Ab))) Ab))))))),?_⟩;obtain⟨C,dr,fs,m,hr,l1,_⟩:=R.mt;exists⟨r,C,dr,fs,_,m _,rfl,hr,l1,?_⟩;exists⟨jb0,r,_,_,rfl,R,fun pt hp=>?_⟩;refine⟨pt,_,num,_,rfl,SqT.of hp,R.n0,R.n1,R.lt,fun p2 hp2=>?_⟩;exists fresh hp2 fun H1 s1 t1=>?_;refine⟨(by show 1<=sizeLine;decide),fun pm hpm=>?_⟩;exists fresh hpm fun H2 s2 t2=>?_;refine J3 0 nofun nofun fun l1=>Sd _ l1 nofun rfl lg fun l2=>J3 _ l2 nofun fun l3=>K1 (fits l3 nofun) ?_;rw[fm3];symm;refine⟨Ij,fun pw hpw=>?_⟩;refine fresh hpw fun H3 s3 t3=>?_;have t3:H3 pw=some (.tup ((PT.la num p).ws.map fun w=>.str (sW w))):=by rw[t3,sgS];rfl
 have s23:=s2.trans s3;have hx3:=(s1.trans s23) _ _ hx;symm;exact⟨x,p2,pm,pw,Le,dx,rfl,hx3,Pz,fun H' k e=>q H' (k.pre (s1.trans s23)) (Hb [(r,p)] (by walk_at"mm") Pz hx3 (s23 _ _ t1) (s3 _ _ t2) t3 k e R.n0 R.n1 (KY _ _ _) rfl rfl fun _ z=>by rw[zw.mp z];exact T.same (s1.trans s23))⟩
theorem Up:CI0 9 "Kth" WX ["self","number","R","S"] (ABt K BJ CL WX):=by
 refine ci' ["self","number","R","S","kept"] R8 fun nd H vs Q E hr h=>?_;obtain⟨x,r,t,num,p,p',g,rfl,k0,lg,T1,T2,lz,⟨dx,hx⟩,q⟩:=h;have R1:=T1.rule;have R2:=T2.rule;have fl:=Bx R1.n0 R2.n0;refine⟨_,(Ac (Ai 4 (Af ACn (Aa (pv 1) (Aa (BX Bc (pv 2)) (Aa (BX Bc (pv 3)) Ab))))) (Ad (BV (Df Bf (Aa (pv 0) (Aa (pv 4) (Aa (BK (Aa (pv 2) (Aa (pv 3) Ab))) (Aa (BK (Aa (K5 (Ds Ah (Ds (MN hr.toN (pv 1)) (Ds Ah Ox)))) (Aa Ah (Aa Ah Ab)))) Ab)))))))),?_⟩
 symm;obtain⟨C,dr,fs,m,hr,l1,_⟩:=R1.mt;exists⟨r,C,dr,fs,_,m _,rfl,hr,l1,?_⟩;exists⟨jb0,r,_,_,rfl,R1,fun pt hp=>?_⟩;obtain⟨C',dr',fs',m',hr',l1',_⟩:=R2.mt;exists⟨t,C',dr',fs',_,m' _,rfl,hr',l1',?_⟩;exists⟨jb0,t,_,_,rfl,R2,fun pu hp'=>?_⟩;exists⟨num,pt,pu,_,_,_,_,rfl,⟨SqT.of hp,SqT.of hp',R1.n0,R2.n0,R1.n1,R2.n1,R1.lt,R2.lt⟩,k0,lz,fun p2 c H1 s1 t1 lt Rr=>?_⟩;refine⟨Ij,fun pm hpm=>?_⟩;exists fresh hpm fun H2 s2 t2=>?_;refine J3 0 nofun nofun fun l1=>Sd _ l1 nofun rfl lg fun l2=>J3 _ l2 nofun fun l3=>K1 (fits l3 nofun) ?_;rw[fm3];symm;refine⟨(by show 3<=sizeLine;decide),fun pw hpw=>?_⟩;refine fresh hpw fun H3 s3 t3=>?_;have t3:H3 pw=some (.tup ((PT.nt num p p').ws.map fun w=>.str (sW w))):=by rw[t3,sgS,sgS];rfl
 have s23:=s2.trans s3;have hx3:=(s1.trans s23) _ _ hx;symm;exact⟨x,p2,pm,pw,WX,dx,rfl,hx3,WN,fun H' k e=>q H' (k.pre (s1.trans s23)) (Hb [(r,p),(t,p')] (by walk_at"mm") WN hx3 (s23 _ _ t1) (s3 _ _ t2) t3 k e fl.1 lz lt Rr rfl (lM (T1.same (s1.trans s23)) (T2.same (s1.trans s23))))⟩
theorem Pa:CI0 7 "Every" Lf ["self","number","R","day"] (ABr K BJ CL Lf):=by
 refine ci' ["self","number","R","day","kept"] Oq fun nd H vs Q E hr h=>?_;obtain⟨x,r,num,d0,p,g,rfl,k0,k1,nk,bd,T,⟨dx,hx⟩,q⟩:=h;have R:=T.rule;have z0:0<p.sz g*num:=Int.mul_pos R.n0 ⋯;have lg:num.natAbs.log2<1920:=AAV ⋯ ⋯;have lh:d0.natAbs.log2<1920:=q9 bd nofun nofun;refine⟨_,(Ac (Ai 4 (Af wH (Aa (pv 1) (Aa (BX Bc (pv 2)) (Aa (pv 3) Ab))))) (Ad (BV (Df Bf (Aa (pv 0) (Aa (pv 4) (Aa (BK (Aa (pv 2) Ab)) (Aa (BK (Aa (K5 (Ds Ah (Ds (MN hr.toN (pv 1)) (Ds Ah Ox)))) (Aa (K5 (Ds Ah (Ds (MN hr.toN (pv 3)) (Ds Ah Ox)))) Ab))) Ab)))))))),?_⟩
 symm;obtain⟨C,dr,fs,m,hr,l1,_⟩:=R.mt;exists⟨r,C,dr,fs,_,m _,rfl,hr,l1,?_⟩;exists⟨jb0,r,_,_,rfl,R,fun pt hp=>?_⟩;exists⟨num,d0,pt,_,_,rfl,SqT.of hp,R.n0,R.n1,R.lt,bd.mono nofun,Ca ⋯ ⋯ nofun,k0,nk,fun p2 c H1 s1 t1 B=>?_⟩;refine⟨(by show 1<=sizeLine;decide),fun pm hpm=>?_⟩;exists fresh hpm fun H2 s2 t2=>?_;refine J3 0 nofun nofun fun l1=>Sd _ l1 nofun rfl lg fun l2=>J3 _ l2 nofun fun l3=>K1 (fits l3 nofun) ?_;rw[fm3];symm;refine J3 0 nofun nofun fun l1=>Sd _ l1 nofun rfl lh fun l2=>J3 _ l2 nofun fun l3=>K1 (fits l3 nofun) ?_;rw[fm3];symm;refine⟨Ij,fun pw hpw=>?_⟩;refine fresh hpw fun H3 s3 t3=>?_;have t3:H3 pw=some (.tup ((PT.ev num p d0).ws.map fun w=>.str (sW w))):=t3;have s23:=s2.trans s3;have hx3:=(s1.trans s23) _ _ hx;symm;exact⟨x,p2,pm,pw,Lf,dx,rfl,hx3,QB,fun H' k e=>q H' (k.pre (s1.trans s23)) (Hb [(r,p)] (by walk_at"mm") QB hx3 (s23 _ _ t1) (s3 _ _ t2) t3 k e z0 nk B.lt B rfl fun _ z=>by rw[zw.mp z];exact T.same (s1.trans s23))⟩
theorem Nt:CI0 1 "Reader" BZ ["self","words"] (uA BZ):=by
 refine ci' ["self","words"] Mu fun nd H vs Q E hr h=>?_;obtain⟨x,dx,l,ws,rfl,hx,hl,wl,wo,q⟩:=h;have lx:l≠x:=G5 hl hx (by intro z;cases z);refine⟨_,(Ac (Fi (pv 0) (Bu Ip rfl Wj jm1 (Aa (pv 1) Ab)) (by rfl)) (Ad (Fi (pv 0) Ae (by rfl)))),?_⟩
 symm;refine⟨l,_,rfl,.inl ⟨SqL.of hl,fun p hp=>?_⟩⟩;have px:x≠p:=Bj hx hp;exists fresh hp fun H1 s1 t1=>?_;refine⟨x,BZ,dx,[],rfl,s1 _ _ hx,Be,GF,nofun,?_⟩;exists zf fun H2 k2 x2=>?_;refine⟨x,BZ,dx,_,rfl,x2,Be,Dp,(by show 1<1000;decide),?_⟩;exists zf fun H3 k3 x3=>?_;exact q H3 (fun y o hy e=>k3 y o hy (k2 y o hy (s1 _ _ e))) ⟨p,ws,0,⟨⟨dx,x3⟩,k3 _ _ (Ne.symm px) (k2 _ _ (Ne.symm px) t1),wl,wo⟩,rfl⟩
theorem Fq:CM0 1 BZ "peek" ["self"] (yh BZ):=by
 refine cm' ["self"] Va fun nd H vs Q E hr h=>?_;obtain⟨x,_,rfl,⟨p,ws,k,R,rfl⟩,q⟩:=h;obtain⟨dx,hx⟩:=R.ex;exists⟨_,(Ad (Ak (Do (Aj Fp (Br (pv 0) (by rfl)) (BL BR rfl DN xh (Aa (Br (pv 0) (by rfl)) Ab)) (Al _)) (CQ Hn (Br (pv 0) (by rfl)) (Br (pv 0) (by rfl)) (fun _ _=>rfl)) Ah))),?_⟩;exists⟨x,BZ,dx,_,_,rfl,hx,Be,Dp,rfl,?_⟩;exists⟨x,BZ,dx,_,_,rfl,hx,Be,GF,rfl,?_⟩;refine⟨p,_,rfl,.inr (SqT.of R.tp),?_⟩;rw[jp];symm;refine Bs (fun c=>?_) (fun c=>?_)
 ·symm;exists⟨x,BZ,dx,_,_,rfl,hx,Be,GF,rfl,?_⟩;exists⟨x,BZ,dx,_,_,rfl,hx,Be,Dp,rfl,?_⟩;have kl:k<ws.length:=⋯
  rw[Xs kl] at q;exact An (SqT.of R.tp) (DY (by rw[qq,zo kl];rfl)) q
 ·rw[vj ⋯] at q;symm;exact q
theorem Cp:CM0 2 BZ "take" ["self"] (yZ BZ):=by
 refine cm' ["self","word"] VV fun nd H vs Q E hr h=>?_;obtain⟨x,r,rfl,R,q⟩:=h;obtain⟨p,ws,k,S,e⟩:=id R;obtain⟨dx,hx⟩:=S.ex;refine⟨_,(Ac (Ai 1 (DR Fq Be (pv 0))) (Ac (Fi (pv 0) (Ag Bl (Br (pv 0) (by rfl)) Ae) (by rfl)) (Ad (Ak (pv 1))))),?_⟩
 symm;exists⟨x,dx,_,rfl,hx,rfl,?_⟩;exists⟨x,r,rfl,R,?_⟩;exists⟨x,BZ,dx,_,_,rfl,hx,Be,Dp,rfl,?_⟩;refine⟨x,BZ,dx,_,rfl,hx,Be,Dp,(by show 2<1000;decide),?_⟩;exists zf fun H2 k2 x2=>?_;exact q H2 k2 ⟨p,ws,k+1,⟨⟨dx,x2⟩,k2 _ _ (G5 S.tp hx (by intro z;cases z)) S.tp,S.ln,S.ok⟩,by rw[<-e,List.tail_drop]⟩
theorem WT:C0 1 "is_name" ["text"] zF:=by
 refine co' ["text"] iY fun nd H vs Q E hr h=>?_;obtain⟨z,rfl,hz,q⟩:=h;refine⟨_,(Ad (Ak (Sy (M7 Jo Jo Ae (BL Dw rfl DN xh (Aa (pv 0) Ab)) (By rfl TQ (DW _ _))) (Xf (BL (UL rfl) rfl lH jo2 (Aa (FZ rfl (Gu ["text"] rfl ∅ rfl ∅ rfl ∅ ∅) (oU (pv 0)) (fun _ _ _ _=>FN) (fun _ _ _ _=>(HY V3 (pv 0) (By rfl jO (dw _ _)) (by rfl)))) Ab)))))),?_⟩;have zl:(cpl z).length=z.length:=Du _;symm;exists⟨z,rfl,hz.fit,?_⟩;have no:¬HN (cpl z)->∀H',Aw H H'->Q (.bl false) H':=fun n H' s'=>q false H' s' ⟨fun z=>(nomatch z),fun z=>absurd z n⟩;by_cases c1:1<=((z.length:Nat):Int)
 rotate_left
 ·refine CK c1 ?_;refine⟨_,rfl,Eg ?_⟩;exact no (fun N=>by have:=N.lo;lia) _ (Aw.refl _)
 exists Hc c1 ?_;by_cases c2:((z.length:Nat):Int)<=8
 rotate_left
 ·rw[decide_eq_false c2];refine Eg ?_;exact no (fun N=>by have:=N.hi;lia) _ (Aw.refl _)
 rw[decide_eq_true c2];exists Ej ?_;exists Gd (nq ?_);refine⟨_,rfl,hz.asc,?_⟩;refine Ig aN ?_ (fun _ _ _=>trivial) (fun _=>true) (fun v=>match v with | .str y=>.bl (decide (97<=(cpl y).headD 0/\(cpl y).headD 0<=122)) | _=>.non) (fun x hx D ys Q' hD h=>h) (fun x hx _ D ys Q' hD h=>?_) (fun D hD=>?_)
 ·rw[jp];exact Er (by have:z.cps.toList.length=z.length:=zl;lia)
 ·obtain⟨c,hc,rfl⟩:=yy.mp hx;symm;refine⟨_,_,rfl,rfl,?_⟩;rw[AAi];exact h
 have e:((z.cps.toList.map Vy).filter fun _=>true).map (fun v=>match v with | .str y=>V.bl (decide (97<=(cpl y).headD 0/\(cpl y).headD 0<=122)) | _=>.non)=((cpl z).map fun c=>decide (97<=c/\c<=122)).map V.bl:=by
  rw[Qr.mpr (fun _ _=>rfl),va,va];rfl
 rw[e];exists fresh hD fun H1 s1 t1=>?_;refine⟨D,_,rfl,SqL.of t1,?_⟩;refine q _ _ s1 ?_;rw[jn7,ja6];exact⟨fun h=>⟨⋯,⋯,fun c hc=>by simpa using h c hc⟩,fun N c hc=>by simpa using N.ch c hc⟩
theorem Ls:C0 1 "is_readable" ["text"] Wv:=by
 refine co' ["text"] VM fun nd H vs Q E hr h=>?_;obtain⟨z,rfl,hz,zl,q⟩:=h;exists⟨_,(Ad (Ak (Sy (BL UJ rfl JH ji1 (Aa (pv 0) (Aa (Xh rfl GJ xo (bN _)) Ab))) (Xf (HY Jo (BL Dw rfl DN xh (Aa (pv 0) Ab)) (By rfl Xv (DW _ _)) (Al _)))))),?_⟩;exists bQ (.txt z hz) ?_;exists Ej ?_;exists⟨z,rfl,hz.fit,?_⟩;have:decide ((z.length:Int)<=4000)=true:=by
  rw[decide_eq_true_eq];lia
 rw[this];exact q
theorem Kl:C0 1 "is_number" ["text"] tu:=by
 refine co' ["text","figures"] ZG fun nd H vs Q E hr h=>?_;obtain⟨z,rfl,hz,q⟩:=h;refine⟨_,(Ac (Ai 1 (Do (Fg (FP vc PySem.F.slot_str_startswith PySem.F.type_str_startswith Vg (pv 0) (Aa Ah Ab))) (Ep W3 (pv 0) (Ft Ae) Fv) (pv 0)))
  (Ac (Ay (PW.pt (Gk (Aj Fp (BL Dw rfl DN xh (Aa (pv 1) Ab)) Ae (Al _)) (FJ (Aj Ew (BL Dw rfl DN xh (Aa (pv 1) Ab)) (By rfl TV (DW _ _)) (Al _)))))
   (Ad (Ak M8))
   Ao)
  (Ac (Ay (Aj Bh (CQ qH (pv 1) Ae) Ah (Al _))
   (Ad (Ak (HY Bh (pv 0) Ah (Al _))))
   Ao)
  (Ad (Ak (BL (UL rfl) rfl lH jo2 (Aa (FZ rfl (Gu ["text","figures"] rfl ∅ rfl ∅ rfl ∅ ∅) (oU (pv 1)) (fun _ _ _ _=>FN) (fun _ _ _ _=>(HY V3 (pv 0) (By rfl jP (dw _ _)) (by rfl)))) Ab))))))),?_⟩
 symm;exists⟨rfl,?_⟩;refine⟨z,_,rfl,rfl,?_⟩;rw[Wr (.inr trivial)];symm;refine Bs (fun hm=>?_) (fun hm=>?_)
 ·symm;have l1:1<=z.length:=by
   rw[<-Du];cases h:cpl z with
   | nil=>rw[h] at hm;cases hm
   | cons a r=>simp
  refine⟨z,rfl,hz.fit,?_⟩;have hy:TOk (Txt.slice z (some 1) none):=hz.slice _ _;have ey:cpl (Txt.slice z (some 1) none)=G8 (cpl z):=by
   rw[Pn l1];unfold G8;rw[xz hm]
  generalize Txt.slice z (some 1) none=y at hy ey ⊢;symm;have fy:=hy.fit;have yl:(cpl y).length=y.length:=Du _;exists⟨_,rfl,fy,?_⟩;refine Bs (fun l1=>Ej ?_) (fun l1=>?_)
  ·symm;refine q _ _ (Aw.refl _) ⟨(fun e=>nomatch e),fun N=>?_⟩;have:=N.lo;rw[<-ey] at this;lia
  symm;exists⟨_,rfl,fy,?_⟩;refine Bs (fun l2=>?_) (fun l2=>?_)
  ·symm;refine q _ _ (Aw.refl _) ⟨(fun e=>nomatch e),fun N=>?_⟩;have:=N.hi;rw[<-ey] at this;lia
  symm;obtain⟨c0,r0,ec⟩:∃c r,cpl y=c::r:=by
   cases h:cpl y with
   | nil=>rw[h] at yl;simp at yl;lia
   | cons c r=>exact⟨c,r,rfl⟩
  refine⟨_,0,c0,rfl,rfl,fy,by rw[show y.cps.toList=c0::r0 from ec];exact DY (j:=0) rfl,?_⟩;symm;refine Bs (fun e0=>?_) (fun e0=>?_)
  ·symm;have c48:c0=48:=by
    have e1:(⟨#[c0]⟩:Str)=Str.ofString "0":=V.str.inj e0;have e2:cpl (⟨#[c0]⟩:Str)=cpl "0":=xy cpl e1;have e3:cpl "0"=[48]:=∅;rw[e3] at e2;injection e2
   refine q _ _ (Aw.refl _) ?_;rw[decide_eq_true_eq];have e3:cpl "0"=[48]:=∅;constructor
   ·intro e;have ez:cpl z=[48]:=by rw[V.str.inj e,e3]
    refine⟨?_,?_,?_,?_⟩<;>rw[ez]<;>simp[G8]
   ·intro N;have:=N.z0 (by rw[<-ey,ec,c48];rfl);exact xy V.str (Eu (by rw[this,e3]))
  symm;exists Gd (nq ?_);refine⟨_,rfl,hy.asc,?_⟩;refine Ig aN ?_ (fun _ _ _=>trivial) (fun _=>true) (fun v=>match v with | .str y=>.bl (decide (48<=(cpl y).headD 0/\(cpl y).headD 0<=57)) | _=>.non) (fun x hx D ys Q' hD h=>h) (fun x hx _ D ys Q' hD h=>?_) (fun D hD=>?_)
  ·rw[jp];exact Er (by have:y.cps.toList.length=y.length:=yl;lia)
  ·obtain⟨c,hc,rfl⟩:=yy.mp hx;symm;refine⟨_,_,rfl,rfl,?_⟩;rw[qK];exact h
  have e:((y.cps.toList.map Vy).filter fun _=>true).map (fun v=>match v with | .str y=>V.bl (decide (48<=(cpl y).headD 0/\(cpl y).headD 0<=57)) | _=>.non)=((cpl y).map fun c=>decide (48<=c/\c<=57)).map V.bl:=by
   rw[Qr.mpr (fun _ _=>rfl),va,va];rfl
  rw[e];symm;refine⟨D,_,rfl,SqL.of Am,?_⟩;refine q _ _ (Av hD _) ?_;rw[jn7,ja6];constructor
  ·intro h;refine⟨by rw[<-ey];lia,by rw[<-ey];lia,fun c hc=>?_,fun h0=>?_⟩
   ·rw[<-ey] at hc;simpa using h c hc
   ·rw[<-ey,ec] at h0;injection h0 with h0;subst h0;exact absurd (by congr) e0
  ·intro N c hc;have:=N.dg c (by rw[<-ey];exact hc);simpa using this
 ·symm;have hy:=hz;have ey:cpl z=G8 (cpl z):=by
   unfold G8;rw[yb hm]
  have fy:=hy.fit;have yl:(cpl z).length=z.length:=Du _;exists⟨_,rfl,fy,?_⟩;refine Bs (fun l1=>Ej ?_) (fun l1=>?_)
  ·symm;refine q _ _ (Aw.refl _) ⟨(fun e=>nomatch e),fun N=>?_⟩;have:=N.lo;rw[<-ey] at this;lia
  symm;exists⟨_,rfl,fy,?_⟩;refine Bs (fun l2=>?_) (fun l2=>?_)
  ·symm;refine q _ _ (Aw.refl _) ⟨(fun e=>nomatch e),fun N=>?_⟩;have:=N.hi;rw[<-ey] at this;lia
  symm;obtain⟨c0,r0,ec⟩:∃c r,cpl z=c::r:=by
   cases h:cpl z with
   | nil=>rw[h] at yl;simp at yl;lia
   | cons c r=>exact⟨c,r,rfl⟩
  refine⟨_,0,c0,rfl,rfl,fy,by rw[show z.cps.toList=c0::r0 from ec];exact DY (j:=0) rfl,?_⟩;symm;refine Bs (fun e0=>?_) (fun e0=>?_)
  ·symm;have c48:c0=48:=by
    have e1:(⟨#[c0]⟩:Str)=Str.ofString "0":=V.str.inj e0;have e2:cpl (⟨#[c0]⟩:Str)=cpl "0":=xy cpl e1;have e3:cpl "0"=[48]:=∅;rw[e3] at e2;injection e2
   refine q _ _ (Aw.refl _) ?_;rw[decide_eq_true_eq];have e3:cpl "0"=[48]:=∅;constructor
   ·intro e;have ez:cpl z=[48]:=by rw[V.str.inj e,e3]
    refine⟨?_,?_,?_,?_⟩<;>rw[ez]<;>simp[G8]
   ·intro N;have:=N.z0 (by rw[<-ey,ec,c48];rfl);exact xy V.str (Eu (by rw[this,e3]))
  symm;exists Gd (nq ?_);refine⟨_,rfl,hy.asc,?_⟩;refine Ig aN ?_ (fun _ _ _=>trivial) (fun _=>true) (fun v=>match v with | .str y=>.bl (decide (48<=(cpl y).headD 0/\(cpl y).headD 0<=57)) | _=>.non) (fun x hx D ys Q' hD h=>h) (fun x hx _ D ys Q' hD h=>?_) (fun D hD=>?_)
  ·rw[jp];exact Er (by have:z.cps.toList.length=z.length:=yl;lia)
  ·obtain⟨c,hc,rfl⟩:=yy.mp hx;symm;refine⟨_,_,rfl,rfl,?_⟩;rw[qK];exact h
  have e:((z.cps.toList.map Vy).filter fun _=>true).map (fun v=>match v with | .str y=>V.bl (decide (48<=(cpl y).headD 0/\(cpl y).headD 0<=57)) | _=>.non)=((cpl z).map fun c=>decide (48<=c/\c<=57)).map V.bl:=by
   rw[Qr.mpr (fun _ _=>rfl),va,va];rfl
  rw[e];symm;refine⟨D,_,rfl,SqL.of Am,?_⟩;refine q _ _ (Av hD _) ?_;rw[jn7,ja6];constructor
  ·intro h;refine⟨by rw[<-ey];lia,by rw[<-ey];lia,fun c hc=>?_,fun h0=>?_⟩
   ·rw[<-ey] at hc;simpa using h c hc
   ·rw[<-ey,ec] at h0;injection h0 with h0;subst h0;exact absurd (by congr) e0
  ·intro N c hc;have:=N.dg c (by rw[<-ey];exact hc);simpa using this
theorem G9:C0 3 "take_word" ["reader","word"] (yW BZ):=by
 refine co' ["reader","word"] Yu fun nd H vs Q E hr h=>?_;obtain⟨x,z,r,rfl,R,q⟩:=h;obtain⟨dx,fs,hx,l1,_⟩:=R.ob;refine⟨_,(Ad (Ay (Aj FQ (DR Cp Be (pv 0)) (pv 1) (Al _)) (Ad Bd) Ao)),?_⟩
 symm;exists⟨x,dx,_,rfl,hx,l1,?_⟩;exists⟨x,_,rfl,R,fun H1 k1 R1=>?_⟩;exists GK (xy V.str (Gb z)) ?_;exact q H1 k1 R1
theorem Es:C0 3 "take_number" ["reader"] (ym BZ):=by
 refine co' ["reader","word"] VF fun nd H vs Q E hr h=>?_;obtain⟨x,n,r,rfl,R,sn,q⟩:=h;obtain⟨dx,fs,hx,l1,_⟩:=R.ob;have N:=Il sn;refine⟨_,(Ac (Ai 1 (DR Cp Be (pv 0))) (Ac (Ay (Hl (Fg (Af Kl (Aa (pv 1) Ab)))) (Ad Bd) Ao) (Ad (Ak (Bu Lp rfl wj PyProof.Rows.boot_int (Aa (pv 1) Ab)))))),?_⟩
 symm;exists⟨x,dx,_,rfl,hx,l1,?_⟩;exists⟨x,_,rfl,R,fun H1 k1 R1=>?_⟩;refine⟨_,rfl,R.tk,fun v H2 s2 iv=>?_⟩;obtain rfl:=iv.mpr (show N7 (cpl (sW (nW n))) by rw[Ba];exact N.1);symm;exists Eg ?_;refine⟨_,_,rfl,?_,V9 (show N7 (cpl (sW (nW n))) by rw[Ba];exact N.1),?_⟩
 ·show(sW (nW n)).length<=_;rw[Ci];have:=Dl sn;lia
 ·show Q (.int (KC (cpl (sW (nW n))))) H2;rw[Ba,N.2];exact q H2 (k1.tr (.sm s2)) (R1.same s2)
theorem Lr:C0 4 "take_wanted" ["reader"] (sY BZ):=by
 refine co' ["reader"] VD fun nd H vs Q E hr h=>?_;obtain⟨x,m,r,rfl,R,sm,q⟩:=h;obtain⟨dx,fs,hx,l1,l2⟩:=R.ob;refine⟨_,(Ac (Ay (Aj Bh (DR Fq Be (pv 0)) Ah (Al _)) (Ac (BV (DR Cp Be (pv 0))) (Ad (Ak Fj))) Ao) (Ad (Ak (Af Es (Aa (pv 0) Ab))))),?_⟩
 symm;exists⟨x,dx,_,rfl,hx,l2,?_⟩;exists⟨x,_,rfl,R,?_⟩;cases m with
 | none=>
  walk_at"ew";exists⟨x,dx,_,rfl,hx,l1,?_⟩;exists⟨x,_,rfl,R,fun H1 k1 R1=>?_⟩;exact q H1 k1 R1
 | some n=>
  exists CK (S9 (sm n rfl) ⟨_,_,rfl,nofun⟩) ?_;exact⟨x,n,r,rfl,R,sm n rfl,q⟩
theorem QF:C0 4 "take_each" ["reader"] (uB BZ):=by
 refine co' ["reader","size"] Yv fun nd H vs Q E hr h=>?_;obtain⟨x,n,m,r,rfl,R,sn,sm,q⟩:=h;refine⟨_,(Ac (Ai 1 (Af Es (Aa (pv 0) Ab))) (Ac (BV (Af G9 (Aa (pv 0) (Aa Ah Ab)))) (Ad (Ak (BK (Aa (pv 1) (Aa (Af Es (Aa (pv 0) Ab)) Ab))))))),?_⟩
 symm;exists⟨x,n,_,rfl,R,sn,fun H1 k1 R1=>?_⟩;exists⟨x,_,_,rfl,R1,fun H2 k2 R2=>?_⟩;exists⟨x,m,r,rfl,R2,sm,fun H3 k3 R3=>?_⟩;refine⟨Ij,fun a ha=>?_⟩;refine fresh ha fun H4 s4 t4=>?_;exact q a H4 (((k1.tr k2).tr k3).tr (.sm s4)) (R3.same s4) t4
theorem Z1:C0 5 "take_date" ["reader"] (uD BZ):=by
 refine co' ["reader","name","month","day","years"] Yw fun nd H vs Q E hr h=>?_;obtain⟨x,nm,m,d,y,r,rfl,R,⟨on,om,od,oy,_⟩,hh,q⟩:=h;obtain⟨dx,fs,hx,l1,_⟩:=R.ob;refine⟨_,(Ac (Ai 1 (DR Cp Be (pv 0))) (Ac (Ay (Hl (Fg (Af WT (Aa (pv 1) Ab)))) (Ad Bd) Ao) (Ac (Ai 2 (Af Lr (Aa (pv 0) Ab))) (Ac (Ai 3 (Af Lr (Aa (pv 0) Ab))) (Ac (Ai 4 (BK (Aa Ae (Aa Ae Ab)))) (Ac (Dm (Ay (Aj Bh (DR Fq Be (pv 0)) Ah (Al _)) (Ac (BV (DR Cp Be (pv 0))) (Ad (Ai 4 (Af QF (Aa (pv 0) Ab))))) Ao)) (Ad (Ak (BK (Aa Ah (Aa (pv 1) (Aa (pv 2) (Aa (pv 3) (Aa (pxT 4) (Aa (pxT 4) Ab))))))))))))))),?_⟩
 symm;exists⟨x,dx,_,rfl,hx,l1,?_⟩;exists⟨x,_,rfl,R,fun H1 k1 R1=>?_⟩;refine⟨_,rfl,R.tk,fun v H2 s2 iv=>?_⟩;obtain rfl:=iv.mpr (show HN (cpl (sW nm)) by rw[Ba];exact on);have k2:=k1.tr (.sm s2);symm;exists Eg ?_;exists⟨x,m,_,rfl,R1.same s2,om,fun H3 k3 R3=>?_⟩;exists⟨x,d,_,rfl,R3,od,fun H4 k4 R4=>?_⟩;refine⟨Ij,fun q0 hq0=>?_⟩;refine fresh hq0 fun H5 s5 t5=>?_;have k5:=((k2.tr k3).tr k4).tr (.sm s5);have R5:=R4.same s5;symm;refine De (fun Z' H'=>∃a:Addr,An4 (KB x H H') (Rd BZ H' x r) (H' a=some (.tup [.int (yr y).1,.int (yr y).2])) (Z'=[some (.ref x),some (.str (sW nm)),some (oI m),some (oI d),some (.ref a)])) ?_ ?_
 ·symm;obtain⟨dx,fs,hx,l1,l2⟩:=R5.ob;exists⟨x,dx,_,rfl,hx,l2,?_⟩;exists⟨x,_,rfl,R5,?_⟩;cases y with
  | none=>
   exists CK (fun z=>hh (nP.mp (z.trans (ws_eq "each").symm))) ?_;exact⟨q0,k5,R5,t5,rfl⟩
  | some y=>
   walk_at"ew";exists⟨x,dx,_,rfl,hx,l1,?_⟩;exists⟨x,_,rfl,R5,fun H6 k6 R6=>?_⟩;exists⟨x,y.1,y.2,r,rfl,R6,(oy y rfl).1,(oy y rfl).2.1,fun a H7 k7 R7 t7=>?_⟩;exact⟨a,(k5.tr k6).tr k7,R7,t7,rfl⟩
 rintro Z' H6 ⟨a,k6,R6,t6,rfl⟩;symm;exists An (SqT.of t6) at0 ?_;exists An (SqT.of t6) at1 ?_;refine⟨(by show 6<=sizeLine;decide),fun b hb=>?_⟩;refine fresh hb fun H7 s7 t7=>?_;exact q _ H7 (k6.tr (.sm s7)) (R6.same s7) ⟨b,rfl,t7⟩
theorem cW:C0 1 "words_of" ["text"] sV:=by
 refine co' ["text","told","depth","whole","opened","word","opening","closing"] ak fun nd H vs Q E hr h=>?_;obtain⟨z,rfl,hz,zl,hc,ho,q⟩:=h;refine⟨_,(Ac (Ai 1 (Eb Ab)) (Ac (Ai 2 Ae) (Ac (Ge PassesOwn.never rfl (Fx (FP vc jd0 jd1 KJ (pv 0) (Aa Ah Ab))) (DX (i:=3) nd rfl (by walk_at"o")) (Ac (Ai 4 (FP vc PySem.F.slot_str_lstrip PySem.F.type_str_lstrip jK (pv 3) (Aa Ah Ab))) (Ac (Ai 5 (FP vc PySem.F.slot_str_rstrip PySem.F.type_str_rstrip jJ (pv 4) (Aa Ah Ab))) (Ac (Ay (Aj Bh (pv 5) Ah (Al _)) (Ad Bd) Ao) (Ac (Ai 6 (Ag Cy (BL Dw rfl DN xh (Aa (pv 3) Ab)) (BL Dw rfl DN xh (Aa (pv 4) Ab)))) (Ac (Ai 7 (Ag Cy (BL Dw rfl DN xh (Aa (pv 4) Ab)) (BL Dw rfl DN xh (Aa (pv 5) Ab)))) (Ac (Ai 2 (Ag Bl (pv 2) (pv 6))) (Ac (Ay (Aj Ew (pv 2) (By rfl Qn (DW _ _)) (Al _)) (Ad Bd) Ao) (Ac (Ai 2 (Ag Cy (pv 2) (pv 7))) (Ad (BV (FP ve ja2 ja3 Gp (pv 1) (Aa (Ag Xl (Ag Xl (Ag bc (Eb (Aa Ah Ab)) (pv 6)) (Eb (Aa (pv 5) Ab))) (Ag bc (Eb (Aa Ah Ab)) (pv 7))) Ab))))))))))))) (Ad (Ak (pv 1)))))),?_⟩
 symm;refine⟨vt _,fun l hl=>?_⟩;exists fresh hl fun H1 s1 t1=>?_;exists JS (J4 ?_);exists Mx ?_;exists⟨rfl,?_⟩;refine⟨z,32,rfl,by rw[show Str.ofString " "=⟨#[32]⟩ from by ac_rfl],nofun,hz.len,fun l2 hl2=>?_⟩;exists fresh hl2 fun H2 s2 t2=>?_;have ll:l2≠l:=fun z=>by rw[z,t1] at hl2;cases hl2
 have wt:=mJ 32 (cpl z);generalize hps:spl 32 (cpl z)=ps at*
 unfold tks at q;have t2:H2 l2=some (.lst (ps.map fun w=>V.str (sW w))):=by rw[t2,Ra,hps,va];rfl
 have fl:=Zi ps;have plen:∀(i:Nat) (w:Wd),ps[i]?=some w->w.length<=4000/\i<ps.length:=fun i w hw=>by
  have h1:(w.length+1)<=(ps.map fun w=>w.length+1).sum:=fK (yy.mpr ⟨w,xb hw,rfl⟩);exact⟨⋯,(xp.mp hw).1⟩
 refine⟨l2,rfl,⟨_,SqL.of t2⟩,JC (xs:=ps.map fun w=>V.str (sW w)) (fun i Z' H'=>An3 (Aw H H') (H' l2=some (.lst (ps.map fun w=>V.str (sW w)))) (Ex6 fun(d:Int) (v3 v4 v5 v6 v7:Option V)=>An3 (H' l=some (.lst (((ps.take i).flatMap HX).map fun w=>V.str (sW w)))) (Dok d (ps.drop i)) (Z'=[some (.str z),some (.ref l),some (.int d),v3,v4,v5,v6,v7]))) ⟨s1.trans s2,t2,0,none,none,none,none,none,s2 _ _ t1,by rw[jn5];exact ho,rfl⟩ ?_ ?_ ?_⟩
 ·rintro i Z' H' _ ⟨_,t,_⟩;exact SqL.of t
 ·rintro i x Z' H' hx ⟨sH,tp,d,v3,v4,v5,v6,v7,tl,ew,rfl⟩;rw[qq] at hx;obtain⟨w,hw,rfl⟩:=ui.mp hx;obtain⟨wl,il⟩:=plen i w hw;have ol:=O4 w;have cl:=RP w;have ed:ps.drop i=w::ps.drop (i+1):=by
   rw[Xs il]
   congr 1
   rw[zo il] at hw;injection hw
  rw[ed] at ew;obtain⟨ew,ew2⟩:=ew;unfold opn at ew ew2;unfold cls at ew2;have cw:=hc w (xb hw);have fit:w.length<=sizeLine:=qr wl nofun;symm;exists Mx ?_;exists⟨rfl,?_⟩;refine⟨sW w,_,rfl,rfl,by rw[Ci];exact fit,?_⟩;rw[show (if stripSame (Str.ofString "(").cps.contains true false (sW w) then sW w else stripped (Str.ofString "(").cps.contains true false (sW w))=sW (opd w) from ACZ w];symm;exists Mx ?_;exists⟨rfl,?_⟩;refine⟨sW (opd w),_,rfl,rfl,by rw[Ci];lia,?_⟩;rw[show (if stripSame (Str.ofString ")").cps.contains false true (sW (opd w)) then sW (opd w) else stripped (Str.ofString ")").cps.contains false true (sW (opd w)))=sW (core w) from ACJ w];symm;rw[nJ];exists CK (fun z=>cw (nP.mp z)) ?_;refine⟨_,rfl,by rw[Ci];exact fit,?_⟩;symm;refine⟨_,rfl,by rw[Ci];lia,?_⟩;symm;refine⟨_,rfl,by rw[Ci];lia,?_⟩;symm;refine⟨_,rfl,by rw[Ci];lia,?_⟩;rw[Ci,Ci,Ci];symm;exists CK ⋯ ?_;exists J5 rfl tl ?_;have sz:∀n:Nat,n<=100000->n<=sizeLine:=fun n h=>qr h nofun;refine⟨(by show 1<=sizeLine;decide),fun m1 hm1=>?_⟩;refine fresh hm1 fun H3 s3 t3=>?_;rw[ADY] at t3;symm;refine bO t3 ⋯ ⋯ (sz _ (by simp;lia)) fun m2 hm2=>?_;refine fresh hm2 fun H4 s4 t4=>?_;rw[SX] at t4;symm;refine⟨(by show 1<=sizeLine;decide),fun m3 hm3=>?_⟩;exists fresh hm3 fun H5 s5 t5=>?_;refine⟨m2,m3,_,_,rfl,rfl,s5 _ _ t4,t5,sz _ (by simp;lia),fun m4 hm4=>?_⟩;exists fresh hm4 fun H6 s6 t6=>?_;refine⟨(by show 1<=sizeLine;decide),fun m5 hm5=>?_⟩;refine fresh hm5 fun H7 s7 t7=>?_;rw[ADX] at t7;symm;refine bO t7 ⋯ ⋯ (sz _ (by simp;lia)) fun m6 hm6=>?_;refine fresh hm6 fun H8 s8 t8=>?_;rw[SX] at t8;symm;refine⟨m4,m6,_,_,rfl,rfl,(s7.trans s8) _ _ t6,t8,sz _ (by simp;lia),fun m7 hm7=>?_⟩;refine fresh hm7 fun H9 s9 t9=>?_;have sA:=s3.trans (s4.trans (s5.trans (s6.trans (s7.trans (s8.trans s9)))));rw[show ((w.length:Int)-((opd w).length:Int)).toNat=w.length-(opd w).length by lia,show(((opd w).length:Int)-((core w).length:Int)).toNat=(opd w).length-(core w).length by lia,<-zg] at t9;have tk:(ps.take (i+1)).flatMap HX=(ps.take i).flatMap HX++HX w:=by
   rw[ja0,hw,jd8,jh0,je6,jt8,ya]
  have tle:=sJ (ps:=ps) i;have ple:=ZS w;refine GD ?_;refine⟨l,m7,_,_,rfl,rfl,sA _ _ tl,t9,?_,?_⟩
  ·rw[jp,jp];have b1:((ps.take i).flatMap HX).length<=4001:=qr tle (qr fl (by rw[wt];lia));exact sz _ (qr (jw4 b1 ple) ⋯)
  ·rw[<-uu,<-tk];refine⟨fun r o ho=>?_,?_,_,_,_,_,_,_,Am,?_,rfl⟩
   ·rw[Ax fun z=>by rw[z,hl] at ho;cases ho];exact sA _ _ (sH _ _ ho)
   ·rw[Ax ll];exact sA _ _ tp
   ·rwa [show d+((w.length:Int)-((opd w).length:Int))-(((opd w).length:Int)-((core w).length:Int))=d+((w.length-(opd w).length:Nat):Int)-(((opd w).length-(core w).length:Nat):Int) by lia]
 ·rintro Z' H' ⟨sH,_,d,v3,v4,v5,v6,v7,tl,ew,rfl⟩;rw[jp,jb7] at tl;symm;exact q l H' sH tl
theorem Oe:CZ ["reader","number","word","plan"] ["reader"] (Az HF):=by walk_at"s"
theorem O5{k d:Nat}(F:Fun K "take_numbered" "take_numbered" HF f fd)(Cw:C0 k "take_plan" ["reader"] ((Jy BZ) d))(hk:8<=k):F0 (k+1) f fd ["reader"] ((Wz BZ) d):=by
 refine F.ok (k:=k+0) Oe (fun h=>?_) fun nd H vs Q E hr h=>?_
 ·obtain⟨x,p,r,rfl,_⟩:=h;rfl
 obtain⟨x,p,r,rfl,R,okp,cp,dp,hh,q⟩:=h;refine⟨_,(Ac (Ai 1 (Af Es (Aa (pv 0) Ab))) (Ac (Ai 2 (DR Cp Be (pv 0))) (Ac (Ay (Aj Bh (pv 2) Ah (Al _)) (Ad (Ak (BK (Aa (pv 2) (Aa (pv 1) (Aa (Af Cw (Aa (pv 0) Ab)) Ab)))))) Ao) (Ac (Ay (Aj FQ (pv 2) Ah (Al _)) (Ad Bd) Ao) (Ac (Ai 3 (Af Cw (Aa (pv 0) Ab))) (Ac (BV (Af G9 (Aa (pv 0) (Aa Ah Ab)))) (Ad (Ak (BK (Aa (pv 2) (Aa (pv 1) (Aa (pv 3) (Aa (Af Cw (Aa (pv 0) Ab)) Ab))))))))))))),?_⟩
 cases p with
 | la n p=>
  symm;exists⟨x,n,_,rfl,R,okp.1,fun H1 k1 R1=>?_⟩;obtain⟨dx,fs,hx,l1,_⟩:=R1.ob;exists⟨x,dx,_,rfl,hx,l1,?_⟩;exists⟨x,_,rfl,R1,fun H2 k2 R2=>?_⟩;walk_at"ew";exists⟨x,p,r,rfl,R2,okp.2,trivial,jc9 dp,hh,fun v H3 k3 R3 P3=>?_⟩;refine⟨(by show 3<=sizeLine;decide),fun a ha=>?_⟩;refine fresh ha fun H4 s4 t4=>?_;exact q _ H4 (((k1.tr k2).tr k3).tr (.sm s4)) (R3.same s4) ⟨a,v,rfl,by rw[t4];exact xy (fun z=>some (HO.tup [z,_,_])) (ws_eq _),P3.same s4⟩
 | nt n p p'=>
  have dp:max p.deep p'.deep+1<d+1:=dp;symm;exists⟨x,n,_,rfl,R,okp.1,fun H1 k1 R1=>?_⟩;obtain⟨dx,fs,hx,l1,_⟩:=R1.ob;exists⟨x,dx,_,rfl,hx,l1,?_⟩;exists⟨x,_,rfl,R1,fun H2 k2 R2=>?_⟩;walk_at"nw";exists GK (ws_eq _) ?_;exists⟨x,p,_,rfl,R2,okp.2.1,trivial,⋯,hdn ∅,fun v H3 k3 R3 P3=>?_⟩;exists⟨x,_,_,rfl,R3,fun H4 k4 R4=>?_⟩;exists⟨x,p',r,rfl,R4,okp.2.2.1,trivial,⋯,hh,fun u H5 k5 R5 P5=>?_⟩;refine⟨(by show 4<=sizeLine;decide),fun a ha=>?_⟩;refine fresh ha fun H6 s6 t6=>?_;exact q _ H6 (((((k1.tr k2).tr k3).tr k4).tr k5).tr (.sm s6)) (R5.same s6) ⟨a,v,u,rfl,by rw[t6];exact xy (fun z=>some (HO.tup [z,_,_,_])) (ws_eq _),(PlH.kb R4 k5 (PlH.kb R3 k4 P3)).same s6,P5.same s6⟩
 | _=>exact cp.elim
theorem U6:CZ ["reader","number","plan"] ["reader"] (Az JN):=by walk_at"s"
theorem Vd{k d:Nat}(F:Fun K "take_every" "take_every" JN f fd)(Cw:C0 k "take_plan" ["reader"] ((Jy BZ) d))(hk:8<=k):F0 (k+1) f fd ["reader"] ((Ri BZ) d):=by
 refine F.ok (k:=k+0) U6 (fun h=>?_) fun nd H vs Q E hr h=>?_
 ·obtain⟨x,p,r,rfl,_⟩:=h;rfl
 obtain⟨x,p,r,rfl,R,okp,cp,dp,hh,q⟩:=h;refine⟨_,(Ac (Ai 1 (Af Es (Aa (pv 0) Ab))) (Ac (BV (Af G9 (Aa (pv 0) (Aa Ah Ab)))) (Ac (Ai 2 (Af Cw (Aa (pv 0) Ab))) (Ac (BV (Af G9 (Aa (pv 0) (Aa Ah Ab)))) (Ad (Ak (BK (Aa Ah (Aa (pv 1) (Aa (pv 2) (Aa (Af Es (Aa (pv 0) Ab)) Ab))))))))))),?_⟩
 cases p with
 | ev n p e=>
  symm;exists⟨x,n,_,rfl,R,okp.1,fun H1 k1 R1=>?_⟩;exists⟨x,_,_,rfl,R1,fun H2 k2 R2=>?_⟩;exists⟨x,p,_,rfl,R2,okp.2.2.1,trivial,jc9 dp,hdn ∅,fun v H3 k3 R3 P3=>?_⟩;exists⟨x,_,_,rfl,R3,fun H4 k4 R4=>?_⟩;exists⟨x,e,r,rfl,R4,okp.2.1,fun H5 k5 R5=>?_⟩;refine⟨(by show 4<=sizeLine;decide),fun a ha=>?_⟩;refine fresh ha fun H6 s6 t6=>?_;exact q _ H6 (((((k1.tr k2).tr k3).tr k4).tr k5).tr (.sm s6)) (R5.same s6) ⟨a,v,rfl,t6,(PlH.kb R4 k5 (PlH.kb R3 k4 P3)).same s6⟩
 | _=>exact cp.elim
theorem W5:CZ ["reader","plan","word"] ["reader"] (Az J0):=by walk_at"s"
theorem Xo{k d:Nat}(F:Fun K "take_pair" "take_pair" J0 f fd)(Cw:C0 k "take_plan" ["reader"] ((Jy BZ) d))(hk:8<=k):F0 (k+1) f fd ["reader"] ((Wy BZ) d):=by
 refine F.ok (k:=k+0) W5 (fun h=>?_) fun nd H vs Q E hr h=>?_
 ·obtain⟨x,p,r,rfl,_⟩:=h;rfl
 obtain⟨x,p,r,rfl,R,okp,cp,dp,hh,q⟩:=h;refine⟨_,(Ac (Ai 1 (Af Cw (Aa (pv 0) Ab))) (Ac (Ai 2 (DR Cp Be (pv 0))) (Ac (Ay (Aj Xj (pv 2) (By rfl Xr (Gz _)) (by rfl)) (Ad Bd) Ao) (Ad (Ak (BK (Aa (pv 2) (Aa (pv 1) (Aa (Af Cw (Aa (pv 0) Ab)) Ab))))))))),?_⟩
 cases p with
 | pr w p p'=>
  have dp:max p.deep p'.deep+1<d+1:=dp;symm;refine⟨x,p,_,rfl,R,okp.1,trivial,⋯,hdn (by cases w<;>ac_rfl),fun v H1 k1 R1 P1=>?_⟩;symm;obtain⟨dx,fs,hx,l1,_⟩:=R1.ob;exists⟨x,dx,_,rfl,hx,l1,?_⟩;exists⟨x,_,rfl,R1,fun H2 k2 R2=>?_⟩;refine⟨Gx,_,rfl,.inr (XM _),rfl,rfl,?_⟩;have e:V.str (sW ((sg w.s::(p'.tok++r)).headD []))=V.str (Str.ofString w.s):=ws_eq _;rw[e,ACV w];symm;exists Eg ?_;exists⟨x,p',r,rfl,R2,okp.2,trivial,⋯,hh,fun u H3 k3 R3 P3=>?_⟩;refine⟨(by show 3<=sizeLine;decide),fun a ha=>?_⟩;refine fresh ha fun H4 s4 t4=>?_;exact q _ H4 (((k1.tr k2).tr k3).tr (.sm s4)) (R3.same s4) ⟨a,v,u,rfl,t4,(PlH.kb R2 k3 (PlH.kb R1 k2 P1)).same s4,P3.same s4⟩
 | _=>exact cp.elim
theorem Rm:CZ ["reader","word"] ["reader"] (Az Ik):=by walk_at"s"
theorem S8{k d:Nat}(F:Fun K "take_within" "take_within" Ik f fd)(Cw:C0 k "take_plan" ["reader"] ((Jy BZ) d))(ab:C0 (k+1) "take_every" ["reader"] ((Ri BZ) d))(ac:C0 (k+1) "take_numbered" ["reader"] ((Wz BZ) d))(ad:C0 (k+1) "take_pair" ["reader"] ((Wy BZ) d))(hk:8<=k):F0 (k+2) f fd ["reader"] ((Rg BZ) d):=by
 refine F.ok (k:=k+1) Rm (fun h=>?_) fun nd H vs Q E hr h=>?_
 ·obtain⟨x,p,r,rfl,_⟩:=h;rfl
 obtain⟨x,p,r,rfl,R,okp,cp,dp,hh,q⟩:=h;obtain⟨dx,fs,hx,l1,l2⟩:=R.ob;refine⟨_,(Ac (Ai 1 (DR Fq Be (pv 0))) (Ac (Ay (Aj Bh (pv 1) Ah (Al _)) (Ac (BV (DR Cp Be (pv 0))) (Ad (Ak (BK (Aa (pv 1) (Aa (Af Cw (Aa (pv 0) Ab)) Ab)))))) Ao) (Ac (Ay (Aj Bh (pv 1) Ah (Al _)) (Ac (BV (DR Cp Be (pv 0))) (Ad (Ak (Af ab (Aa (pv 0) Ab))))) Ao) (Ac (Ay (Fg (Af Kl (Aa (pv 1) Ab))) (Ad (Ak (Af ac (Aa (pv 0) Ab)))) Ao) (Ad (Ak (Af ad (Aa (pv 0) Ab)))))))),?_⟩
 symm;exists⟨x,dx,_,rfl,hx,l2,?_⟩;exists⟨x,_,rfl,R,?_⟩;have num:∀n:Int,Sm n->(inn p r).headD []=nW n->cLN p->TOk (sW ((inn p r).headD [])):=fun n sn e _=>by
  rw[e];exact⟨Fb.mpr fun c hc=>by rw[Ba] at hc;have:=JW sn c hc;lia,by rw[Ci];have:=Dl sn;lia⟩
 cases p with
 | no p=>
  walk_at"ew";exists⟨x,dx,_,rfl,hx,l1,?_⟩;exists⟨x,_,rfl,R,fun H1 k1 R1=>?_⟩;exists⟨x,p,r,rfl,R1,okp,trivial,jc9 dp,hh,fun v H2 k2 R2 P2=>?_⟩;refine⟨Ij,fun a ha=>?_⟩;refine fresh ha fun H4 s4 t4=>?_;exact q _ H4 ((k1.tr k2).tr (.sm s4)) (R2.same s4) ⟨a,v,rfl,by rw[t4];exact xy (fun z=>some (HO.tup [z,_])) (ws_eq _),P2.same s4⟩
 | ev n p e=>
  walk_at"nw";walk_at"ew";exists⟨x,dx,_,rfl,hx,l1,?_⟩;exists⟨x,_,rfl,R,fun H1 k1 R1=>?_⟩;exact⟨x,.ev n p e,r,rfl,R1,okp,trivial,dp,hh,q.on k1⟩
 | la n p=>
  exists CK (S9 okp.1 ⟨_,_,rfl,nofun⟩) ?_;exists CK (S9 okp.1 ⟨_,_,rfl,nofun⟩) ?_;refine⟨_,rfl,R.tk,fun v H2 s2 iv=>?_⟩;obtain rfl:=iv.mpr (show N7 (cpl (sW (nW n))) by rw[Ba];exact(Il okp.1).1);symm;exists Ej ?_;exact⟨x,.la n p,r,rfl,R.same s2,okp,trivial,dp,hh,q.on (.sm s2)⟩
 | nt n p p'=>
  exists CK (S9 okp.1 ⟨_,_,rfl,nofun⟩) ?_;exists CK (S9 okp.1 ⟨_,_,rfl,nofun⟩) ?_;refine⟨_,rfl,R.tk,fun v H2 s2 iv=>?_⟩;obtain rfl:=iv.mpr (show N7 (cpl (sW (nW n))) by rw[Ba];exact(Il okp.1).1);symm;exists Ej ?_;exact⟨x,.nt n p p',r,rfl,R.same s2,okp,trivial,dp,hh,q.on (.sm s2)⟩
 | pr w p p'=>
  obtain⟨z,t,e,hz⟩:=p.hd;have e1:inn (.pr w p p') r=z::(t++sg w.s::(p'.tok++r)):=by
   show p.tok++_=_;rw[e];rfl
  have R':=R;rw[e1] at R' ⊢;obtain⟨n1,n2,n3⟩:V.str (sW z)≠V.str "not"/\V.str (sW z)≠V.str "every"/\∃c u,z=c::u/\¬(c=45\/48<=c/\c<=57):=by
   have g:∀{y:String} {c:Nat} {u:Wd},z=sg y->sg y=c::u->¬(c=45\/48<=c/\c<=57)->Str.ofString y≠Str.ofString "not"->Str.ofString y≠Str.ofString "every"->V.str (sW z)≠V.str "not"/\V.str (sW z)≠V.str "every"/\∃c u,z=c::u/\¬(c=45\/48<=c/\c<=57):=fun a b c d e=>by
    rw[a];exact⟨dN d,dN e,_,_,b,c⟩
   rcases qf.mp hz with h | hz
   ·exact g h rfl nofun ∅ ∅
   rcases qf.mp hz with h | hz
   ·exact g h rfl nofun ∅ ∅
   rcases qf.mp hz with h | hz
   ·exact g h rfl nofun ∅ ∅
   rcases qf.mp hz with h | hz
   ·exact g h rfl nofun ∅ ∅
   ·exact g (y:="(") ((zw.mp hz).trans ∅) rfl nofun ∅ ∅
  exists CK n1 ?_;exists CK n2 ?_;refine⟨_,rfl,R'.tk,fun v H2 s2 iv=>?_⟩;obtain rfl:v=false:=by
   cases v with
   | false=>rfl
   | true=>
    have:=iv.mp rfl;rw[show (z::(t++sg w.s::(p'.tok++r))).headD []=z from rfl,Ba] at this;obtain⟨c,u,rfl,n⟩:=n3;exact absurd (cI this) n
  symm;exists Eg ?_;exact⟨x,.pr w p p',r,rfl,R.same s2,okp,trivial,dp,hh,q.on (.sm s2)⟩
 | _=>exact(cp.elim id fun z=>z.elim id id).elim
theorem W4:CZ ["reader","word","plan","numbers"] ["reader"] (Az Jz):=by walk_at"s"
theorem Xn{k d:Nat}(F:Fun K "take_plan" "take_plan" Jz f fd)(ab:C0 (k+2) "take_within" ["reader"] ((Rg BZ) d))(hk:8<=k):F0 (k+3) f fd ["reader"] ((Jy BZ) (d+1)):=by
 refine F.ok (k:=k+2) W4 (fun h=>?_) fun nd H vs Q E hr h=>?_
 ·obtain⟨x,p,r,rfl,_⟩:=h;rfl
 obtain⟨x,p,r,rfl,R,okp,_,dp,hh,q⟩:=h;obtain⟨dx,fs,hx,l1,_⟩:=R.ob;refine⟨_,(Ac (Ai 1 (DR Cp Be (pv 0))) (Ac (Ay (PW.pt (Gk (Aj Bh (pv 1) Ah (Al _)) (FJ (Aj Bh (pv 1) Ah (Al _))))) (Ad (Ak (BK (Aa (pv 1) Ab)))) Ao) (Ac (Ay (Aj Bh (pv 1) Ah (Al _)) (Ac (Ai 3 (Af QF (Aa (pv 0) Ab))) (Ad (Ak (BK (Aa (pv 1) (Aa (pxT 3) (Aa (pxT 3) Ab))))))) Ao) (Ac (Ay (Aj Bh (pv 1) Ah (Al _)) (Ad (Ak (Af Z1 (Aa (pv 0) Ab)))) Ao) (Ac (Ay (Aj FQ (pv 1) Ah (Al _)) (Ad Bd) Ao) (Ac (Ai 2 (Af ab (Aa (pv 0) Ab))) (Ac (BV (Af G9 (Aa (pv 0) (Aa Ah Ab)))) (Ad (Ak (pv 2)))))))))),?_⟩
 symm;exists⟨x,dx,_,rfl,hx,l1,?_⟩;exists⟨x,_,rfl,R,fun H1 k1 R1=>?_⟩;cases p with
 | lf b=>
  cases b with
  | true=>
   refine Hc (ws_eq "all") ?_;exists Ej ?_;refine⟨(by show 1<=sizeLine;decide),fun a ha=>?_⟩;refine fresh ha fun H4 s4 t4=>?_;exact q _ H4 (k1.tr (.sm s4)) (R1.same s4) ⟨a,rfl,by rw[t4];exact xy (fun z=>some (HO.tup [z])) (ws_eq "all")⟩
  | false=>
   walk_at"nw";exists Hc (ws_eq "none") ?_;refine⟨(by show 1<=sizeLine;decide),fun a ha=>?_⟩;refine fresh ha fun H4 s4 t4=>?_;exact q _ H4 (k1.tr (.sm s4)) (R1.same s4) ⟨a,rfl,by rw[t4];exact xy (fun z=>some (HO.tup [z])) (ws_eq "none")⟩
 | each n m=>
  walk_at"nw";walk_at"nw";walk_at"ew";exists⟨x,n,m,r,rfl,R1,okp.1,okp.2.1,fun a H2 k2 R2 t2=>?_⟩;exists An (SqT.of t2) at0 ?_;exists An (SqT.of t2) at1 ?_;refine⟨(by show 3<=sizeLine;decide),fun b hb=>?_⟩;refine fresh hb fun H4 s4 t4=>?_;exact q _ H4 ((k1.tr k2).tr (.sm s4)) (R2.same s4) ⟨b,rfl,by rw[t4];exact xy (fun z=>some (HO.tup [z,_,_])) (ws_eq _)⟩
 | date nm m e y=>
  walk_at"nw";walk_at"nw";walk_at"nw";walk_at"ew";exact⟨x,nm,m,e,y,r,rfl,R1,okp,hh,q.on k1⟩
 | _=>
  walk_at"nw";walk_at"nw";walk_at"nw";walk_at"nw";refine GK (by show V.str (sW kL)=_;rw[xX];exact ws_eq _) ?_;symm;refine⟨x,_,kR::r,rfl,by simp only[PT.tok,jf5,Zs,ji9] at R1;exact R1,okp,by first | exact trivial | exact .inl trivial | exact .inr (.inl trivial) | exact .inr (.inr trivial),dp,(show kR≠sg "each" by ac_rfl),fun v H2 k2 R2 P2=>?_⟩
  symm;refine⟨x,_,r,rfl,by rw[show cpl ")"=kR by ac_rfl];exact R2,fun H3 k3 R3=>?_⟩;symm;exact q _ H3 ((k1.tr k2).tr k3) R3 (PlH.kb R2 k3 P2)
theorem Cw:C0 131 "take_plan" ["reader"] ((Jy BZ) 41):=XQ (k0:=8) (J:=3) (sp:=(Jy BZ)) (st:=Jz) gX gG (by walk_at"g") (by walk_at"b") (fun _ _ _ _ h=>Ym h) (fun d _ _ R F=>by
 have hk:8<=8+3*d:=Zp _ _;have ab:C0 ((8+3*d)+1) "take_numbered" ["reader"] ((Wz BZ) d):=co (st:=HF) (by walk_at"g") (by walk_at"b") fun F=>O5 F R hk;have ac:C0 ((8+3*d)+1) "take_every" ["reader"] ((Ri BZ) d):=co (st:=JN) (by walk_at"g") (by walk_at"b") fun F=>Vd F R hk;have ad:C0 ((8+3*d)+1) "take_pair" ["reader"] ((Wy BZ) d):=co (st:=J0) (by walk_at"g") (by walk_at"b") fun F=>Xo F R hk;have ae:C0 ((8+3*d)+2) "take_within" ["reader"] ((Rg BZ) d):=co (st:=Ik) (by walk_at"g") (by walk_at"b") fun F=>S8 F R ac ab ad hk;exact Xn F ae hk) 41
theorem aA:C0 8 "made_date" ["plan","calendars"] (tW K BJ CL Bk Aq):=by
 refine co' ["plan","calendars","name"] Y9 fun nd H vs Q E hr h=>?_;obtain⟨v,a,m,d,y,g,rfl,⟨q0,rfl,hq⟩,ok,sm,⟨kv,z,hk,ez,C⟩,q⟩:=h;have dg:Vo H a (.str (sW (sg "sun"))) (some (.ref z)):=.inl ⟨_,.inr (sW (sg "sun")),.inl hk,rfl,ez.symm⟩;have yp:=PT.yr_pos ok;refine⟨_,(Ac (Ai 2 (pxT 0))
  (Ac (Ay (Xa (V2 (fX hr) (pv 2) (pv 1)))
   (Ad Bd)
   Ao)
  (Ad (Ak (Gf Pg (Aa (pv 2) (Aa (eX (fX hr) (pv 1) (pv 2) (fun _ _=>rfl)) (Aa (pxT 0) (Aa (pxT 0) (Aa (pxT 0) (Aa (pxT 0) Ab))))))))))),?_⟩
 symm;exists An (SqT.of hq) HD ?_;unfold Wn;symm;refine⟨a,some (.ref z),rfl,dg,?_⟩;refine⟨_,rfl,?_⟩;exists Eg ?_;unfold lY;symm;exists⟨a,.ref z,rfl,dg,?_⟩;exists An (SqT.of hq) Ks ?_;exists An (SqT.of hq) wN ?_;exists An (SqT.of hq) ADp ?_;exists An (SqT.of hq) ADo ?_;exact fun x dx hx hdx ne=>⟨x,z,_,g,(yr y).1,(yr y).2,m,d,rfl,∅,Hi.same C (Ha hx hdx ne),sm,ok.2.2.2.2.1,fun i e=>Ez (ok.2.1 i e),ok.2.2.2.2.2.1,fun i e=>Ez (ok.2.2.1 i e),yp.1,yp.2,.go hx hdx ne fun H' s N=>⟨rfl,q x H' s N⟩⟩
theorem Z9:C0 12 "made_pair" ["word","one","other"] (tV K BJ CL):=by
 refine co' ["word","one","other"] Y8 fun nd H vs Q E hr h=>?_;obtain⟨w,x,y,p,p',g,rfl,R1,R2,lz,q⟩:=h;refine⟨_,(Ac (Ay (Aj Bh (pv 0) Ah (Al _)) (Ad (Ak (Gf Q4 (Aa (pv 1) (Aa (pv 2) Ab))))) Ao) (Ac (Ay (Aj Bh (pv 0) Ah (Al _)) (Ad (Ak (Gf Nu (Aa (pv 1) (Aa (pv 2) Ab))))) Ao) (Ac (Ay (Aj Bh (pv 0) Ah (Al _)) (Ad (Ak (Gf Uq (Aa (pv 1) (Aa (pv 2) Ab))))) Ao) (Ac (Ay (Aj Bh (pv 0) Ah (Al _)) (Ad (Ak (Gf Nq (Aa (pv 1) (Aa (pv 2) Ab))))) Ao) (Ac (Ay (Aj Bh (pv 0) Ah (Al _)) (Ad (Ak (Gf Qx (Aa (pv 1) (Aa (pv 2) Ab))))) Ao) (Ac (Ay (Aj Bh (pv 0) Ah (Al _)) (Ad (Ak (Gf PN (Aa (pv 1) (Aa (pv 2) Ab))))) Ao) (Ac (Ay (Aj Bh (pv 0) Ah (Al _)) (Ad (Ak (Gf Qz (Aa (pv 1) (Aa (pv 2) Ab))))) Ao) (Ad (Ak (Gf Qy (Aa (pv 1) (Aa (pv 2) Ab)))))))))))),?_⟩
 symm;cases w<;>(repeat walk_at"nw")<;>(try walk_at"ew")<;>exact fun y dy hy hdy ne=>ADe R1 R2 lz hy hdy ne fun H' s N=>⟨rfl,q _ H' s N⟩
theorem uI:CZ ["plan","calendars","word","one"] ["plan","calendars"] (Az bD):=by walk_at"s"
theorem u9{k d:Nat}(F:Fun K "made" "made" bD f fd)(Ji:C0 k "made" ["plan","calendars"] ((Rh K BJ CL Bk Aq) d))(hk:12<=k):F0 (k+1) f fd ["plan","calendars"] ((Rh K BJ CL Bk Aq) (d+1)):=by
 refine F.ok (k:=k+0) uI (fun h=>?_) fun nd H vs Q E hr h=>?_
 ·obtain⟨v,a,p,g,rfl,_⟩:=h;rfl
 obtain⟨v,a,p,g,rfl,P,ok,kn,dp,D0,Di,lz,q⟩:=h;refine⟨_,(Ac (Ai 2 (pxT 0)) (Ac (Ay (Aj Bh (pv 2) Ah (Al _)) (Ad (Ak (Sv Kr (hr.mono ⋯) rfl))) Ao) (Ac (Ay (Aj Bh (pv 2) Ah (Al _)) (Ad (Ak (Sv Lw (hr.mono ⋯) rfl))) Ao) (Ac (Ay (Aj Bh (pv 2) Ah (Al _)) (Ad (Ak (Gf Js (Aa (pxT 0) (Aa (pxT 0) Ab))))) Ao) (Ac (Ay (Aj Bh (pv 2) Ah (Al _)) (Ad (Ak (Af aA (Aa (pv 0) (Aa (pv 1) Ab))))) Ao) (Ac (Ay (Aj Bh (pv 2) Ah (Al _)) (Ad (Ak (Gf Um (Aa (Af Ji (Aa (pxT 0) (Aa (pv 1) Ab))) Ab)))) Ao) (Ac (Ay (Aj Bh (pv 2) Ah (Al _)) (Ad (Ak (Gf PX (Aa (pxT 0) (Aa (Af Ji (Aa (pxT 0) (Aa (pv 1) Ab))) Ab))))) Ao) (Ac (Ay (Aj Bh (pv 2) Ah (Al _)) (Ad (Ak (Gf Pa (Aa (pxT 0) (Aa (Af Ji (Aa (pxT 0) (Aa (pv 1) Ab))) (Aa (pxT 0) Ab)))))) Ao) (Ac (Ay (Aj Bh (pv 2) Ah (Al _)) (Ac (Ai 3 (Af Ji (Aa (pxT 0) (Aa (pv 1) Ab)))) (Ad (Ak (Gf Up (Aa (pxT 0) (Aa (pv 3) (Aa (Af Ji (Aa (pxT 0) (Aa (pv 1) Ab))) Ab))))))) Ao) (Ac (Ai 3 (Af Ji (Aa (pxT 0) (Aa (pv 1) Ab)))) (Ad (Ak (Af Z9 (Aa (pv 2) (Aa (pv 3) (Aa (Af Ji (Aa (pxT 0) (Aa (pv 1) Ab))) Ab)))))))))))))))),?_⟩
 cases p with
 | lf b=>
  obtain⟨q0,rfl,hq⟩:=P;symm;exists An (SqT.of hq) Dh ?_;cases b with
  | true=>
   walk_at"ew";exact fun x dx hx hdx ne=>⟨x,g,rfl,.go hx hdx ne fun H' s N=>⟨rfl,q x H' s N⟩⟩
  | false=>
   walk_at"nw";walk_at"ew";exact fun x dx hx hdx ne=>⟨x,g,rfl,.go hx hdx ne fun H' s N=>⟨rfl,q x H' s N⟩⟩
 | each n r=>
  obtain⟨q0,rfl,hq⟩:=P;symm;exists An (SqT.of hq) Dh ?_;walk_at"nw";walk_at"nw";walk_at"ew";exists An (SqT.of hq) HD ?_;exists An (SqT.of hq) Ks ?_;exact fun x dx hx hdx ne=>⟨x,n,r,g,rfl,ok.2.2.1,by have:=ok.2.2.2;lia,.go hx hdx ne fun H' s N=>⟨rfl,q x H' s N⟩⟩
 | date nm m e y=>
  obtain⟨q0,rfl,hq⟩:=P;symm;exists An (SqT.of hq) Dh ?_;walk_at"nw";walk_at"nw";walk_at"nw";walk_at"ew";obtain rfl:nm=sg "sun":=kn;exact⟨_,a,m,e,y,g,rfl,⟨q0,rfl,hq⟩,ok,D0,Di,q⟩
 | no p=>
  obtain⟨q0,u,rfl,hq,P⟩:=P;symm;exists An (SqT.of hq) Dh ?_;walk_at"nw";walk_at"nw";walk_at"nw";walk_at"nw";walk_at"ew";exists An (SqT.of hq) HD ?_;exists⟨u,a,p,g,rfl,P,ok,kn,jc9 dp,D0,Di,lz,fun t H1 s1 T=>?_⟩;exact fun x dx hx hdx ne=>⟨x,t,_,g,rfl,T.same (Ha hx hdx ne),.go hx hdx ne fun H' s N=>⟨rfl,q x H' (s1.trans s) N⟩⟩
 | la k p=>
  obtain⟨q0,u,rfl,hq,P⟩:=P;symm;exists An (SqT.of hq) Dh ?_;walk_at"nw";walk_at"nw";walk_at"nw";walk_at"nw";walk_at"nw";walk_at"ew";exists An (SqT.of hq) HD ?_;exists An (SqT.of hq) Ks ?_;exists⟨u,a,p,g,rfl,P,ok.2,kn,jc9 dp,D0,Di,lz,fun t H1 s1 T=>?_⟩;exact fun x dx hx hdx ne=>⟨x,t,k,_,g,rfl,Ez ok.1,T.same (Ha hx hdx ne),.go hx hdx ne fun H' s N=>⟨rfl,q x H' (s1.trans s) N⟩⟩
 | ev k p e=>
  obtain⟨q0,u,rfl,hq,P⟩:=P;have sp:=PT.sz_pos D0 ok.2.2.1;have lz:p.sz g*k<=150000:=lz;have l1:=vL sp (show 0<k by have:=ok.2.2.2.1;lia);symm;exists An (SqT.of hq) Dh ?_;walk_at"nw";walk_at"nw";walk_at"nw";walk_at"nw";walk_at"nw";walk_at"nw";walk_at"ew";exists An (SqT.of hq) HD ?_;exists An (SqT.of hq) Ks ?_;exists⟨u,a,p,g,rfl,P,ok.2.2.1,kn,jc9 dp,D0,Di,⋯,fun t H1 s1 T=>?_⟩;exists An (SqT.of (s1 _ _ hq)) wN ?_;exact fun x dx hx hdx ne=>⟨x,t,k,e,_,g,rfl,ok.2.2.2.1,by have:=ok.2.2.2.2;lia,by rw[PT.sz_nrm];exact lz,ACo ok.2.1,T.same (Ha hx hdx ne),.go hx hdx ne fun H' s N=>⟨rfl,q x H' (s1.trans s) N⟩⟩
 | nt k p p'=>
  obtain⟨q0,u,u',rfl,hq,P,P'⟩:=P;have dp:max p.deep p'.deep+1<d+1:=dp;have lz:Cm (p.sz g) (p'.sz g)<=150000:=lz;have ll:=pW (PT.sz_pos D0 ok.2.1) (PT.sz_pos D0 ok.2.2.1);symm;exists An (SqT.of hq) Dh ?_;walk_at"nw";walk_at"nw";walk_at"nw";walk_at"nw";walk_at"nw";walk_at"nw";walk_at"nw";walk_at"ew";exists An (SqT.of hq) Ks ?_;exists⟨u,a,p,g,rfl,P,ok.2.1,kn.1,⋯,D0,Di,⋯,fun t H1 s1 T=>?_⟩;exists An (SqT.of (s1 _ _ hq)) HD ?_;exists An (SqT.of (s1 _ _ hq)) wN ?_;exists⟨u',a,p',g,rfl,P'.same s1,ok.2.2.1,kn.2,⋯,D0,Di.same s1,⋯,fun t' H2 s2 T'=>?_⟩;exact fun x dx hx hdx ne=>⟨x,t,t',k,_,_,g,rfl,ok.2.2.2,Ez ok.1,(T.same s2).same (Ha hx hdx ne),T'.same (Ha hx hdx ne),by rw[PT.sz_nrm,PT.sz_nrm];exact lz,.go hx hdx ne fun H' s N=>⟨rfl,q x H' ((s1.trans s2).trans s) N⟩⟩
 | pr w p p'=>
  obtain⟨q0,u,u',rfl,hq,P,P'⟩:=P;have dp:max p.deep p'.deep+1<d+1:=dp;have lz:Cm (p.sz g) (p'.sz g)<=150000:=lz;have ll:=pW (PT.sz_pos D0 ok.1) (PT.sz_pos D0 ok.2);have no:∀{z:String},z∈["all","none","each","date","not","later","every","of"]->V.str (Str.ofString w.s)≠V.str (Str.ofString z):=fun h z=>ACU w _ h (V.str.inj z);symm;exists An (SqT.of hq) Dh ?_;exists CK (no nofun) ?_;exists CK (no nofun) ?_;exists CK (no nofun) ?_;exists CK (no nofun) ?_;exists CK (no nofun) ?_;exists CK (no nofun) ?_;exists CK (no nofun) ?_;exists CK (no nofun) ?_;exists An (SqT.of hq) HD ?_;exists⟨u,a,p,g,rfl,P,ok.1,kn.1,⋯,D0,Di,⋯,fun t H1 s1 T=>?_⟩;exists An (SqT.of (s1 _ _ hq)) Ks ?_;exists⟨u',a,p',g,rfl,P'.same s1,ok.2,kn.2,⋯,D0,Di.same s1,⋯,fun t' H2 s2 T'=>?_⟩;exact⟨w,t,t',_,_,g,rfl,T.same s2,T',by rw[PT.sz_nrm,PT.sz_nrm];exact lz,fun z H' s N=>q z H' ((s1.trans s2).trans s) N⟩
theorem Ji:C0 53 "made" ["plan","calendars"] ((Rh K BJ CL Bk Aq) 41):=XQ (k0:=12) (J:=1) (sp:=(Rh K BJ CL Bk Aq)) (st:=bD) gX gG (by walk_at"g") (by walk_at"b") (fun _ _ _ _ h=>Yn h) (fun d _ _ R F=>by
 have hk:12<=12+1*d:=Zp _ _;exact u9 F R hk) 41
theorem Z3:C0 132 "read_rule" ["text","calendars"] (yg K BJ CL Bk Aq):=by
 refine co' ["text","calendars","reader","plan"] Yz fun nd H vs Q E hr h=>?_;obtain⟨a,p,g,rfl,ok,kn,mn,D0,Di,lz,q⟩:=h;have tl:p.tx.length<=4000:=qr (PT.tx_len ok) ⋯;have dl:p.deep<=40:=by have:=PT.lv_br p;lia
 obtain⟨es,tk,dk,co⟩:=PT.rdy ok tl dl;have W:=PT.wf ok;refine⟨_,(Ac (Ay (Hl (Fg (Af Ls (Aa (pv 0) Ab)))) (Ad Bd) Ao) (Ac (Ai 2 (Gf Nt (Aa (Af cW (Aa (pv 0) Ab)) Ab))) (Ac (Ai 3 (Af Cw (Aa (pv 2) Ab))) (Ac (Ay (Aj FQ (DR Fq Be (pv 2)) Ah (Al _)) (Ad Bd) Ao) (Ad (Ak (Af Ji (Aa (pv 3) (Aa (pv 1) Ab))))))))),?_⟩
 symm;refine⟨_,rfl,tk,by rw[Ci];exact tl,?_⟩;symm;exists Eg ?_;refine⟨_,rfl,tk,by rw[Ba];exact tl,by rw[Ba,es];exact co,by rw[Ba,es];exact dk,fun l H1 s1 t1=>?_⟩;rw[Ba,es,W.tk] at t1;symm;refine fun x dx hx hdx ne=>⟨x,dx,l,p.tok,rfl,Am,Ha hx hdx ne _ _ t1,?_,PT.tok_ok ok,fun H2 k2 R2=>⟨rfl,?_⟩⟩
 ·have:=PT.tok_len p;lia
 have s2:=V4 hx hdx ne k2;have hxH:H x=none:=s1.free hx;have kbS:∀{H':Hp},KB x H2 H'->Aw H H':=fun{H'} kb y o e=>kb y o (Bj e hxH) ((s1.trans s2) _ _ e);symm;refine⟨x,p,[],rfl,by show Rd _ _ _ (p.tok++[]);rw[ya];exact R2,ok,trivial,⋯,∅,fun v H3 k3 R3 P3=>?_⟩;symm;obtain⟨d3,fs,hx3,_,l3⟩:=R3.ob;exists⟨x,d3,_,rfl,hx3,l3,?_⟩;exists⟨x,_,rfl,R3,?_⟩;refine GK (by rw[nJ];rfl) ?_;symm;have s3:=kbS k3;exact⟨v,a,p,g,rfl,P3,ok,kn,⋯,D0,Di.same s3,lz,fun t H' s T=>q t H' (s3.trans s) T⟩
theorem Z6:C0 1 "primes_of" ["number"] mj:=by
 refine co' ["number","primes","left","factor"] Y6 fun nd H vs Q E hr h=>?_;obtain⟨n,rfl,n0,n1,q⟩:=h;refine⟨_,(Ac (Ai 1 (Eb Ab)) (Ac (Ai 2 (pv 0)) (Ac (Ai 3 Ae) (Ac (Fo PassesOwn.never (Aj Jo (Ag Cd (pv 3) (pv 3)) (pv 2) (Al _)) (Ac (Dm (Ay (Aj Bh (Ag Bv (pv 2) (pv 3)) Ae (Al _)) (Ad (BV (FP ve jd9 je0 Hj (pv 1) (Aa (pv 3) Ab)))) Ao)) (Ac (Fo PassesOwn.never (Aj Bh (Ag Bv (pv 2) (pv 3)) Ae (Al _)) (Ad (Ai 2 (Ag Bp (pv 2) (pv 3))))) (Ad (Ai 3 (Ag Bl (pv 3) Ae)))))) (Ac (Dm (Ay (Aj Ew (pv 2) Ae (Al _)) (Ad (BV (FP ve jd9 je0 Hj (pv 1) (Aa (pv 2) Ab)))) Ao)) (Ad (Ak (pv 1)))))))),?_⟩
 symm;refine⟨(by show 0<=sizeLine;decide),fun lp hlp=>?_⟩;exists fresh hlp fun H1 s1 t1=>?_;refine⟨fun m Z' H'=>∃(ps:List Nat) (l f:Nat),Aw H H'/\H' lp=some (.lst (ps.map fun(p:Nat)=>V.int (p:Int)))/\PI0 n ps l f/\ps.length<=f/\f<=n+2/\Z'=[some (.int (n:Int)),some (.ref lp),some (.int (l:Int)),some (.int (f:Int))]/\m=n+3-f,
  ⟨_,[],n,2,s1,t1,PI0.start n0,by simp,⋯,rfl,rfl⟩,?_⟩
 rintro m Z' H' ⟨ps,l,f,s2,t2,I,lf,fn,rfl,rfl⟩;have f2:=I.f2;have l0:=I.l0;have ln:=I.ln;have efl:((f:Int)*(f:Int)<=(l:Int))<->f*f<=l:=by rw[<-jl5];lia
 symm;refine Dj ⟨64,64,by unfold Bt;lia,by unfold Bt;lia,nofun⟩ ?_;symm;refine Bs (fun cc=>?_) (fun cc=>?_)
 ·have ffl:=efl.mp cc;have fl:f<=l:=by
   have:=Nat.le_mul_of_pos_left f (show 0<f by lia);lia
  exists⟨_,fun Z' H' hh=>hh,?_⟩;refine De (fun Z' H'=>∃ps':List Nat,An6 (Aw H H') (H' lp=some (.lst (ps'.map fun(p:Nat)=>V.int (p:Int)))) (PI0 n ps' l f) (ps'.length<=f+1) (f∣l->f∈ps') (Z'=[some (.int (n:Int)),some (.ref lp),some (.int (l:Int)),some (.int (f:Int))])) ?_ ?_
  ·symm;refine Bs (fun c2=>?_) (fun c2=>?_)
   ·have hd:=gZ.mp c2;symm;exists Iw rfl t2 ?_;refine Sq t2 (by rw[jp,sizeLine_eq];lia) ?_;refine⟨ps++[f],Eo hlp s2,?_,I.app hd,by simp;lia,fun _=>by simp,rfl⟩;rw[Am,uu];rfl
   ·symm;exact⟨ps,s2,t2,I,⋯,fun hd=>absurd (gZ.mpr hd) c2,rfl⟩
  rintro Z' H2 ⟨ps',s3,t3,I',lf',hin,rfl⟩;symm;refine⟨fun m Z' H'=>H'=H2/\∃l':Nat,PI0 n ps' l' f/\(f∣l'->f∈ps')/\Z'=[some (.int (n:Int)),some (.ref lp),some (.int (l':Int)),some (.int (f:Int))]/\l'=m,⟨_,rfl,l,I',hin,rfl,rfl⟩,?_⟩;rintro m Z' H' ⟨rfl,l',J,hin',rfl,rfl⟩;symm;refine Bs (fun c2=>?_) (fun c2=>?_)
  ·have hd:=gZ.mp c2;obtain⟨J',lt⟩:=J.div hd (hin' hd);exists⟨_,fun Z' H' hh=>hh,?_⟩;exists Dj (En ⋯ ⋯) ?_;rw[<-jk1];exact⟨_,lt,rfl,_,J',fun z=>hin' hd,rfl,rfl⟩
  ·have hd:¬f∣l':=fun z=>c2 (gZ.mpr z);symm;refine⟨n+3-(f+1),⋯,ps',l',f+1,s3,t3,J.next hd,lf',⋯,rfl,rfl⟩
 ·have ffl:¬f*f<=l:=fun z=>cc (efl.mpr z);symm;refine De (fun Z' H'=>∃ps':List Nat,An5 (Aw H H') (H' lp=some (.lst (ps'.map fun(p:Nat)=>V.int (p:Int)))) (rH n ps') (ps'.length<=200000) (Z'=[some (.int (n:Int)),some (.ref lp),some (.int (l:Int)),some (.int (f:Int))])) ?_ ?_
  ·symm;refine Bs (fun c2=>?_) (fun c2=>?_)
   ·symm;exists Iw rfl t2 ?_;refine Sq t2 (by rw[jp,sizeLine_eq];lia) ?_;refine⟨ps++[l],Eo hlp s2,?_,I.fin ffl ⋯,by simp;lia,rfl⟩;rw[Am,uu];rfl
   ·symm;exact⟨ps,s2,t2,I.one ⋯,⋯,rfl⟩
  rintro Z' H2 ⟨ps',s3,t3,I',lf',rfl⟩;symm;exact q lp H2 ps' hlp s3 t3 I' lf'
theorem Vk:C0 2 "comes_again" ["turn","size"] (uF K):=by
 refine co' ["turn","size"] VP fun nd H vs Q E hr h=>?_;obtain⟨a,z,c,s,rfl,hS,s0,sz,z1,q⟩:=h;exists⟨_,(Ad (Ak (HY Bh (Ag J8 (pxT 0) (pv 1)) (Ag Gn (pxT 0) (Af EY (Aa (Ag Cy (pxT 0) (pv 1)) Ab))) (Al _)))),?_⟩;exists An hS at1 ?_;exists Dj (show (0:Int)<=(s:Int) by lia) ?_;exists An hS at1 ?_;exists An hS at0 ?_;exists⟨_,rfl,⋯,⋯,?_⟩;rw[zh,GZ,Cu,vy,show((z:Int)-(s:Int)).toNat=z-s by lia];exact q
theorem Nk:C0 3 "least" ["turn"] (mz K):=by
 refine co' ["turn","size","bits","prime"] uL fun nd H vs Q E hr h=>?_;obtain⟨a,n,b,rfl,hS,n0,n1,hb,q⟩:=h;refine⟨_,(Ac (Ai 1 (pxT 0)) (Ac (Ai 2 (pxT 0)) (Ac (Ge PassesOwn.never rfl (Fx (Af Z6 (Aa (pxT 0) Ab))) (DX (i:=3) nd rfl (by walk_at"o")) (Ad (Fo PassesOwn.never (PW.pt (J7 (Aj Bh (Ag Bv (pv 1) (pv 3)) Ae (Al _)) (Hz (Fg (Af Vk (Aa (BK (Aa (pv 1) (Aa (pv 2) Ab))) (Aa (Ag Bp (pv 1) (pv 3)) Ab))))))) (Ac (Ai 1 (Ag Bp (pv 1) (pv 3))) (Ad (Ai 2 (Ag Gn (pv 2) (Af EY (Aa (pv 1) Ab))))))))) (Ad (Ak (BK (Aa (pv 1) (Aa (pv 2) Ab)))))))),?_⟩
 symm;exists An hS at0 ?_;exists An hS at1 ?_;walk_at"f";symm;exists An hS at0 ?_;refine⟨n,rfl,n0,n1,fun lp H1 ps hlp s1 t1 PR hl=>?_⟩;refine⟨lp,rfl,⟨_,SqL.of t1⟩,JC (xs:=ps.map fun(p:Nat)=>V.int (p:Int)) (fun i Z' H'=>Aw H1 H'/\Ex3 fun(z c:Nat) (v:Option V)=>An6 (0<z) (z∣n) (c<2^z) (Ek z c n b) (∀p∈ps.take i,Tight z c p) (Z'=[some (.ref a),some (.int (z:Int)),some (.int (c:Int)),v]))
  ⟨Aw.refl _,n,b,_,n0,jv6 n,hb,Ek.start hb,(by simp),rfl⟩ ?_ ?_ ?_⟩
 ·rintro i Z' H' _ ⟨s2,_⟩;exact SqL.of (s2 _ _ t1)
 ·rintro i x Z' H' hx ⟨s2,z,c,v,z0,zn,hc,st,ti,rfl⟩;rw[qq] at hx;obtain⟨p,hp,rfl⟩:=ui.mp hx;obtain⟨p2,pn⟩:=PR.mem p (xb hp);symm;refine⟨fun m Z' H'=>Aw H1 H'/\∃z c:Nat,0<z/\z∣n/\c<2^z/\Ek z c n b/\(∀p∈ps.take i,Tight z c p)/\Z'=[some (.ref a),some (.int (z:Int)),some (.int (c:Int)),some (.int (p:Int))]/\z=m,⟨_,s2,z,c,z0,zn,hc,st,ti,rfl,rfl⟩,?_⟩;rintro m Z' H' ⟨s3,z,c,z0,zn,hc,st,ti,rfl,rfl⟩;have zl:=kx n0 zn;have leave:∀H4,Aw H1 H4->Tight z c p->Aw H1 H4/\∃(z' c':Nat) (v:Option V),0<z'/\z'∣n/\c'<2^z'/\Ek z' c' n b/\(∀p∈ps.take (i+1),Tight z' c' p)/\[some (V.ref a),some (.int (z:Int)),some (.int (c:Int)),some (.int (p:Int))]=[some (.ref a),some (.int (z':Int)),some (.int (c':Int)),v]:=
   fun H4 s4 t=>⟨s4,z,c,_,z0,zn,hc,st,fun r hr=>(take_snoc hp hr).elim (ti r) (fun e=>e ▸ t),rfl⟩
  symm;refine Bs (fun c2=>?_) (fun c2=>?_)
  ·have hd:=gZ.mp c2;have zp:=Nat.div_pos (kx z0 hd) (show 0<p by lia);have zpl:z/p<z:=Nat.div_lt_self z0 ⋯;have zpd:z/p∣z:=Nat.div_dvd_of_dvd hd;symm;refine⟨Ij,fun pt hpt=>?_⟩;have s4:=s3.trans (Av hpt (.tup [V.int (z:Int),V.int (c:Int)]));have t4:upd H' pt (.tup [V.int (z:Int),V.int (c:Int)]) pt=some (.tup [V.int (z:Int),V.int (c:Int)]):=Am;generalize upd H' pt (.tup [V.int (z:Int),V.int (c:Int)])=H4 at s4 t4 ⊢;symm;exists Dj (En ⋯ ⋯) ?_;rw[<-jk1];exists⟨pt,z,c,z/p,rfl,SqT.of t4,zp,⋯,⋯,?_⟩;have ai:=kY hc zp zpd z0;refine Bs (fun c3=>?_) (fun c3=>?_)
   ·have pr:=ai.mp c3;have st':=pr.strt hc z0;exists⟨_,fun Z' H' hh=>hh,?_⟩;exists Dj (En ⋯ ⋯) ?_;rw[<-jk1];exists⟨_,rfl,⋯,⋯,?_⟩;rw[Cu,zh];exact⟨z/p,zpl,s4,z/p,_,zp,jl9 zpd zn,FW _ _,st'.comp st zpd z0,fun r hr=>(ti r hr).keep st' zpd zp z0 (by have:=(PR.mem r (List.mem_of_mem_take hr)).1;lia),rfl,rfl⟩
   ·obtain⟨l1,l2,l3,l4,l5,l6,l7,l8,l9,l10⟩:=leave H4 s4 fun z=>c3 (ai.mpr z.2);exact⟨l1,l2,l3,l4,l5,l6,l7,l8,l9,l10⟩
  ·symm;refine Eg ?_;obtain⟨l1,l2,l3,l4,l5,l6,l7,l8,l9,l10⟩:=leave H' s3 fun z=>c2 (gZ.mpr z.1);exact⟨l1,l2,l3,l4,l5,l6,l7,l8,l9,l10⟩
 ·rintro Z' H' ⟨s2,z,c,v,z0,zn,hc,st,ti,rfl⟩;rw[jp,jb7] at ti;symm;refine⟨Ij,fun p hp=>?_⟩;exact q p _ z c ((s1.trans s2).trans (Av hp _)) Am (Lst.of PR n0 z0 zn hc st ti)
theorem c7:C0 3 "next_day" ["turn","day"] (yt K):=by
 refine co' ["turn","day","bits"] bC fun nd H vs Q E hr h=>?_;obtain⟨a,n,d,b,rfl,hS,h0,h1,hb,_,qN,q⟩:=h;refine⟨_,(Ac (Ai 2 (CQ Hn (Af Ih (Aa (pv 0) (Aa (HQ Ff (pv 1)) Ab))) Ae (fun _ _=>rfl)))
  (Ac (Ay (Aj Bh (pv 2) Ae (Al _))
   (Ad (Ak Fj))
   Ao)
  (Ad (Ak (Ag Cy (Ag Bl (pv 1) (Xg jh9 jf0 jf1 RL (Ag Gn (pv 2) (HQ Ff (pv 2))))) Ae))))),?_⟩
 symm;refine⟨a,n,-d,b,rfl,hS,h0,h1,hb,fun p hp=>?_⟩;have s1:=Av hp (.tup [.int n,.int ((lat n.toNat b ((-d)%n).toNat:Nat):Int)]);generalize hc:lat n.toNat b ((-d)%n).toNat=c at*
 have bit:∀i:Nat,i<n.toNat->c.testBit i=On n b ((i:Int)+d):=fun i hi=>by
  have:=pY (num:= -d) (d:=(i:Int)) h0 hb;rw[hc] at this;rw[show (i:Int)+d=(i:Int)- -d by lia,<-this];unfold On;rw[ja8 ⋯ ⋯,zh]
 have cl:c<2^n.toNat:=by rw[<-hc];exact KY _ _ _
 symm;exists An (SqT.of Am) at1 ?_;by_cases c0:c=0
 ·refine Hc (by rw[c0];rfl) ?_;symm;refine qN (fun e=>?_) _ s1;have e1:=ze (e-d) (show n≠0 by lia);have e2:=qo (e-d) h0;have:=bit ((e-d)%n).toNat ⋯;rw[c0,jc7,ku e1] at this;rw[this];unfold On
  congr 2
  rw[Int.emod_add_emod]
  congr 1
  lia
 refine CK (fun z=>c0 (by injection z with z;lia)) ?_;symm;obtain⟨k,hk,hlow⟩:=AAS c0;have kn:k<n.toNat:=by
  refine je1 fun z=>?_;rw[high cl z] at hk;cases hk
 have la:=fL k c hk hlow;have eb:Builtin.bitAnd (c:Int) (-(c:Int))=((2^k:Nat):Int):=by
  rw[dF c0];lia
 rw[eb,IV (by have:=ka k;lia),pR];symm;refine q _ _ s1 ⋯ ?_ (fun e he1 he2=>?_)
 ·have:=bit k kn;rw[hk] at this;rw[this]
  congr 1
  lia
 ·have:=bit (e-d).toNat ⋯;rw[hlow (e-d).toNat ⋯,ku ⋯] at this;rw[this]
  congr 1
  lia
theorem dB:C0 3 "last_day" ["turn","day"] (zA K):=by
 refine co' ["turn","day","bits"] bI fun nd H vs Q E hr h=>?_;obtain⟨a,n,d,b,rfl,hS,h0,h1,hb,_,qN,q⟩:=h;refine⟨_,(Ac (Ai 2 (CQ Hn (Af Ih (Aa (pv 0) (Aa (Ag Cy (HQ Ff (pv 1)) Ae) Ab))) Ae (fun _ _=>rfl)))
  (Ac (Ay (Aj Bh (pv 2) Ae (Al _))
   (Ad (Ak Fj))
   Ao)
  (Ad (Ak (Ag Cy (Ag Bl (pv 1) (Xg jh9 jf0 jf1 RL (pv 2))) (pxT 0)))))),?_⟩
 symm;refine⟨a,n,-d-1,b,rfl,hS,h0,h1,hb,fun p hp=>?_⟩;have s1:=Av hp (.tup [.int n,.int ((lat n.toNat b ((-d-1)%n).toNat:Nat):Int)]);have hS1:=s1.tup hS;generalize hc:lat n.toNat b ((-d-1)%n).toNat=c at*
 have bit:∀i:Nat,i<n.toNat->c.testBit i=On n b ((i:Int)+d+1):=fun i hi=>by
  have:=pY (num:= -d-1) (d:=(i:Int)) h0 hb;rw[hc] at this;rw[show (i:Int)+d+1=(i:Int)-(-d-1) by lia,<-this];unfold On;rw[ja8 ⋯ ⋯,zh]
 have cl:c<2^n.toNat:=by rw[<-hc];exact KY _ _ _
 have per:∀e,On n b (e+n)=On n b e:=fun e=>by
  unfold On;rw[jl2]
 symm;exists An (SqT.of Am) at1 ?_;by_cases c0:c=0
 ·refine Hc (by rw[c0];rfl) ?_;symm;refine qN (fun e=>?_) _ s1;have e1:=ze (e-d-1) (show n≠0 by lia);have e2:=qo (e-d-1) h0;have:=bit ((e-d-1)%n).toNat ⋯;rw[c0,jc7,ku e1] at this;rw[this];unfold On
  congr 2
  rw[Int.add_assoc,Int.emod_add_emod]
  congr 1
  lia
 refine CK (fun z=>c0 (by injection z with z;lia)) ?_;symm;obtain⟨hk,hhigh⟩:=qL c0;have kn:c.log2<n.toNat:=by
  refine je1 fun z=>?_;rw[high cl z] at hk;cases hk
 rw[IV c0];symm;exists An hS1 at0 ?_;refine q _ _ s1 ⋯ ?_ (fun e he1 he2=>?_)
 ·have:=bit c.log2 kn;rw[hk] at this;rw[this,<-per]
  congr 1
  lia
 ·have:=bit (e-d-1+n).toNat ⋯;rw[hhigh (e-d-1+n).toNat ⋯,ku ⋯] at this;rw[this,<-per]
  congr 1
  lia
theorem Ub:C0 4 "place_of_one" ["bits","number"] tM:=by
 refine co' ["bits","number","left","sought","place","width","half","below","ones"] Rt fun nd H vs Q E hr h=>?_;obtain⟨b,k,n,rfl,hb,hn,hk,q⟩:=h;have b0:b≠0:=gH (k:=n) ⋯;have l1:b<2^(b.log2+1):=ju2;have l2:b.log2+1<=n:=by
  have:=ju1 b0;refine je1 fun z=>?_;have:=vi (show 0<2 by decide) z;lia
 have hk':k<cnt b (b.log2+1):=by
  obtain⟨t,rfl⟩:∃t,n=b.log2+1+t:=⟨n-(b.log2+1),⋯⟩;rw[RQ,jk3 l1,Tu] at hk;exact hk
 refine⟨_,(Ac (Ai 2 (pv 0)) (Ac (Ai 3 (pv 1)) (Ac (Ai 4 Ae) (Ac (Ai 5 (Xg jh9 jf0 jf1 RL (pv 0))) (Ac (Fo PassesOwn.never (Aj Ew (pv 5) Ae (Al _)) (Ac (Ai 6 (Ag Bp (pv 5) Ae)) (Ac (Ai 7 (Ag Gn (pv 2) (Af EY (Aa (pv 6) Ab)))) (Ac (Ai 8 (Af Ld (Aa (pv 7) Ab))) (Ad (Dm (Ay (Aj Fp (pv 3) (pv 8) (Al _)) (Ac (Ai 2 (pv 7)) (Ad (Ai 5 (pv 6)))) (Ac (Ai 2 (Ag J8 (pv 2) (pv 6))) (Ac (Ai 3 (Ag Cy (pv 3) (pv 8))) (Ac (Ai 4 (Ag Bl (pv 4) (pv 6))) (Ad (Ai 5 (Ag Cy (pv 5) (pv 6)))))))))))))) (Ad (Ak (pv 4)))))))),?_⟩
 symm;rw[IV b0];symm;refine⟨fun m Z' H'=>Aw H H'/\∃l s p w:Nat,∃x y z:Option V,Z'=[some (.int (b:Int)),some (.int (k:Int)),some (.int (l:Int)),some (.int (s:Int)),some (.int (p:Int)),some (.int (w:Int)),x,y,z]/\l<2^w/\w<=150000/\s<cnt l w/\Pl b k l s p/\m=w,
  ⟨_,Aw.refl _,b,k,0,b.log2+1,none,none,none,rfl,l1,⋯,hk',fun j h1 h2=>⟨by rwa [jf9],by rwa [jf9]⟩,rfl⟩,?_⟩
 rintro m Z' H1 ⟨s1,l,s,p,w,x,y,z,rfl,hl,w1,hs,P,rfl⟩;symm;refine Bs (fun cc=>?_) (fun cc=>?_)
 ·have w2:1<m:=⋯
  exists⟨_,fun Z' H' hh=>hh,?_⟩;have eh:(m:Int)/2=((m/2:Nat):Int):=⋯;rw[eh];generalize hh:m/2=h;symm;exists⟨(h:Int),rfl,⋯,⋯,?_⟩;rw[zh,Cu];exists⟨_,h,rfl,FW _ _,⋯,fun H2 s2=>?_⟩;rw[Kg (c:=l) fun i hi=>DQ _ _ _ hi];refine De (fun Z' H'=>∃i,An3 (i<m) (Aw H H') (Ex4 fun(l s p w:Nat)=>Ex3 fun(x y z:Option V)=>An6 (Z'=[some (.int (b:Int)),some (.int (k:Int)),some (.int (l:Int)),some (.int (s:Int)),some (.int (p:Int)),some (.int (w:Int)),x,y,z]) (l<2^w) (w<=150000) (s<cnt l w) (Pl b k l s p) (i=w))) ?_ ?_
  ·symm;refine Bs (fun c=>?_) (fun c=>?_)
   ·symm;refine⟨h,⋯,s1.trans s2,_,s,p,h,_,_,_,rfl,FW _ _,⋯,?_,P.low,rfl⟩;rw[Kg (c:=l) fun i hi=>DQ _ _ _ hi];lia
   ·symm;exists Dj (show (0:Int)<=(h:Int) by lia) ?_;rw[zh,GZ,yi];have ca:=RQ l h (m-h);rw[show h+(m-h)=m by lia] at ca;refine⟨m-h,⋯,s1.trans s2,l/2^h,s-cnt l h,p+h,m-h,some (.int (h:Int)),some (.int ((l &&& (2^h-1):Nat):Int)),some (.int (cnt l h:Int)),?_,?_,⋯,⋯,P.up ⋯,rfl⟩
    ·rw[show ((s-cnt l h:Nat):Int)=(s:Int)-(cnt l h:Int) by lia,show((m-h:Nat):Int)=(m:Int)-(h:Int) by lia,jl4]
    ·rw[Nat.div_lt_iff_lt_mul (ka h),<-jq0,show m-h+h=m by lia];exact hl
  ·rintro Z' H3 hh;obtain⟨i,hi,a,l,s,p,w,x,y,z,b1,b2,b3,b4,b5,b6⟩:=hh;symm;exact⟨i,hi,a,l,s,p,w,x,y,z,b1,b2,b3,b4,b5,b6⟩
 ·have w2:m=1:=by
   rcases(by lia:m=0\/m=1) with z | z
   ·subst z;have:cnt l 0=0:=rfl;lia
   ·exact z
  subst w2;have le:l=1:=by
   have:=gH (b:=l) (k:=1) ⋯;lia
  subst le;have c1:cnt 1 1=1:=nofun;obtain⟨r1,r2⟩:=P 0 nofun (show 0=s by lia);symm;exact q p _ s1 r1 r2
theorem kE:C0 5 "nth_day" ["turn","day","number"] (yo K):=by
 refine co' ["turn","day","number","ones","index"] iU fun nd H vs Q E hr h=>?_;obtain⟨a,n,d,k,b,rfl,hS,h0,h1,hb,bd,bk,k0,qN,q⟩:=h;refine⟨_,(Ac (Ay (Aj Bh (pv 2) Ae (Al _)) (Ad Bd) Ao) (Ac (Ay (Aj Bh (pxT 0) Ae (Al _)) (Ad (Ak Fj)) Ao) (Ac (Dm (Ay (Aj Ew (pv 2) Ae (Al _)) (Ad (Ai 4 (Ag Cy (Ag Bl (Af Hh (Aa (pv 0) (Aa (pv 1) Ab))) (pv 2)) Ae))) (Ad (Ai 4 (Ag Bl (Af Hh (Aa (pv 0) (Aa (Ag Bl (pv 1) Ae) Ab))) (pv 2)))))) (Ac (Ai 3 (Af Ld (Aa (pxT 0) Ab))) (Ad (Ak (Ag Bl (Ag Cd (Ag Bp (pv 4) (pv 3)) (pxT 0)) (Af Ub (Aa (pxT 0) (Aa (Ag Bv (pv 4) (pv 3)) Ab)))))))))),?_⟩
 symm;exists CK (fun z=>k0 (V.int.inj z)) ?_;exists An hS at1 ?_;by_cases b0:b=0
 ·refine Hc (by rw[b0];rfl) ?_;symm;exact qN b0 _ (Aw.refl _)
 refine CK (fun z=>b0 (by injection z with z;lia)) ?_;symm;have m0:0<cnt b n.toNat:=qu hb b0;have m1:=Tw b n.toNat;have bn:Bt 18 n:=by
  have:=wJ (k:=n.toNat) ⋯
  rwa [ku ⋯] at this
 have fin:∀(x:Int) (H1:Hp) (r p:Nat),x%(cnt b n.toNat:Int)=(p:Int)->b.testBit r=true->cnt b r=p->r<n.toNat/\CC n b (x/(cnt b n.toNat:Int)*n+(r:Int))=x/\On n b (x/(cnt b n.toNat:Int)*n+(r:Int))=true:=fun x H1 r p e1 e2 e3=>by
  have rn:r<n.toNat:=je1 fun z=>by
   rw[high hb z] at e2;cases e2
  refine⟨rn,?_,?_⟩
  ·rw[ADM h0 rn,e3,<-e1,ji4];exact ji5 x _
  ·rw[ACy h0 rn];exact e2
 refine De (fun Z' H'=>Aw H H'/\∃x:Int,An4 (Z'=[some (.ref a),some (.int d),some (.int k),none,some (.int x)]) (Bt 221 x) (0<k->x=CC n b d+k-1) (k<0->x=CC n b (d+1)+k)) ?_ ?_
 ·symm;refine Bs (fun c=>?_) (fun c=>?_)
  ·symm;exists⟨a,n,d,b,rfl,hS,h0,h1,hb,bd.mono nofun,fun H1 s1=>?_⟩;exact⟨s1,_,rfl,(by rw[Int.sub_eq_add_neg];exact(((yD h0 h1 bd).add (bk.mono nofun)).add (show Bt _ (-1) by unfold Bt;decide)).mono nofun),fun _=>rfl,fun z=>⋯⟩
  ·symm;have bd1:Bt 201 (d+1):=bd.add (by unfold Bt;decide);exists⟨a,n,d+1,b,rfl,hS,h0,h1,hb,bd1.mono nofun,fun H1 s1=>?_⟩;exact⟨s1,_,rfl,((yD h0 h1 bd1).add (bk.mono nofun)).mono nofun,fun z=>⋯,fun _=>rfl⟩
 rintro Z' H1 ⟨s1,x,rfl,bx,x1,x2⟩;have hS1:=s1.tup hS;symm;exists An hS1 at1 ?_;refine⟨b,n.toNat,rfl,hb,⋯,fun H2 s2=>?_⟩;have hS2:=s2.tup hS1;symm;have mm:(0:Int)<(cnt b n.toNat:Int):=⋯;exists Dj (En mm ⋯) ?_;refine An hS2 at0 ?_;exists Dj ⟨221,18,Us bx mm,bn,nofun⟩ ?_;exists An hS2 at1 ?_;have y0:=ze x (show (cnt b n.toNat:Int)≠0 by lia);have y1:=qo x mm;obtain⟨p,hp⟩:∃p:Nat,x%(cnt b n.toNat:Int)=(p:Int):=⟨(x%(cnt b n.toNat:Int)).toNat,⋯⟩;rw[hp];refine⟨b,p,n.toNat,rfl,hb,⋯,⋯,fun r H3 s3 r1 r2=>?_⟩;obtain⟨rn,f1,f2⟩:=fin x H3 r p hp r1 r2;symm;refine q b0 _ _ ((s1.trans s2).trans s3) ?_ ⟨f2,fun kp=>?_,fun kn=>?_⟩
 ·exact((Us bx mm).mul bn).add ((wJ (show r<=150000 by lia)).mono nofun)
 ·generalize x/(cnt b n.toNat:Int)*n+(r:Int)=r' at f1 f2 ⊢;have:=x1 kp;refine⟨?_,⋯⟩;refine jx0.mp fun z=>?_;have e:=Ii (b:=b) h0 r';rw[f1,f2,xz rfl] at e;have:=RT (b:=b) h0 (show r'+1<=d by lia);lia
 ·generalize x/(cnt b n.toNat:Int)*n+(r:Int)=r' at f1 f2 ⊢;have:=x2 kn;refine⟨?_,⋯⟩;refine jx0.mp fun z=>?_;have:=RT (b:=b) h0 (show d+1<=r' by lia);lia
theorem AAw:C0 4 "same" ["one","other","day"] ye:=by
 refine co' ["one","other","day","turn"] s_same fun nd H vs Q E hr h=>?_;obtain⟨a1,a2,n,b,m,c,z,x,d,rfl,R1,R2,M1,M2,q⟩:=h;refine⟨_,(Ac (Ai 3 (Af Nk (Aa (pv 0) Ab))) (Ac (Ay (Aj (Xk hr.units0) (pv 3) (Af Nk (Aa (pv 1) Ab)) (Al _)) (Ad (Ak (BK (Aa Ah (Aa (pv 3) Ab))))) Ao) (Ad (Ak (BK (Aa Ah (Aa oZ Ab))))))),?_⟩
 have n0:=R1.1;have n1:=R1.2.1;have m0:=R2.1;have m1:=R2.2.1;symm;refine⟨a1,n,b,rfl,R1.sq,n0,⋯,R1.2.2.1,fun t1 H1 z1 x1 s1 h1 L1=>?_⟩;obtain⟨rfl,rfl⟩:=L1.same M1 fun y=>by rw[<-L1.on n0,<-M1.on n0]
 symm;refine⟨a2,m,c,rfl,(R2.keep s1).sq,m0,⋯,R2.2.2.1,fun t2 H2 z' x' s2 h2 L2=>?_⟩;obtain⟨rfl,rfl⟩:=L2.same M2 fun y=>by rw[<-L2.on m0,<-M2.on m0]
 symm;refine⟨t1,t2,_,_,rfl,rfl,SqT.of (s2 _ _ h1),SqT.of h2,rfl,rfl,?_⟩;rw[eq2 rfl];symm;exists Ej ?_;refine⟨Ij,fun p hp=>?_⟩;exact q p t1 _ ((s1.trans s2).trans (Av hp _)) Am (Av hp _ _ _ (s2 _ _ h1))
theorem Vi:C0 5 "told_by_one" ["turn"] (mO K BJ CL):=by
 refine co' ["turn","days"] VB fun nd H vs Q E hr h=>?_;obtain⟨p,z,c,g,rfl,hp,z0,z1,lt,cz,q1,q2⟩:=h;unfold tb at q1 q2;refine⟨_,(Ac (Ay (Aj (Xk hr.units0) (pv 0) (BK (Aa Ae (Aa Ae Ab))) (Al _)) (Ad (Ak (Sv Kr (hr.mono nofun) rfl))) Ao) (Ac (Ay (Aj (Xk hr.units0) (pv 0) (BK (Aa Ae (Aa Ae Ab))) (Al _)) (Ad (Ak (Sv Lw (hr.mono nofun) rfl))) Ao) (Ac (Ai 1 (Af PL (Aa (pv 0) Ab))) (Ac (Ay (Aj Ew (BL BR rfl DN xh (Aa (pv 1) Ab)) Ae (Al _)) (Ad (Ak Fj)) Ao) (Ad (Ak (Gf Js (Aa (pxT 0) (Aa (pxL 1) Ab))))))))),?_⟩
 symm;refine⟨Ij,fun p1 hp1=>?_⟩;exists fresh hp1 fun H1 s1 t1=>?_;refine bR (SqT.of (s1 _ _ hp)) (SqT.of t1) rfl rfl ?_;rw[AAn];refine Vz (Bs (fun e=>?_) (fun e1=>?_))
 ·rw[xz ⋯] at q1;symm;exact fun y dy hy hdy ne=>⟨y,g,rfl,.go hy hdy ne fun H' s N=>⟨rfl,q1 _ rfl y H' (s1.trans s) N⟩⟩
 rw[yb ⋯] at q1 q2;symm;refine⟨Ij,fun p2 hp2=>?_⟩;refine fresh hp2 fun H2 s2 t2=>?_;have s2:=s1.trans s2;symm;refine bR (SqT.of (s2 _ _ hp)) (SqT.of t2) rfl rfl ?_;rw[AAn];refine Vz (Bs (fun e=>?_) (fun e2=>?_))
 ·rw[xz ⋯] at q1;symm;exact fun y dy hy hdy ne=>⟨y,g,rfl,.go hy hdy ne fun H' s N=>⟨rfl,q1 _ rfl y H' (s2.trans s) N⟩⟩
 have c0:c≠0:=fun e=>by
  have:=cz e;lia
 rw[yb (fun e=>c0 e.2)] at q1 q2;symm;refine⟨p,z,c,rfl,SqT.of (s2 _ _ hp),⋯,⋯,lt,fun l H3 hl s3 t3=>?_⟩;have s3:=s2.trans s3;rw[zh] at t3;symm;refine⟨l,_,rfl,.inl (SqL.of t3),?_⟩;rw[jp,show(dli c z).length=(dl c z).length from jp ..];symm;refine Bs (fun e=>?_) (fun e=>?_)
 ·symm;refine q2 ?_ _ s3
  match h:dl c z with
  | []=>rfl
  | [d]=>rw[h] at e;simp at e
  | a::b::r=>rfl
 ·obtain⟨d,hd⟩:∃d,dl c z=[d]:=by
   match h:dl c z with
   | []=>exact absurd (AAq lt h) c0
   | [d]=>exact⟨d,rfl⟩
   | a::b::r=>rw[h] at e;simp at e;lia
  have dz:d<z:=(mem_dl.mp (by rw[hd];simp)).1;rw[hd] at q1;have t3:H3 l=some (.lst [.int (d:Int)]):=by rw[t3,show dli c z=[(d:Int)] by unfold dli;rw[hd];rfl];rfl
  symm;exists An (SqT.of (s3 _ _ hp)) at0 ?_;exists BP (SqL.of t3) Dh ?_;refine fun y dy hy hdy ne=>⟨y,z,d,g,rfl,⋯,⋯,.go hy hdy ne fun H' s N=>⟨rfl,q1 _ rfl y H' (s3.trans s) ?_⟩⟩
  rwa [ja8 ⋯ ⋯] at N
theorem cg:C0 62 "parts_in" ["rule"] (iC K BJ CL):=by
 refine co' ["rule"] az fun nd H vs Q E hr h=>?_;obtain⟨x,p,g,rfl,T,ln,q⟩:=h;have dl:=PT.lv_br p;have pn:=PT.parts_n p;obtain⟨C,dx,_,_,_,_,hC,_,hx,_⟩:=T.node;exists⟨_,(Ad (Ak (BL BR rfl DN xh (Aa (BX QJ (pv 0)) Ab)))),?_⟩;exists⟨x,C,dx,_,_,yy.mpr ⟨C,hC,rfl⟩,rfl,hx,rfl,?_⟩;exists⟨x,p,g,rfl,T,⋯,⋯,fun l ps H' hl s tl ep _=>?_⟩;refine⟨l,_,rfl,.inl (SqL.of tl),?_⟩;rw[jp,<-jp (f:=Prod.snd),ep];exact q _ s
theorem j9:C0 66 "shorter" ["rule"] (gj K BJ CL):=by
 refine co' ["rule","turn","told"] iR fun nd H vs Q E hr h=>?_;obtain⟨x,p,g,rfl,T,ln,sz,q⟩:=h;have R:=T.rule;have n0:=R.n0;have dl:=PT.lv_br p;have pn:=PT.parts_n p;have ez:(((p.sz g).toNat:Nat):Int)=p.sz g:=⋯;refine⟨_,(Ac (Ai 1 (Af Nk (Aa (BX Bc (pv 0)) Ab)))
  (Ac (Ai 2 (Af Vi (Aa (pv 1) Ab)))
  (Ac (Ay (Aj fB (pv 2) Fj (Al _))
   (Ad (Ak (pv 2)))
   Ao)
  (Ad (Ak (ur rfl cg (hr.mono nofun) rfl lG rfl (Aa (FZ rfl (Em ["rule","turn","told"] ["rule","turn","told"] rfl rfl (by with_unfolding_all rfl) ∅ rfl ∅ rfl ∅ (by walk_at"fm") (by with_unfolding_all rfl) (by with_unfolding_all rfl)) (Fx (BX QJ (pv 0))) (fun _ _ _ _=>(My (Aj (uz hr.units0) (Af Nk (Aa (BX Bc (pv 0)) Ab)) (pv 2) (Al _)))) (fun _ _ _ _=>(pv 0))) Ab))))))),?_⟩
 symm;obtain⟨C,dr,fs,m,hr1,l1,_⟩:=R.mt;exists⟨x,C,dr,fs,_,m _,rfl,hr1,l1,?_⟩;exists⟨jb0,x,_,_,rfl,R,fun pt hp=>?_⟩;refine⟨pt,(p.sz g).toNat,p.bt g,rfl,SqT.of (by rw[ez];exact hp),⋯,⋯,R.lt,fun p2 H1 z c s1 t1 L=>?_⟩;have zl:=kx ⋯ L.dv;symm;refine⟨p2,z,c,g,rfl,t1,L.z0,⋯,L.lt,(fun e=>by subst e;exact L.nil),fun u eu y H2 s2 N=>?_,fun many H2 s2=>?_⟩
 ·symm;exists⟨rfl,?_⟩;exists Ej ?_;exact q u y H2 (s1.trans s2) ⟨z,c,L,.inl eu⟩ N
 ·have s12:=s1.trans s2;have T2:=T.same s12;symm;exists⟨rfl,?_⟩;exists Eg ?_;unfold xG;symm;exists Gd (J4 ?_);obtain⟨C,dx,_,_,_,_,hC,_,hx,_⟩:=T2.node;exists⟨x,C,dx,_,_,yy.mpr ⟨C,hC,rfl⟩,rfl,hx,rfl,?_⟩;refine⟨x,p,g,rfl,T2,⋯,⋯,fun l ps H3 hl s3 t3 ep hps=>?_⟩;have t13:=(s2.trans s3) _ _ t1;have pl:ps.length<=41:=by rw[<-jp (f:=Prod.snd),ep];exact ln
  obtain⟨f,hf⟩:∃f:Addr×PT->Bool,f=fun k=>@decide (LsP g z c k.2) (Classical.propDecidable _):=⟨_,rfl⟩;have f1:∀k,f k=true<->LsP g z c k.2:=fun k=>by rw[hf];exact @decide_eq_true_iff _ (Classical.propDecidable _)
  have ef:(ps.filter f).map Prod.snd=lsF g z c p.parts:=by
   rw[<-ep,hf];exact(jv4 (f:=Prod.snd) (p:=fun r=>@decide (LsP g z c r) (Classical.propDecidable _)) (l:=ps)).symm
  refine⟨l,rfl,⟨_,SqL.of t3⟩,Tq (xs:=ps.map fun k=>V.ref k.1) OJ (by rw[jp,sizeLine_eq];lia) (fun D i ys H4=>H4 D=some (.lst ys)/\Aw H3 H4/\ys=((ps.take i).filter f).map fun k=>V.ref k.1) (fun D hD=>⟨Am,Av hD _,rfl⟩) ?_ ?_ ?_⟩
  ·rintro D i ys H4 hD ⟨h1,h2,rfl⟩;exact⟨h1,by rw[jp];exact qr (jb9 _ _) (List.length_take_le _ _),SqL.of (h2 _ _ t3)⟩
  ·rintro D i v0 ys H4 hD hx' ⟨h1,h2,rfl⟩;rw[qq] at hx';obtain⟨s,hs,rfl⟩:=ui.mp hx';have sm:=xb hs;have S4:=(hps s sm).same h2;have S4r:=S4.rule;have k0:=S4r.n0;have k1:=S4r.n1;have es:(((s.2.sz g).toNat:Nat):Int)=s.2.sz g:=⋯
   have et:ps.take (i+1)=ps.take i++[s]:=by rw[ja0,hs];rfl
   symm;obtain⟨C5,dr5,fs5,m5,hr5,l5,_⟩:=S4r.mt;exists⟨s.1,C5,dr5,fs5,_,m5 _,rfl,hr5,l5,?_⟩;exists⟨jb0,s.1,_,_,rfl,S4r,fun p5 hp5=>?_⟩;refine⟨p5,(s.2.sz g).toNat,s.2.bt g,rfl,SqT.of (by rw[es];exact hp5),⋯,⋯,S4r.lt,fun p6 H5 z5 c5 s5 t5 L5=>?_⟩;symm;refine bR (SqT.of t5) (SqT.of (s5 _ _ (h2 _ _ t13))) rfl rfl ?_;rw[AAn];refine⟨_,rfl,?_⟩;refine Bs (fun e=>?_) (fun e=>?_)
   ·obtain⟨e1,e2⟩:z5=z/\c5=c:=⋯
    rw[e1,e2] at L5;refine⟨s5 _ _ h1,Am,Eo hD (h2.trans s5),?_⟩;rw[et,jd7,uu,jt3 ((f1 s).mpr L5)];rfl
   ·refine⟨s5 _ _ h1,h2.trans s5,?_⟩;rw[et,jd7,jt2 fun y=>?_]
    ·simp
    obtain⟨e1,e2⟩:=Lst.same L5 ((f1 s).mp y) fun w=>by rw[<-Lst.on L5 ⋯,<-Lst.on ((f1 s).mp y) ⋯]
    exact e ⟨by rw[e1],by rw[e2]⟩
  ·rintro D ys H4 hD ⟨h1,h2,rfl⟩;rw[jp,jb7] at h1;have hss:∀k∈ps.filter f,k∈ps/\TrH K BJ CL g H4 k.1 k.2:=fun k hk=>⟨(jc3.mp hk).1,(hps k (jc3.mp hk).1).same h2⟩;have ne:ps.filter f≠[]:=fun e=>by
    have:p∈lsF g z c p.parts:=jc3.mpr ⟨by rw[PT.parts_eq];exact .head _,(@decide_eq_true_iff _ (Classical.propDecidable _)).mpr L⟩;rw[<-ef,e] at this;cases this
   generalize ps.filter f=ss at*
   refine GD ?_;refine⟨D,_,fun i=>((((ss[i]?).map fun s=>s.2.parts.length).getD 0:Nat):Int),fun H=>Aw H4 H,rfl,?_,Aw.refl _,fun H5 s5=>SqL.of (s5 _ _ h1),fun i v H5 hv s5=>?_,fun i v H5 hv hk s5=>?_⟩
   ·exact fun e=>ne (jp4.mp e)
   ·rw[qq] at hv;obtain⟨s,hs,rfl⟩:=ui.mp hv;obtain⟨sm,S4⟩:=hss s (xb hs);exact⟨s.1,s.2,g,rfl,S4.same s5,PT.part_len (by rw[<-ep];exact List.mem_map_of_mem sm) ln,fun H6 s6=>⟨by simp only[hs];rfl,s5.trans s6⟩⟩
   ·rw[qq] at hv;obtain⟨s,hs,rfl⟩:=ui.mp hv;obtain⟨sm,S4⟩:=hss s (xb hs);refine q s.2 s.1 H5 (s12.trans (s3.trans (h2.trans s5))) ⟨z,c,L,.inr ⟨many,i,by rw[<-ef,qq,hs];rfl,fun j r hr=>?_⟩⟩ (S4.same s5);rw[<-ef,qq] at hr;obtain⟨u,hu,rfl⟩:=ui.mp hr;have:=hk j (by rw[jp];exact(xp.mp hu).1);simp only[hs,hu,jm0,Option.getD_some] at this;exact⟨⋯,fun ji=>by have:=this.2 ji;lia⟩
theorem G4:C0 2 "read_number" ["text"] mY:=by
 refine co' ["text"] VG fun nd H vs Q E hr h=>?_;obtain⟨i,rfl,hi,q⟩:=h;have N:=Il hi;have tk:=vC hi;refine⟨_,(Ac (Ay (PW.pt (Gk (Hl (Fg (BL UJ rfl JH ji1 (Aa (pv 0) (Aa (Xh rfl GJ xo (bN _)) Ab))))) (FJ (Hl (Fg (Af Kl (Aa (pv 0) Ab))))))) (Ad Bd) Ao) (Ad (Ak (Bu Lp rfl wj PyProof.Rows.boot_int (Aa (pv 0) Ab))))),?_⟩
 symm;exists bQ (.txt _ tk) ?_;exists Eg ?_;refine⟨_,rfl,tk,fun b H1 s1 hb=>?_⟩;have eb:b=true:=hb.mpr (by rw[Ba];exact N.1);subst eb;symm;exists Eg ?_;have r:=V9 (z:=sW (nW i)) (by rw[Ba];exact N.1);rw[Ba,N.2] at r;refine⟨_,_,rfl,?_,r,q _ s1⟩;have:=Dl hi;rw[Ci];exact qr this nofun
theorem Kh:C0 3 "read_numbers" ["word"] iB:=by
 refine co' ["word"] Rq fun nd H vs Q E hr h=>?_;obtain⟨ns,rfl,hn,nl,sm,q⟩:=h;have sp:=bj hn sm;have jl:=Nh sm;exists⟨_,(Ad (Ak (FZ rfl (Gu ["word"] rfl ∅ rfl ∅ rfl ∅ ∅) (Fx (FP vc jd0 jd1 KJ (pv 0) (Aa Ah Ab))) (fun _ _ _ _=>FN) (fun _ _ _ _=>(Af G4 (Aa (pv 0) Ab)))))),?_⟩;exists Gd (J4 ?_);exists Mx ?_;exists⟨rfl,?_⟩;refine⟨_,44,rfl,by rw[show Str.ofString ","=⟨#[44]⟩ from by ac_rfl],nofun,by rw[Ci];lia,fun l hl=>?_⟩;rw[sp];refine fresh hl fun H1 s1 t1=>?_;refine⟨l,rfl,⟨_,SqL.of t1⟩,?_⟩;refine Tq OJ (by rw[jp];exact Er ⋯) (fun D i ys H2=>H2 D=some (.lst ys)/\Aw H1 H2/\ys=(ns.take i).map V.int) (fun D hD=>⟨Am,Av hD _,rfl⟩)
  (fun D i ys H2 _ ⟨h1,h2,h3⟩=>⟨h1,by rw[h3,jp];exact List.length_take_le _ _,SqL.of (h2 _ _ t1)⟩) (fun D i x ys H2 hD hx ⟨h1,h2,h3⟩=>?_) (fun D ys H2 hD ⟨h1,h2,h3⟩=>?_)
 ·rw[qq] at hx;obtain⟨n,hn,rfl⟩:=ui.mp hx;exists RD (Ej ?_);refine⟨n,rfl,sm n (xb hn),fun H3 s3=>⟨s3 _ _ h1,Am,Eo hD (h2.trans s3),?_⟩⟩;rw[ja0,hn,jd8,uu,h3];rfl
 ·rw[jp,jb7] at h3;subst h3;exact q D H2 (s1.free hD) (s1.trans h2) h1
theorem Z2:C0 4 "read_term" ["word"] mW:=by
 refine co' ["word","numbers","sign"] Yy fun nd H vs Q E hr h=>?_;obtain⟨a,b,rfl,sm,q⟩:=h;have jl:=Nh sm;have tl:(tmW a b).length<=200:=by show _+1<=_;simp only[qh,ji8] at jl;lia
 have l0:1<=(sW (tmW a b)).length:=by rw[Ci];show 1<=_+1;lia
 have eP:Str.ofString "+"=sW [43]:=∅;have e1:Txt.slice (sW (tmW a b)) none (some 1)=Str.ofString "+":=by rw[eP];exact Eu (by rw[iH,Ba,Ba];rfl)
 have e2:Txt.slice (sW (tmW a b)) (some 1) none=sW (Fe 44 ([a,b,2].map nW)):=Eu (by rw[Pn l0,Ba,Ba];rfl);have fit:(sW (tmW a b)).length<=sizeLine:=by rw[Ci];exact qr tl nofun
 refine⟨_,(Ac (Ay (PW.pt (J7 (Aj FQ (Ep W3 (pv 0) Fv (Ft Ae)) Ah (Al _)) (Hz (Aj FQ (Ep W3 (pv 0) Fv (Ft Ae)) Ah (Al _))))) (Ad Bd) Ao) (Ac (Ai 1 (Af Kh (Aa (Ep W3 (pv 0) (Ft Ae) Fv) Ab))) (Ac (Ay (Aj FQ (BL BR rfl DN xh (Aa (pv 1) Ab)) Ae (Al _)) (Ad Bd) Ao) (Ac (Ai 2 (Do (Aj Bh (CQ qH (pv 0) Ae) Ah (Al _)) Ae (HQ Ff Ae))) (Ad (Ak (BK (Aa (pv 2) (Aa (pxL 1) (Aa (pxL 1) (Aa (pxL 1) Ab))))))))))),?_⟩
 symm;refine⟨_,rfl,fit,?_⟩;rw[e1];symm;refine GK rfl ?_;exists Eg ?_;refine⟨_,rfl,fit,?_⟩;rw[e2];refine GD ?_;refine⟨[a,b,2],rfl,(fun z=>nomatch z),(by show 3<=3;decide),sm,fun l H1 hl u1 t1=>?_⟩;symm;exists⟨l,_,rfl,.inl (SqL.of t1),?_⟩;exists GK rfl ?_
 try refine Ow ?_
 symm;refine⟨_,0,43,rfl,rfl,fit,(by show atI (cpl (sW (tmW a b))) 0=some 43;rw[Ba];exact DY (j:=0) rfl),?_⟩;symm;refine Hc (by rw[eP];rfl) ?_;symm;exists BP (SqL.of t1) Dh ?_;exists BP (SqL.of t1) HD ?_;exists BP (SqL.of t1) Ks ?_;refine⟨(by show 4<=sizeLine;decide),fun p hp=>?_⟩;exact q p _ (u1.trans (Av hp _)) Am
theorem YJ:C0 5 "read_terms" ["words"] gw:=by
 refine co' ["words"] W9 fun nd H vs Q E hr h=>?_;obtain⟨l,a,b,rfl,hl,sm,q⟩:=h;exists⟨_,(Ad (Ak (FZ rfl (Gu ["words"] rfl ∅ rfl ∅ rfl ∅ ∅) (Fx (pv 0)) (fun _ _ _ _=>FN) (fun _ _ _ _=>(Af Z2 (Aa (pv 0) Ab)))))),?_⟩;exists Gd (J4 ?_);refine⟨l,rfl,⟨_,SqL.of hl⟩,?_⟩;refine Tq OJ (Er (by show 1<=1000;decide)) (fun D i ys H2=>H2 D=some (.lst ys)/\Aw H H2/\ys.length<=i/\(i=1->∃p,ys=[.ref p]/\H2 p=some (.tup (tmV (1,a,b,2))))) (fun D hD=>⟨Am,Av hD _,qg _,fun z=>nomatch z⟩)
  (fun D i ys H2 _ ⟨h1,h2,h3,_⟩=>⟨h1,h3,SqL.of (h2 _ _ hl)⟩) (fun D i x ys H2 hD hx ⟨h1,h2,h3,_⟩=>?_) (fun D ys H2 hD ⟨h1,h2,h3,h4⟩=>?_)
 ·obtain rfl:i=0:=by
   have:=(xp.mp hx).1;simpa [wvS] using this
  obtain rfl:V.str (sW (tmW a b))=x:=by simpa [wvS] using hx
  obtain rfl:ys=[]:=jc2.mp (Nat.le_zero.mp h3);exists RD (Ej ?_);refine⟨a,b,rfl,sm,fun p H3 s3 hp=>⟨s3 _ _ h1,Am,Eo hD (h2.trans s3),qg _,fun _=>⟨p,rfl,?_⟩⟩⟩;rw[Ax fun z=>by rw[z,s3 _ _ h1] at hp;cases hp];exact hp
 ·obtain⟨p,rfl,hp⟩:=h4 rfl;exact q D p H2 h2 h1 hp
theorem cZ:C0 9 "read_sun" ["words"] (mX K Bk Aq):=by
 refine co' ["words","start","lengths","leap"] au fun nd H vs Q E hr h=>?_;obtain⟨l,g,rfl,hl,o,q⟩:=h;refine⟨_,(Ac (Ay (Aj Fp (BL BR rfl DN xh (Aa (pv 0) Ab)) Ae (Al _)) (Ad Bd) Ao) (Ac (Ai 1 (Af G4 (Aa (pxL 0) Ab))) (Ac (Ai 2 (Af Kh (Aa (pxL 0) Ab))) (Ac (Ay (Aj Bh (BL BR rfl DN xh (Aa (pv 0) Ab)) Ae (Al _)) (Ad (Ak (zx Nr (hr.mono nofun) rfl (Aa (pv 1) (Aa (pv 2) Ab))))) Ao) (Ac (Ay (PW.pt (Gk (Aj FQ (pxL 0) Ah (Al _)) (FJ (Aj Fp (BL BR rfl DN xh (Aa (pv 0) Ab)) Ae (Al _))))) (Ad Bd) Ao) (Ac (Ai 3 (Af G4 (Aa (pxL 0) Ab))) (Ad (Ak (Gf Ul (Aa (pv 1) (Aa (pv 2) (Aa (pv 3) (Aa (Af YJ (Aa (Ep JM (pv 0) (Ft Ae) Fv) Ab)) Ab))))))))))))),?_⟩
 symm;exists⟨l,_,rfl,.inl (SqL.of hl),?_⟩;refine CK (by show ¬(5:Int)<2;decide) ?_;symm;refine BP (SqL.of hl) Dh ?_;refine GD ?_;refine⟨g.s,rfl,o.sm,fun H1 s1=>?_⟩;have h1:=s1 _ _ hl;symm;refine BP (SqL.of h1) HD ?_;refine GD ?_;refine⟨[g.f,g.h],rfl,(fun z=>nomatch z),(by show 2<=3;decide),o.t2,fun l2 H2 hl2 s2 t2=>?_⟩;have h2:=s2 _ _ h1;symm;exists⟨l,_,rfl,.inl (SqL.of h2),?_⟩;exists CK (fun z=>nomatch V.int.inj z) ?_;exists BP (SqL.of h2) Ks ?_;exists GK (ws_eq _) ?_;exists⟨l,_,rfl,.inl (SqL.of h2),?_⟩;refine CK (by show ¬(5:Int)<5;decide) ?_;symm;refine BP (SqL.of h2) wN ?_;refine GD ?_;refine⟨2,rfl,sm1 nofun nofun,fun H3 s3=>?_⟩;have h3:=s3 _ _ h2;symm;refine Ov (SqL.of h3) fun u hu=>?_;rw[show Im (wvS (Wo g)) (some 4) none=wvS [tmW g.a g.b] from LQ _ 4];refine fresh hu fun H4 s4 t4=>?_;refine GD ?_;exists⟨u,g.a,g.b,rfl,t4,o.t3,fun l5 p H5 s5 t5 hp=>?_⟩;refine fun x dx hx hdx ne=>qJ hx hdx ne (s5 _ _ (s4 _ _ (s3 _ _ t2))) (.cons hp .nil) (.inr ⟨l5,rfl,t5⟩) o.gd (jo0 o.s nofun) fun H6 s6 S6=>⟨rfl,?_⟩;exact q x _ ((s1.trans s2).trans ((s3.trans s4).trans (s5.trans s6))) S6
theorem Z4:C0 1 "read_moon" ["words"] yq:=co (st:=Y4) (by walk_at"g") (by walk_at"b") fun _=>⟨fun _ _ _ _ h=>h.elim,fun _ _ _ _ _ _ _ _ _ _ _ _ _ h=>h.elim⟩
theorem Qv:C0 10 "read_calendar" ["text"] (mZ K Bk Aq):=by
 refine co' ["text","words"] Qf fun nd H vs Q E hr h=>?_;obtain⟨g,rfl,o,q⟩:=h;obtain⟨sp,tl,tk⟩:=o.tx;refine⟨_,(Ac (Ay (Hl (Fg (Af Ls (Aa (pv 0) Ab)))) (Ad Bd) Ao) (Ac (Ai 1 (FP vc jd0 jd1 KJ (pv 0) (Aa Ah Ab))) (Ac (Ay (Aj Bh (pxL 1) Ah (Al _)) (Ad (Ak (Af cZ (Aa (Ep JM (pv 1) (Ft Ae) Fv) Ab)))) Ao) (Ac (Ay (Aj Bh (pxL 1) Ah (Al _)) (Ad (Ak (Af Z4 (Aa (Ep JM (pv 1) (Ft Ae) Fv) Ab)))) Ao) (Ad Bd))))),?_⟩
 symm;refine⟨_,rfl,tk,by rw[Ci];lia,?_⟩;symm;exists Eg ?_;exists Mx ?_;exists⟨rfl,?_⟩;refine⟨_,32,rfl,by rw[show Str.ofString " "=⟨#[32]⟩ from by ac_rfl],nofun,tk.len,fun l hl=>?_⟩;refine fresh hl fun H1 s1 t1=>?_;have t1:H1 l=some (.lst (wvS (UT g))):=by rw[t1,Ra,Ba,sp,va];rfl
 symm;exists BP (SqL.of t1) Dh ?_;exists Hc (ws_eq _) ?_;refine Ov (SqL.of t1) fun u hu=>?_;rw[show Im (wvS (UT g)) (some 1) none=wvS (Wo g) from LQ _ 1];refine GD ?_;exact⟨u,g,rfl,Am,o,fun x H3 s3 C=>q x _ ((s1.trans (Av hu _)).trans s3) C⟩
theorem UW:C0 1 "words_of_row" ["row"] yf:=by
 refine co' ["row","words","form","wanted"] Ro fun nd H vs Q E hr h=>?_;obtain⟨R,rfl,ok,q⟩:=h;have tok:=R.tok ok;obtain⟨rs,eh⟩:=R.head;have e32:Str.ofString " "=⟨#[32]⟩:=∅;refine⟨_,(Ac (Ay (Hl (Fg (BL UJ rfl JH ji1 (Aa (pv 0) (Aa (Xh rfl GJ xo (bN _)) Ab)))))
  (Ad Bd)
  Ao)
  (Ac (Ai 1 (FP vc jd0 jd1 KJ (pv 0) (Aa Ah Ab)))
  (Ac (Ay (Xa (bZ (pxL 1) (By rfl Fy.m (Gz _))))
   (Ad Bd)
   Ao)
  (Ac (Ai 2 (Sw (By rfl Fy.m (Gz _)) (pxL 1) (fun _ _=>rfl)))
  (Ac (Dm (Ay (Aj Bh (CQ Hn (pv 2) (HQ Ff Ae) (fun _ _=>rfl)) Ah (Al _))
   (Ad (Ai 1 (FP vc jd0 jd1 jH (pv 0) (Aa Ah (Aa (BL BR rfl DN xh (Aa (pv 2) Ab)) Ab)))))
   Ao))
  (Ac (Ai 3 (Ag Bl (BL BR rfl DN xh (Aa (pv 2) Ab)) Ae))
  (Ac (Ay (PW.pt (Gk (Aj Fp (BL BR rfl DN xh (Aa (pv 1) Ab)) (pv 3) (Al _)) (FJ (PW.pt (J7 (Aj Ew (BL BR rfl DN xh (Aa (pv 1) Ab)) (pv 3) (Al _)) (Hz (Aj FQ (pxL 1) Ah (Al _))))))))
   (Ad Bd)
   Ao)
  (Ad (Ak (pv 1)))))))))),?_⟩
 symm;exists bQ (.txt _ tok) ?_;exists Eg ?_;exists Mx ?_;exists⟨rfl,?_⟩;refine⟨_,32,rfl,by rw[e32],nofun,tok.len,fun l hl=>?_⟩;refine fresh hl fun H1 s1 t1=>?_;rw[Ra,Ba,eh,zv,zv,Gb] at t1;symm;unfold dX;symm;exists BP (SqL.of t1) Dh ?_;refine⟨_,_,.inr R.hd,rfl,Fy.d,rfl,?_⟩;rw[Tg];exists⟨_,rfl,Eg ?_⟩;unfold aY;symm;exists BP (SqL.of t1) Dh ?_;exists⟨_,_,.inr R.hd,_,rfl,Fy.d,rfl,Tg _ R,?_⟩;refine De (fun Z' H'=>Aw H H'/\∃l',An3 (H l'=none) (Z'=[some (.str (sW R.T)),some (.ref l'),some (.ref (Zg R.fi)),none]) (H' l'=some (.lst (.str R.hd::wkV R.ws)))) ?_ ?_
 ·symm;rcases R.kind ok with ⟨nm,w,hn,ew⟩ | ⟨e1,z,hz,e2⟩
  ·have fs:=Fy.s R;rw[ew] at fs;exists An (fs _) (show _=some (V.str "TEXT") from rfl) ?_;exists Hc rfl ?_;exists Mx ?_;exists⟨rfl,?_⟩;exists⟨_,_,rfl,.inr (fs _),?_⟩;refine⟨_,32,cpl R.hd,nm,w,rfl,by rw[e32];rfl,nofun,?_,fun y=>((X3 R).1 32 y).2 rfl,fun y=>by have:=(HN.wc hn).2 32 y;unfold wch at this;lia,tok.len,fun l2 h2=>fresh h2 fun H2 s2 t2=>?_⟩
   ·show cpl (sW R.T)=_;rw[Ba];unfold Row.T;rw[ew];rfl
   symm;refine⟨s1.trans s2,l2,s1.free h2,rfl,?_⟩;rw[t2,ew];exact xy (fun z=>some (HO.lst (V.str z::_))) (Gb R.hd)
  ·exists An (Fy.s R _) e2 ?_;exists CK (fun y=>hz (V.str.inj y)) ?_;refine⟨s1,l,hl,rfl,?_⟩;rw[eh] at e1;rw[t1,(List.cons.inj e1).2];unfold wkV;rw[va,va];rfl
 rintro Z' H2 ⟨s2,l',hl',rfl,t2⟩;have ln:((V.str R.hd::wkV R.ws).length:Int)=((R.ws.map fun w=>V.str w.k).length:Int)+1:=by unfold wkV;rw[qh,jp,jp];lia
 symm;exists⟨_,_,rfl,.inr (Fy.s R _),?_⟩;exists⟨_,_,rfl,.inl (SqL.of t2),?_⟩;rw[ln];exists CK ⋯ ?_;exists⟨_,_,rfl,.inl (SqL.of t2),?_⟩;rw[ln];refine CK ⋯ ?_;exists Eg ?_;exact q l' H2 hl' s2 t2
theorem WR:C0 1 "kept_by" ["kept","name"] zB:=by
 refine co' ["kept","name"] iV fun nd H vs Q E hr h=>?_;obtain⟨a,kv,nm,v,rfl,ha,hv,q⟩:=h;have dg:Vo H a (.str (sW nm)) (some v):=by rw[<-hv];exact Vo.k (k:=.inr (sW nm)) ha
 refine⟨_,(Ac (Ay (Xa (V2 (fX hr) (pv 1) (pv 0)))
  (Ad Bd)
  Ao)
  (Ad (Ak (eX (fX hr) (pv 0) (pv 1) (fun _ _=>rfl))))),?_⟩
 symm;unfold Wn;symm;refine⟨a,_,rfl,dg,?_⟩;refine⟨_,rfl,?_⟩;exists Eg ?_;unfold lY;symm;exact⟨a,v,rfl,dg,q⟩
theorem Z5:C0 1 "read_date" ["text"] yq:=co (st:=Y5) (by walk_at"g") (by walk_at"b") fun _=>⟨fun _ _ _ _ h=>h.elim,fun _ _ _ _ _ _ _ _ _ _ _ _ _ h=>h.elim⟩
theorem aB:C0 3 "looked_up" ["desk","kind","word"] (yw Et):=by
 refine co' ["desk","kind","word"] ZC fun nd H vs Q E hr h=>?_;obtain⟨x,kv,k,rfl,ok,⟨dx,a,r,hx,hr'⟩,hn,q⟩:=h;have ne:∀{a b:String},decide (Str.ofString a=Str.ofString b)=false->V.str (Str.ofString a)≠V.str (Str.ofString b):=fun h z=>of_decide_eq_false h (V.str.inj z);refine⟨_,(Ac (Ay (PW.pt (J7 (Aj Bh (pv 1) Ah (Al _)) (Hz (Hl (Fg (Af WT (Aa (pv 2) Ab))))))) (Ad Bd) Ao) (Ac (Ay (Aj Bh (pv 1) Ah (Al _)) (Ad (Ak (Af WR (Aa (Br (pv 0) (by rfl)) (Aa (pv 2) Ab))))) Ao) (Ac (Ay (Aj Bh (pv 1) Ah (Al _)) (Ad (Ak (Af WR (Aa (Br (pv 0) (by rfl)) (Aa (pv 2) Ab))))) Ao) (Ac (Ay (Aj Bh (pv 1) Ah (Al _)) (Ad (Ak (Af G4 (Aa (pv 2) Ab)))) Ao) (Ac (Ay (Aj Bh (pv 1) Ah (Al _)) (Ad (Ak (Af Z5 (Aa (pv 2) Ab)))) Ao) (Ad (Ak (pv 2)))))))),?_⟩
 symm;cases k with
 | nm n=>
  exists Hc rfl ?_;refine⟨_,rfl,⟨Fb.mpr (by rw[Ba];exact(Wk.box ok).1),by rw[Ci];have:=(Wk.box ok).2.1;lia⟩,fun v H1 s1 hv=>?_⟩;rw[hv.mpr (by rw[Ba];exact ok)];exists⟨_,rfl,Eg ?_⟩;exists CK (ne ∅) ?_;exists CK (ne ∅) ?_;exists CK (ne ∅) ?_;exists CK (ne ∅) ?_;exact q _ _ s1 rfl
 | tx d=>
  refine CK (ne ∅) ?_;exists Eg ?_;exists CK (ne ∅) ?_;exists CK (ne ∅) ?_;exists CK (ne ∅) ?_;exists CK (ne ∅) ?_;exact q _ _ (Aw.refl _) rfl
 | ru n=>
  obtain⟨v,hv⟩:=hn n rfl;refine CK (ne ∅) ?_;exists Eg ?_;exists CK (ne ∅) ?_;exists Hc rfl ?_;exists⟨x,Et,dx,_,_,rfl,hx,Bm,Gr,rfl,?_⟩;exact⟨r,kv,n,v,rfl,hr',hv,q v _ (Aw.refl _) hv⟩
 | nu i=>
  refine CK (ne ∅) ?_;exists Eg ?_;exists CK (ne ∅) ?_;exists CK (ne ∅) ?_;exists Hc rfl ?_;exact⟨i,rfl,ok,fun H1 s1=>q _ _ s1 rfl⟩
theorem Vj:C0 2 "named_rules" ["desk","names"] (tR Et):=by
 refine co' ["desk","names"] VH fun nd H vs Q E hr h=>?_;obtain⟨x,l,rfl,hl,q⟩:=h;exists⟨_,(Ad (Ak (FZ rfl (Em ["desk","names"] ["desk","names"] rfl rfl (by with_unfolding_all rfl) ∅ rfl ∅ rfl ∅ (by walk_at"fm") (by with_unfolding_all rfl) (by with_unfolding_all rfl)) (Fx (pv 1)) (fun _ _ _ _=>FN) (fun _ _ _ _=>oZ)))),?_⟩;exists Gd (J4 ?_);refine⟨l,rfl,⟨_,SqL.of hl⟩,?_⟩;refine Ig (OJ (xs:=[])) (by show 0<sizeLine;decide) ?_ (fun _=>true) (fun _=>V.non) (fun x hx=>nomatch hx) (fun x hx=>nomatch hx) (fun D hD=>?_)
 ·exact fun D ys hD=>SqL.of (by rw[Ax (Bj hl hD)];exact hl)
 ·refine fresh hD fun H1 s1 t1=>?_;exact q D H1 hD s1 t1
theorem j8:C0 70 "tell_on" ["given"] (ABn K BJ CL):=by
 refine co' ["given"] iQ fun nd H vs Q E hr h=>?_;obtain⟨l,y,n,d,b,rfl,hl,R,q⟩:=h;exists⟨_,(Ad (Ak (Do (Fg (ou qy (hr.mono nofun) (pxL 0) (Aa (pxL 0) Ab))) Ah Ah))),?_⟩
 try refine Ow ?_
 symm;exists BP (SqL.of hl) Dh ?_;obtain⟨C,dr,fs,m,hr,_,_,l3⟩:=R.mt;exists⟨y,C,dr,fs,_,m _,rfl,hr,l3,?_⟩;exists BP (SqL.of hl) HD ?_;exists⟨jb0,y,n,d,b,rfl,R,?_⟩;cases hb:On n b d with
 | true=>
  rw[hb] at q;exists Ej ?_;exact q
 | false=>
  rw[hb] at q;exists Eg ?_;exact q
theorem Ht:C0 1 "day_or_never" ["day"] tQ:=by
 refine co' ["day"] Ry (len:=by intro _ _ _ _ h;obtain⟨r,rfl,_⟩:=h;cases r<;>rfl) fun nd H vs Q E hr h=>?_;obtain⟨r,rfl,o,q⟩:=h;exists⟨_,(Ad (Ak (Do (Aj J9 (pv 0) Fj (Al _)) Ah (Bu Bq rfl GJ xo (Aa (pv 0) Ab))))),?_⟩
 try refine Ow ?_
 symm;exists⟨rfl,?_⟩;cases r with
 | none=>
  exists Ej ?_;exact q
 | some i=>
  exists Eg ?_;refine⟨_,rfl,o i rfl,?_⟩;have q:Q (.str (sW (nW i))) H:=q
  rwa [show sW (nW i)=Cr i from Gb _] at q
theorem Zz:C0 70 "tell_next" ["given"] (mU K BJ CL kh):=by
 refine co' ["given"] Ys fun nd H vs Q E hr h=>?_;obtain⟨l,y,n,d,b,rfl,hl,R,sd,g⟩:=h;have n1:=R.n1;exists⟨_,(Ad (Ak (Af Ht (Aa (Af c7 (Aa (BX Bc (pxL 0)) (Aa (pxL 0) Ab))) Ab)))),?_⟩;exists BP (SqL.of hl) Dh ?_;obtain⟨C,dr,fs,m,hr,l1,_⟩:=R.mt;exists⟨y,C,dr,fs,_,m _,rfl,hr,l1,?_⟩;exists⟨jb0,y,n,b,rfl,R,fun p hp=>?_⟩;exists BP (SqL.of hl) HD ?_;refine⟨p,n,d,b,rfl,SqT.of hp,R.n0,R.n1,R.lt,Vx sd,fun no H1 s1=>?_,fun r H1 s1 r1 r2 r3=>?_⟩
 ·symm;exact⟨none,rfl,(fun _ z=>nomatch z),g.1 no H1 s1⟩
 ·have N:kh (On n b) d r:=⟨r1,r2,r3⟩;have:=jF R.n0 N;symm;exact⟨some r,rfl,fun _ z=>by cases z;exact fM sd ⋯ ⋯,g.2 r H1 s1 N⟩
theorem Z0:C0 70 "tell_last" ["given"] (mU K BJ CL kj):=by
 refine co' ["given"] Yt fun nd H vs Q E hr h=>?_;obtain⟨l,y,n,d,b,rfl,hl,R,sd,g⟩:=h;have n1:=R.n1;exists⟨_,(Ad (Ak (Af Ht (Aa (Af dB (Aa (BX Bc (pxL 0)) (Aa (pxL 0) Ab))) Ab)))),?_⟩;exists BP (SqL.of hl) Dh ?_;obtain⟨C,dr,fs,m,hr,l1,_⟩:=R.mt;exists⟨y,C,dr,fs,_,m _,rfl,hr,l1,?_⟩;exists⟨jb0,y,n,b,rfl,R,fun p hp=>?_⟩;exists BP (SqL.of hl) HD ?_;refine⟨p,n,d,b,rfl,SqT.of hp,R.n0,R.n1,R.lt,Vx sd,fun no H1 s1=>?_,fun r H1 s1 r1 r2 r3=>?_⟩
 ·symm;exact⟨none,rfl,(fun _ z=>nomatch z),g.1 no H1 s1⟩
 ·have N:kj (On n b) d r:=⟨r1,r2,r3⟩;have:=jG R.n0 N;symm;exact⟨some r,rfl,fun _ z=>by cases z;exact fM sd ⋯ ⋯,g.2 r H1 s1 N⟩
theorem cY:C0 70 "tell_nth" ["given"] (yc K BJ CL):=by
 refine co' ["given"] ao fun nd H vs Q E hr h=>?_;obtain⟨l,y,n,d,k,b,rfl,hl,R,sd,sk,k0,g⟩:=h;exists⟨_,(Ad (Ak (Af Ht (Aa (Af kE (Aa (BX Bc (pxL 0)) (Aa (pxL 0) (Aa (pxL 0) Ab)))) Ab)))),?_⟩;exists BP (SqL.of hl) Dh ?_;obtain⟨C,dr,fs,m,hr,l1,_⟩:=R.mt;exists⟨y,C,dr,fs,_,m _,rfl,hr,l1,?_⟩;exists⟨jb0,y,n,b,rfl,R,fun p hp=>?_⟩;exists BP (SqL.of hl) HD ?_;exists BP (SqL.of hl) Ks ?_;refine⟨p,n,d,k,b,rfl,SqT.of hp,R.n0,R.n1,R.lt,Vx sd,Vx sk,k0,fun b0 H1 s1=>?_,fun _ r H1 s1 br N=>?_⟩
 ·symm;exact⟨none,rfl,(fun _ z=>nomatch z),g.1 (fun e=>by rw[b0];exact jc7 _) H1 s1⟩
 ·symm;exact⟨some r,rfl,fun _ z=>by cases z;exact AAT (br.mono nofun),g.2 r H1 s1 N⟩
theorem YG:C0 70 "tell_count" ["given"] (yd K BJ CL):=by
 refine co' ["given"] W7 fun nd H vs Q E hr h=>?_;obtain⟨l,y,n,d,e,b,rfl,hl,R,sd,se,q⟩:=h;exists⟨_,(Ad (Ak (Bu Bq rfl GJ xo (Aa (Af Ud (Aa (BX Bc (pxL 0)) (Aa (pxL 0) (Aa (pxL 0) Ab)))) Ab)))),?_⟩;exists BP (SqL.of hl) Dh ?_;obtain⟨C,dr,fs,m,hr,l1,_⟩:=R.mt;exists⟨y,C,dr,fs,_,m _,rfl,hr,l1,?_⟩;exists⟨jb0,y,n,b,rfl,R,fun p hp=>?_⟩;exists BP (SqL.of hl) HD ?_;exists BP (SqL.of hl) Ks ?_;exists⟨p,n,d,e,b,rfl,SqT.of hp,R.n0,R.n1,R.lt,(Vx sd).mono nofun,(Vx se).mono nofun,fun H1 s1=>?_⟩;refine⟨_,rfl,AAu R.n0 sd se,?_⟩;have:=q H1 s1
 rwa [show sW (nW (CC n b e-CC n b d))=Cr (CC n b e-CC n b d) from Gb _] at this
theorem Zw:C0 70 "tell_size" ["given"] (tE K BJ CL):=by
 refine co' ["given"] Yp fun nd H vs Q E hr h=>?_;obtain⟨l,y,n,b,rfl,hl,R,q⟩:=h;obtain⟨n0,n1,lt⟩:=R.rnd;exists⟨_,(Ad (Ak (Bu Bq rfl GJ xo (Aa (CQ Hn (Af Nk (Aa (BX Bc (pxL 0)) Ab)) Ae (fun _ _=>rfl)) Ab)))),?_⟩;exists BP (SqL.of hl) Dh ?_;obtain⟨C,dr,fs,m,hr,l1,_⟩:=R.mt;exists⟨y,C,dr,fs,_,m _,rfl,hr,l1,?_⟩;exists⟨jb0,y,_,b,rfl,R,fun p hp=>?_⟩;exists⟨p,n,b,rfl,SqT.of hp,n0,n1,lt,fun p2 H1 z c s1 t1 L=>?_⟩;exists An (SqT.of t1) Dh ?_;refine⟨_,rfl,fO (qr (kx n0 L.dv) ⋯),?_⟩;have:=q z c H1 s1 L
 rwa [show sW (nW (z:Int))=Cr (z:Int) from Gb _] at this
theorem Zy:C0 70 "tell_same" ["given"] (tH K BJ CL):=by
 refine co' ["given","paper","size"] Yr fun nd H vs Q E hr h=>?_;obtain⟨l,y,y',n,b,m,c,z,x,d,rfl,hl,R,R',n7,m7,L,L',q⟩:=h;obtain⟨n0,n1,lt⟩:=R.rnd;obtain⟨m0,m1,lt'⟩:=R'.rnd;refine⟨_,(Ac (Ai 1 (Af AAw (Aa (BX Bc (pxL 0)) (Aa (BX Bc (pxL 0)) (Aa (pxL 0) Ab)))))
  (Ac (Ay (Aj Bh (pxT 1) Ah (Al _))
   (Ac (Ai 2 (CQ Hn (pxT 1) Ae (fun _ _=>rfl)))
  (Ad (Ak (K5 (Ds Ah (Ds (MN hr.toN (pv 2)) Ox))))))
   Ao)
  (Ad (Ak oZ)))),?_⟩
 symm;exists BP (SqL.of hl) Dh ?_;obtain⟨C,dr,fs,mt,hr,l1,_⟩:=R.mt;exists⟨y,C,dr,fs,_,mt _,rfl,hr,l1,?_⟩;exists⟨jb0,y,_,b,rfl,R,fun p hp=>?_⟩;exists BP (SqL.of hl) HD ?_;obtain⟨C',dr',fs',mt',hr',l1',_⟩:=R'.mt;exists⟨y',C',dr',fs',_,mt' _,rfl,hr',l1',?_⟩;exists⟨jb0,y',_,c,rfl,R',fun p' hp'=>?_⟩;exists BP (SqL.of hl) Ks ?_;exists⟨p,p',n,b,m,c,z,x,d,rfl,⟨n0,n7,lt,hp⟩,⟨m0,m7,lt',hp'⟩,L,L',fun pa t H1 s1 t1 t2=>?_⟩;exists An (SqT.of t1) Dh ?_;exists Hc rfl ?_;exists An (SqT.of t1) HD ?_;exists An (SqT.of t2) Dh ?_;refine J3 0 nofun nofun fun l1=>Sd _ l1 nofun rfl (fO (qr (kx n0 L.dv) ⋯)) fun l2=>K1 (fits l2 nofun) ?_;have e:Str.empty++Str.ofString "same "++Cr (z:Int)=sW (sg "same "++nW (z:Int)):=Eu (by rw[G3,G3,Ba];rfl);rw[e];exact q H1 s1
theorem Ua:C0 70 "tell_shorter" ["given"] (mR K BJ CL):=by
 refine co' ["given"] Rp fun nd H vs Q E hr h=>?_;obtain⟨l,x,p,g,rfl,hl,T,ok,ln,sz,q⟩:=h;have pn:=PT.parts_n p;have n0:=T.rule.n0;exists⟨_,(Ad (Ak (BX QH (Af j9 (Aa (pxL 0) Ab))))),?_⟩;exists BP (SqL.of hl) Dh ?_;refine⟨x,p,g,rfl,T,⋯,⋯,fun u y H1 s1 S N=>?_⟩;obtain⟨okq,l2⟩:=S.ok n0 sz ok;have dl:=PT.lv_br u;obtain⟨C,dx,_,_,_,_,hC,_,hx,_⟩:=N.node;symm;exists⟨y,C,dx,_,_,yy.mpr ⟨C,hC,rfl⟩,rfl,hx,rfl,?_⟩;exact⟨y,u,g,rfl,N,⋯,qr (PT.tx_len okq) ⋯,fun H2 s2=>q u H2 (s1.trans s2) ⟨okq,S,N.r0,N.rule.n0⟩⟩
theorem Zx:C0 70 "tell_show" ["given"] (tG K BJ CL):=by
 refine co' ["given"] Yq fun nd H vs Q E hr h=>?_;obtain⟨l,x,p,g,rfl,hl,T,ok,ln,q⟩:=h;have dl:=PT.lv_br p;obtain⟨C,dx,_,_,_,_,hC,_,hx,_⟩:=T.node;exists⟨_,(Ad (Ak (BX QH (pxL 0)))),?_⟩;exists BP (SqL.of hl) Dh ?_;exists⟨x,C,dx,_,_,yy.mpr ⟨C,hC,rfl⟩,rfl,hx,rfl,?_⟩;exact⟨x,p,g,rfl,T,⋯,qr (PT.tx_len ok) ⋯,q⟩
theorem Q0:CI0 1 "Desk" Et ["self"] (zK K ⟨Et,Bk,Aq,BJ,CL⟩):=by
 refine ci' ["self"] Ql fun nd H vs Q E hr h=>?_;obtain⟨H0,x,dx,g,rfl,hx,hd,ne,rfl,q⟩:=h;refine⟨_,(Ac (Fi (pv 0) ZZ (by rfl)) (Ad (Fi (pv 0) ZZ (by rfl)))),?_⟩
 symm;intro d1 n1;symm;have a1:d1≠x:=fun z=>by rw[z,Am] at n1;cases n1
 have a2:d1≠dx:=fun z=>by rw[z,Ax ne,Am] at n1;cases n1
 have n1':H0 d1=none:=by rw[Ax a1,Ax a2] at n1;exact n1
 refine⟨x,Et,dx,[],rfl,by rw[Ax a1.symm];exact Am,Bm,FT,nofun,?_⟩;symm;intro d2 n2;symm;have b1:d2≠x:=fun z=>by rw[z,Am] at n2;cases n2
 have b2:d2≠d1:=fun z=>by rw[z,Ax a1,Am] at n2;cases n2
 have b3:d2≠dx:=fun z=>by rw[z,Ax ne,Ax a2.symm,Ax ne,Am] at n2;cases n2
 have n2':H0 d2=none:=by rw[Ax b1,Ax b2,Ax b1,Ax b3] at n2;exact n2
 refine⟨x,Et,dx,_,rfl,by rw[Ax b1.symm];exact Am,Bm,Gr,(by show 1<1000;decide),?_⟩;refine q _ (fun y u e=>?_) ⟨dx,d1,d2,[],Am,?_,?_,qg _,b2,fun _ _ z=>nomatch z⟩
 ·have c1:y≠x:=Bj e hx;rw[Ax c1,Ax (Bj e n2'),Ax c1,Ax (Bj e n1'),Ax c1,Ax (Bj e hd)];exact e
 ·show _=_;rw[Ax a1,Ax b2.symm,Ax a1];exact Am
 ·rw[Ax b1];exact Am
theorem Nv:CI0 1 "Change" qz ["self","old","new","day"] yq:=ci (st:=Mw) (by walk_at"k") (by walk_at"k") (by walk_at"k") (by walk_at"h") (by walk_at"b") fun _=>⟨fun _ _ _ _ h=>h.elim,fun _ _ _ _ _ _ _ _ _ _ _ _ _ h=>h.elim⟩
theorem AAy:C0 133 "keep" ["desk","word","given"] (zE K ⟨Et,Bk,Aq,BJ,CL⟩):=by
 refine co' ["desk","word","given","name"] zT (len:=by intro _ _ _ _ h;obtain⟨x,l,g,c,j,m,D,lb,sm,⟨rfl,_⟩ | ⟨nm,p,rfl,_⟩⟩:=h<;>rfl) fun nd H vs Q E hr h=>?_;obtain⟨x,l,g,c,j,m,DK,lb,sm,h⟩:=h;obtain⟨dx,a,r,kv,hx,hc,hk,lk,na,hm⟩:=DK.ex;refine⟨_,(Ac (Ai 3 (pxL 2)) (Ac (Dm (Ay (Aj Bh (pv 1) Ah (Al _)) (Ad (Xb (uj (jk8 (by decide:1<=64) _) hr.units) (Br (pv 0) (by rfl)) (pv 3) (Af Qv (Aa (pxL 2) Ab)) rfl)) (Ad (Dm (Ay (Aj Bh (pv 1) Ah (Al _)) (Ad (Xb (uj (jk8 (by decide:1<=64) _) hr.units) (Br (pv 0) (by rfl)) (pv 3) (Gf Nv (Aa (pxL 2) (Aa (pxL 2) (Aa (pxL 2) Ab)))) rfl)) (Ad (Xb (uj (jk8 (by decide:1<=64) _) hr.units) (Br (pv 0) (by rfl)) (pv 3) (Af Z3 (Aa (pxL 2) (Aa (Br (pv 0) (by rfl)) Ab))) rfl))))))) (Ad (Ak Ah)))),?_⟩
 rcases h with ⟨rfl,hl,rfl,q⟩ | ⟨nm,p,rfl,hl,rfl,fi,q⟩
 ·symm;exists BP (SqL.of hl) Dh ?_;refine De (fun _ H'=>Q (.str "ok") H') ?_ (fun Z' H' h=>by symm;exact h);symm;refine Hc rfl ?_;unfold nY;symm;exists BP (SqL.of hl) HD ?_;exists⟨g,rfl,sm,fun y H1 s1 C1=>?_⟩;exists⟨x,Et,dx,_,_,rfl,s1 _ _ hx,Bm,FT,rfl,?_⟩;have h0:=s1 _ _ hc;have kd:=Kd.put h0 (kv':=putK [] (.inr (sW (sg "sun"))) (.ref y));refine⟨a,_,rfl,lB.k (k:=.inr (sW (sg "sun"))) h0 nofun,q _ ((Kd.of s1).trans kd) ⟨dx,a,r,kv,kd.ins (s1 _ _ hx),⟨_,y,Am,rfl,Q5.kd kd C1⟩,by rw[Ax na];exact s1 _ _ hk,lk,na,fun nm p e=>?_⟩⟩;obtain⟨y',g1,g2⟩:=hm nm p e;exact⟨y',g1,(g2.same s1).kd kd⟩
 ·symm;exists BP (SqL.of hl) Dh ?_;refine De (fun _ H'=>Q (.str "ok") H') ?_ (fun Z' H' h=>by symm;exact h);symm;refine CK (fun z=>absurd (V.str.inj z) ∅) ?_;exists De (fun _ H'=>Q (.str "ok") H') ?_ (fun Z' H' h=>h);refine CK (fun z=>absurd (V.str.inj z) ∅) ?_;unfold nY;symm;exists BP (SqL.of hl) HD ?_;exists⟨x,Et,dx,_,_,rfl,hx,Bm,FT,rfl,?_⟩;exists⟨a,p,g,rfl,fi.ok,fi.kn,fi.mn,sm,hc,fi.sz,fun y H1 s1 R=>?_⟩;exists⟨x,Et,dx,_,_,rfl,s1 _ _ hx,Bm,Gr,rfl,?_⟩;have h0:=s1 _ _ hk;have kd:=Kd.put h0 (kv':=putK kv (.inr (sW nm)) (.ref y));refine⟨r,_,rfl,lB.k (k:=.inr (sW nm)) h0 (uj lk (uj lb nofun)),q _ ((Kd.of s1).trans kd) ⟨dx,a,r,_,kd.ins (s1 _ _ hx),?_,Am,qr (KR _ _ _) ⋯,na,fun k p' e=>?_⟩⟩
  ·obtain⟨kv',y',e1,e2,e3⟩:=hc;exact⟨kv',y',by rw[Ax (Ne.symm na)];exact s1 _ _ e1,e2,Q5.kd kd (Hi.same e3 s1)⟩
  ·unfold setM at e;rw[lL];split at e
   ·rename_i z
    subst z;cases e;exact⟨y,xz rfl,R.kd kd⟩
   ·rename_i z
    obtain⟨y',g1,g2⟩:=hm k p' e;exact⟨y',by rw[yb fun w=>z (by have:=xy cpl (Sum.inr.inj w);rwa [Ba,Ba] at this)];exact g1,(g2.same s1).kd kd⟩
theorem CJ:CM0 134 Et "say" ["self","row"] (xK K ⟨Et,Bk,Aq,BJ,CL⟩):=by
 refine cm' ["self","row","words","form","given"] bM fun nd H vs Q E hr h=>?_;obtain⟨x,g,c,j,m,R,rfl,ok,DK,lb,sm,SQ⟩:=h;obtain⟨dx,a,r,kv,hx,hc,hk,lk,na,hm⟩:=DK.ex;have nn:∀{nm p},m nm=some p->∃v,Fl kv (.inr (sW nm))=some v:=fun e=>by
  obtain⟨y,h1,_⟩:=hm _ _ e;exact⟨_,h1⟩
 have en:∀n,.ru n∈R.ws->∃v,Fl kv (.inr (sW n))=some v:=fun n hn=>by
  rcases R with _ | _ | ⟨_,_ | _ | _ | _ | _⟩ | _ | _ | _ | _<;>simp[Row.ws] at hn
  all_goals first
   | (obtain ⟨_,_,e,_⟩:=SQ;exact hn ▸ nn e)
   | (obtain ⟨_,e,_⟩:=SQ;exact hn ▸ nn e)
   | (obtain ⟨_,_,_,_,e1,e2,_⟩:=SQ;exact hn.elim (fun z=>z ▸ nn e1) (fun z=>z ▸ nn e2))
 have dk:DkH Et H x kv:=⟨dx,a,r,hx,hk⟩;refine⟨_,(Ac (Ai 2 (Af UW (Aa (pv 1) Ab)))
  (Ac (Ai 3 (Sw (By rfl Fy.m (Gz _)) (pxL 2) (fun _ _=>rfl)))
  (Ac (Pq (i:=4) nd rfl (by walk_at"o") (xs:=["kind","word"]) rfl (Io ["kind","word"] ["self","row","words","form","given"] ["self","row","words","form","given"] rfl rfl (by with_unfolding_all rfl) ∅ rfl ∅ ∅ ∅ (by walk_at"fm") (by with_unfolding_all rfl) (by with_unfolding_all rfl)) (Xd (c:=true) (d:=false) rfl lE (Aa (pv 3) (Aa (Ep JM (pv 2) (Ft Ae) Fv) Ab))) (fun _ _ _ _=>FN) (fun _ _ _ _=>(ZW (n:=2) rfl (Iz (DX (i:=0) (show (["kind","word","self","row","words","form","given"]:List Str).Nodup from by ac_rfl) rfl (by walk_at"o")) (Iz (DX (i:=1) (show (["kind","word","self","row","words","form","given"]:List Str).Nodup from by ac_rfl) rfl (by walk_at"o")) Xe)))) (fun _ _ _ _=>(Af aB (Aa (pv 2) (Aa (pv 0) (Aa (pv 1) Ab))))))
  (Ac (BV (FP ve ja2 ja3 Gp (pv 4) (Aa (Af Vj (Aa (pv 0) (Aa (Ep JM (pv 2) (Ft (Ag Bl (BL BR rfl DN xh (Aa (pv 3) Ab)) Ae)) Fv) Ab))) Ab)))
  (Ac (Ay (Xa (uy (pxL 2) (By rfl CG.m (Gz _))))
   (Ad (Ak (o7 (k:=70) (GQ.cons j8 (GQ.cons Zz (GQ.cons Z0 (GQ.cons cY (GQ.cons YG (GQ.cons Zw (GQ.cons Zy (GQ.cons Ua (GQ.cons Zx GQ.nil))))))))) (hr.mono nofun) (Sw (By rfl CG.m (Gz _)) (pxL 2) (fun _ _=>rfl)) (Aa (pv 4) Ab))))
   Ao)
  (Ad (Ak (Af AAy (Aa (pv 0) (Aa (pxL 2) (Aa (pv 4) Ab))))))))))),?_⟩
 symm;exists⟨R,rfl,ok,fun l H1 hl s1 t1=>?_⟩;unfold aY;symm;exists BP (SqL.of t1) Dh ?_;exists⟨_,_,.inr R.hd,_,rfl,Fy.d,rfl,Tg _ R,?_⟩;exists ZQ (XR ?_);refine Ov (SqL.of t1) fun u hu=>?_;rw[show Im (V.str R.hd::wkV R.ws) (some 1) none=wkV R.ws from LQ _ 1];exists fresh hu fun H2 s2 t2=>?_;have s02:=s1.trans s2;refine⟨_,u,rfl,⟨_,_,Fy.s R _,SqL.of t2⟩,?_⟩;refine jt (kv:=kv) (Fy.s R) t2 (uj R.few.2 nofun) (fun k hk' H3 Q3 s3 q3=>?_) (fun D H3 vs hD s3 t3 gv=>?_)
 ·symm;exact⟨x,kv,k,rfl,ok k hk',dk.same (s02.trans s3),fun n e=>en n (e ▸ hk'),q3⟩
 symm;have s03:=s02.trans s3;exists J5 rfl t3 ?_;exists⟨_,_,rfl,.inr (Fy.s R _),?_⟩;have t1':=s3 _ _ (s2 _ _ t1);refine Ov (SqL.of t1') fun u5 hu5=>?_;have e5:Im (V.str R.hd::wkV R.ws) (some (((R.ws.map fun w=>V.str w.k).length:Int)+1)) none=[]:=by
  have:=LQ (V.str R.hd::wkV R.ws) ((R.ws.map fun w=>V.str w.k).length+1);rw[jl4,Int.natCast_one] at this;rw[this,vj (by unfold wkV;simp)]
 rw[e5];exists fresh hu5 fun H5 s5 t5=>?_;have s05:=s03.trans s5;refine⟨x,u5,rfl,t5,fun l6 H6 hl6 s6 t6=>?_⟩;have s06:=s05.trans s6;have tD:=s6 _ _ (s5 _ _ t3);symm;refine⟨D,l6,vs,[],rfl,rfl,tD,t6,by rw[ji8,Nat.add_zero,gv.1];exact qr R.few.2 nofun,?_⟩;rw[ya,yI tD];have t16:=s6 _ _ (s5 _ _ t1');have DK6:=DK.same s06;have rl:∀{nm p v},m nm=some p->Fl kv (.inr (sW nm))=some v->∃y,v=.ref y/\TrH K BJ CL g H6 y p:=fun e e'=>by
  obtain⟨y,h1,h2⟩:=hm _ _ e;exact⟨y,ua (e'.symm.trans h1),h2.same s06⟩
 symm;unfold dX;symm;exists BP (SqL.of t16) Dh ?_;refine⟨_,_,.inr R.hd,rfl,CG.d,rfl,?_⟩;rcases R with g' | ⟨nm,p⟩ | ⟨nm,d | d | d | ⟨d,k⟩ | ⟨d,k⟩⟩ | nm | ⟨na,nb,d⟩ | nm | nm
 ·exists⟨_,rfl,Eg ?_⟩;exists BP (SqL.of t16) Dh ?_;obtain⟨v0,ws0,rfl,e0,g1⟩:=GV.cons gv;obtain⟨v1,rfl,e1⟩:=GV.one g1;cases e0;cases e1;obtain⟨rfl,ec,q⟩:=SQ;exact⟨x,D,_,c,j,m,DK6,lb,sm,.inl ⟨rfl,tD,ec,fun H' k d=>q H' ((Kd.of s06).trans k) d⟩⟩
 ·exists⟨_,rfl,Eg ?_⟩;exists BP (SqL.of t16) Dh ?_;obtain⟨v0,ws0,rfl,e0,g1⟩:=GV.cons gv;obtain⟨v1,rfl,e1⟩:=GV.one g1;cases e0;cases e1;obtain⟨ec,fi,q⟩:=SQ;exact⟨x,D,g,c,j,m,DK6,lb,sm,.inr ⟨nm,p,rfl,tD,ec,fi,fun H' k d=>q H' ((Kd.of s06).trans k) d⟩⟩
 ·exists⟨_,rfl,Ej ?_⟩;unfold Gy;dsimp only;symm;exists BP (SqL.of t16) Dh ?_;exists⟨_,_,.inr "on",_,rfl,CG.d,rfl,rfl,_,_,_,rfl,.head _,CG.g3,?_⟩;obtain⟨kz,p,e,q⟩:=SQ;obtain⟨v0,ws0,rfl,e0,g1⟩:=GV.cons gv;obtain⟨v1,rfl,e1⟩:=GV.one g1;cases e1;obtain⟨y,rfl,T⟩:=rl e e0;refine⟨D,y,_,d,_,rfl,tD,T.rule,?_⟩;rw[<-Gb (yn _)];exact q H6 s06
 ·exists⟨_,rfl,Ej ?_⟩;unfold Gy;dsimp only;symm;exists BP (SqL.of t16) Dh ?_;exists⟨_,_,.inr "next",_,rfl,CG.d,rfl,rfl,_,_,_,rfl,.tail _ (.head _),CG.g4,?_⟩;obtain⟨kz,p,e,q⟩:=SQ;obtain⟨v0,ws0,rfl,e0,g1⟩:=GV.cons gv;obtain⟨v1,rfl,e1⟩:=GV.one g1;cases e1;obtain⟨y,rfl,T⟩:=rl e e0;exact⟨D,y,_,d,_,rfl,tD,T.rule,ok (.nu d) (.tail _ (.head _)),.mk (fun r h=>h.2.1) (fun r r' h h'=>pJ h h') fun H' s'=>q H' (s06.trans s')⟩
 ·exists⟨_,rfl,Ej ?_⟩;unfold Gy;dsimp only;symm;exists BP (SqL.of t16) Dh ?_;exists⟨_,_,.inr "last",_,rfl,CG.d,rfl,rfl,_,_,_,rfl,.tail _ (.tail _ (.head _)),CG.g5,?_⟩;obtain⟨kz,p,e,q⟩:=SQ;obtain⟨v0,ws0,rfl,e0,g1⟩:=GV.cons gv;obtain⟨v1,rfl,e1⟩:=GV.one g1;cases e1;obtain⟨y,rfl,T⟩:=rl e e0;exact⟨D,y,_,d,_,rfl,tD,T.rule,ok (.nu d) (.tail _ (.head _)),.mk (fun r h=>h.2.1) (fun r r' h h'=>pQ h h') fun H' s'=>q H' (s06.trans s')⟩
 ·exists⟨_,rfl,Ej ?_⟩;unfold Gy;dsimp only;symm;exists BP (SqL.of t16) Dh ?_;exists⟨_,_,.inr "nth",_,rfl,CG.d,rfl,rfl,_,_,_,rfl,.tail _ (.tail _ (.tail _ (.head _))),CG.g6,?_⟩;obtain⟨kz,p,e,q⟩:=SQ;obtain⟨v0,ws0,rfl,e0,g1⟩:=GV.cons gv;obtain⟨v1,ws1,rfl,e1,g2⟩:=GV.cons g1;obtain⟨v2,rfl,e2⟩:=GV.one g2;cases e1;cases e2;obtain⟨y,rfl,T⟩:=rl e e0;exact⟨D,y,_,d,k,_,rfl,tD,T.rule,ok (.nu d) (.tail _ (.head _)),ok (.nu k) (.tail _ (.tail _ (.head _))),kz d k rfl,.mk (R:=fun _ d=>Nth (p.sz g) (p.bt g) d k) (fun r h=>h.1) (fun r r' h h'=>Nth.uniq T.rule.n0 (kz d k rfl) h h') fun H' s'=>q H' (s06.trans s')⟩
 ·exists⟨_,rfl,Ej ?_⟩;unfold Gy;dsimp only;symm;exists BP (SqL.of t16) Dh ?_;exists⟨_,_,.inr "count",_,rfl,CG.d,rfl,rfl,_,_,_,rfl,.tail _ (.tail _ (.tail _ (.tail _ (.head _)))),CG.g7,?_⟩;obtain⟨kz,p,e,q⟩:=SQ;obtain⟨v0,ws0,rfl,e0,g1⟩:=GV.cons gv;obtain⟨v1,ws1,rfl,e1,g2⟩:=GV.cons g1;obtain⟨v2,rfl,e2⟩:=GV.one g2;cases e1;cases e2;obtain⟨y,rfl,T⟩:=rl e e0;exact⟨D,y,_,d,k,_,rfl,tD,T.rule,ok (.nu d) (.tail _ (.head _)),ok (.nu k) (.tail _ (.tail _ (.head _))),fun H' s'=>q H' (s06.trans s')⟩
 ·exists⟨_,rfl,Ej ?_⟩;unfold Gy;dsimp only;symm;exists BP (SqL.of t16) Dh ?_;exists⟨_,_,.inr "size",_,rfl,CG.d,rfl,rfl,_,_,_,rfl,.tail _ (.tail _ (.tail _ (.tail _ (.tail _ (.head _))))),CG.g8,?_⟩;obtain⟨p,e,q⟩:=SQ;obtain⟨v0,rfl,e0⟩:=GV.one gv;obtain⟨y,rfl,T⟩:=rl e e0;have n0:=T.rule.n0;exact⟨D,y,(p.sz g).toNat,_,rfl,tD,by rw[ku ⋯];exact T.rule,fun z c H' s'=>q z c H' (s06.trans s')⟩
 ·exists⟨_,rfl,Ej ?_⟩;unfold Gy;dsimp only;symm;exists BP (SqL.of t16) Dh ?_;exists⟨_,_,.inr "same",_,rfl,CG.d,rfl,rfl,_,_,_,rfl,.tail _ (.tail _ (.tail _ (.tail _ (.tail _ (.tail _ (.head _)))))),CG.g9,?_⟩;obtain⟨p,p',z,u,e,e',z1,z2,L,L',q⟩:=SQ;obtain⟨v0,ws0,rfl,e0,g1⟩:=GV.cons gv;obtain⟨v1,ws1,rfl,e1,g2⟩:=GV.cons g1;obtain⟨v2,rfl,e2⟩:=GV.one g2;cases e2;obtain⟨y,rfl,T⟩:=rl e e0;obtain⟨y',rfl,T'⟩:=rl e' e1;have n0:=T.rule.n0;have m0:=T'.rule.n0;exact⟨D,y,y',(p.sz g).toNat,_,(p'.sz g).toNat,_,z,u,d,rfl,tD,by rw[ku ⋯];exact T.rule,by rw[ku ⋯];exact T'.rule,⋯,⋯,L,L',fun H' s'=>q H' (s06.trans s')⟩
 ·exists⟨_,rfl,Ej ?_⟩;unfold Gy;dsimp only;symm;exists BP (SqL.of t16) Dh ?_;exists⟨_,_,.inr "shorter",_,rfl,CG.d,rfl,rfl,_,_,_,rfl,.tail _ (.tail _ (.tail _ (.tail _ (.tail _ (.tail _ (.tail _ (.head _))))))),CG.g12,?_⟩;obtain⟨p,e,okp,ln,sz,q⟩:=SQ;obtain⟨v0,rfl,e0⟩:=GV.one gv;obtain⟨y,rfl,T⟩:=rl e e0;exact⟨D,y,p,g,rfl,tD,T,okp,ln,sz,fun u H' s'=>q u H' (s06.trans s')⟩
 ·exists⟨_,rfl,Ej ?_⟩;unfold Gy;dsimp only;symm;exists BP (SqL.of t16) Dh ?_;exists⟨_,_,.inr "show",_,rfl,CG.d,rfl,rfl,_,_,_,rfl,.tail _ (.tail _ (.tail _ (.tail _ (.tail _ (.tail _ (.tail _ (.tail _ (.head _)))))))),CG.g13,?_⟩;obtain⟨p,e,okp,ln,q⟩:=SQ;obtain⟨v0,rfl,e0⟩:=GV.one gv;obtain⟨y,rfl,T⟩:=rl e e0;exact⟨D,y,p,g,rfl,tD,T,okp,ln,fun H' s'=>q H' (s06.trans s')⟩
theorem Dq:C0 1 "_law_cell_at" ["_law_script","_law_k"] (nF K):=by
 refine co' ["_law_script","_law_k"] VL fun nd H vs Q E hr h=>?_;obtain⟨a,ns,k,rfl,hS,h0,hl,q⟩:=h;refine⟨_,(Ac (Ay (Aj Fp (pv 1) (BL BR rfl DN xh (Aa (pv 0) Ab)) (Al _))
  (Ad (Ak (CQ Ce (pv 0) (pv 1) (fun _ _=>rfl))))
  Ao)
  (Ad (Ak Ae))),?_⟩
 symm;exists⟨a,_,rfl,.inl hS,?_⟩;rw[jp];refine Bs (fun c=>?_) (fun c=>?_)
 ·symm;refine BP hS (gP h0 c) ?_;exact q
 ·symm;have e:ns.getD k.toNat 0=0:=by
   simp[List.getD,ji7 (show ns.length<=k.toNat by lia)]
  rw[e] at q;exact q
theorem Ui:C0 1 "_law_divisor" ["_law_one","_law_other"] zJ:=by
 refine co' ["_law_one","_law_other"] VJ fun nd H vs Q E hr h=>?_;obtain⟨x,y,rfl,x0,y0,q⟩:=h;refine⟨_,(Ac (Fo PassesOwn.never (Aj FQ (pv 1) Ae (Al _)) (Ad (zq (i:=0) (j:=1) rfl nd rfl rfl nofun rfl rfl (Aa (pv 1) (Aa (Ag Bv (pv 0) (pv 1)) Ab)) (by with_unfolding_all rfl)))) (Ad (Ak (pv 0)))),?_⟩
 symm;refine⟨fun m Z' H'=>H'=H/\∃u v:Int,Z'=[some (.int u),some (.int v)]/\0<u/\0<=v/\Int.gcd u v=Int.gcd x y/\v.toNat=m,⟨_,rfl,x,y,rfl,x0,⋯,rfl,rfl⟩,?_⟩;rintro m Z' H' ⟨rfl,u,v,rfl,u0,v0,hg,rfl⟩;symm;by_cases hv:v=0
 ·subst hv;exists GK rfl ?_;rw[Int.gcd_zero_right] at hg;have:((Int.gcd x y:Nat):Int)=u:=⋯
  rw[this] at q;exact q
 ·refine qI (fun z=>hv (V.int.inj z)) ?_;exists⟨_,fun Z' H' hh=>hh,?_⟩;refine⟨_,_,rfl,?_⟩;have m0:=ze u hv;have m1:=qo u (show 0<v by lia);refine⟨(u%v).toNat,⋯,rfl,v,u%v,rfl,⋯,m0,?_,rfl⟩;rw[<-hg];exact ADk u v
theorem Ko:C0 1 "_law_leaf" ["_law_word","_law_beside","_law_days"] tY:=by
 refine co' ["_law_word","_law_beside","_law_days","_law_size","_law_text_here"] bH fun nd H vs Q E hr h=>?_;obtain⟨wd,x,g,rfl,sm,q⟩:=h;have D1:=sm.d.2;have lf:∀(b:Bool) {H1:Hp} (a:Addr),H1 a=none->Aw H H1->wd=sW (PT.tx (.lf b))->Q (.ref a) (upd H1 a (.tup [.str wd,.int 1,.int 1])):=fun b {H1} a ha s e=>q a (.lf b) _ (s.trans (Av ha _)) ⟨Pr e rfl rfl trivial trivial,by show(1:Int)<=120;decide,by show 1+0<=40;decide⟩;refine⟨_,(Ac (Ay (PW.pt (Gk (Aj Bh (pv 0) Ah (Al _)) (FJ (Aj Bh (pv 0) Ah (Al _)))))
  (Ad (Ak (BK (Aa (pv 0) (Aa Ae (Aa Ae Ab))))))
  Ao)
  (Ac (Ay (Aj Bh (pv 0) Ah (Al _))
   (Ac (Ai 4 (Ag Ar (Ag Ar (Ag Ar Ah (CQ Ce (Eb (Aa Ah (Aa Ah (Aa Ah Ab)))) (Ag Bv (pv 1) Ae) (fun _ _=>rfl))) Ah) (CQ Ce (eU (ss:=["1","*","-1","2","-3","6"]) rfl) (Ag Bv (Ag Bp (pv 1) Ae) Ae) (fun _ _=>rfl))))
  (Ac (Dm (Ay (Aj Bh (Ag Bv (Ag Bp (pv 1) Ae) Ae) Ae (Al _))
   (Ad (Ai 4 (Ag Ar (Ag Ar (pv 4) Ah) (Bu Bq rfl GJ xo (Aa (Ag Bv (Ag Bp (pv 1) Ae) (Ag JT Ae Ae)) Ab)))))
   Ao))
  (Ad (Ak (BK (Aa (pv 4) (Aa (pv 2) (Aa Ae Ab))))))))
   Ao)
  (Ac (Ai 3 (Ag Bl Ae (Ag Bv (pv 1) Ae)))
  (Ad (Ak (BK (Aa (Ag Ar (Ag Ar (Ag Ar Ah (Bu Bq rfl GJ xo (Aa (pv 3) Ab))) Ah) (Bu Bq rfl GJ xo (Aa (Ag Cy (Ag Bv (Ag Bp (pv 1) Ae) (Ag JT Ae Ae)) (Ag JT Ae Ae)) Ab))) (Aa (pv 3) (Aa Ae Ab))))))))),?_⟩
 symm;refine Bs (fun c=>Ej ?_) (fun c=>?_)
 ·symm;exact⟨(by show 3<=sizeLine;decide),fun a ha=>lf true a ha (Aw.refl _) (by rw[yK];exact V.str.inj c)⟩
 symm;refine Bs (fun c=>?_) (fun c=>?_)
 ·symm;exact⟨(by show 3<=sizeLine;decide),fun a ha=>lf false a ha (Aw.refl _) (by rw[sE];exact V.str.inj c)⟩
 symm;refine Bs (fun c=>?_) (fun c=>?_)
 ·symm;refine⟨(by show 3<=sizeLine;decide),fun l hl=>?_⟩;refine fresh hl fun H1 s1 t1=>?_;obtain⟨zm,m,Mm,om,em⟩:=ABI x;symm;refine BP (SqL.of t1) em ?_;have Z:=(Lg.s "date sun ").ap (Lg.w (CN m) Mm.l);rw[Mm.e];exists⟨_,_,rfl,rfl,Z.le,?_⟩;have Z:=Z.aps " ";exists⟨_,_,rfl,rfl,Z.le,?_⟩;refine RG ?_;refine⟨(by show 6<=sizeLine;decide),fun l2 hl2=>?_⟩;refine fresh hl2 fun H2 s2 t2=>?_;have t2:H2 l2=some (.lst (dyS.map V.str)):=t2;obtain⟨zd,d,Md,od,ed⟩:=ABK (x/3);symm;refine BP (SqL.of t2) ed ?_;have Z:=Z.ap (Lg.w (CN d) Md.l);rw[Md.e];exists⟨_,_,rfl,rfl,Z.le,?_⟩;refine De (fun Z' H'=>Aw H H'/\Ex2 fun(z:Str) (y:Option (Int×Int))=>An3 (z=sW (PT.tx (.date (sg "sun") m d y))) ((PT.date (sg "sun") m d y).ok) (Z'=[some (.str wd),some (.int x),some (.int g.D),none,some (.str z)])) ?_ ?_
  ·symm;refine Bs (fun c=>?_) (fun c=>?_)
   ·have g0:=ze (x/36) (show (10000000000000000000000000000000000000000:Int)≠0 by decide);have g1:=qo (x/36) (show (0:Int)<10000000000000000000000000000000000000000 by decide);symm;have Z:=Z.aps " each 2 from ";exists⟨_,_,rfl,rfl,Z.le,?_⟩;rw[p40];have gs:Sm (x/36%10000000000000000000000000000000000000000):=Fd ⋯ ⋯;generalize x/36%10000000000000000000000000000000000000000=rr at gs ⊢;refine⟨_,rfl,Ez gs,?_⟩;have Z:=Z.ap (.n gs);exists⟨_,_,rfl,rfl,Z.le,?_⟩;have e:=ABd m d rr;have s2':Sm 2:=Fd nofun nofun;refine⟨s1.trans s2,_,some (2,rr),Z.eq e,⟨bw,Mm.ok,Md.ok,fun z hz=>by cases hz;exact⟨s2',gs,(by show(1:Int)<=2;decide),(by show(2:Int)<=2;decide)⟩,om,od,Mm.l,Md.l⟩,rfl⟩
   ·symm;have e:=ABe m d;refine⟨s1.trans s2,_,none,Z.eq e,⟨bw,Mm.ok,Md.ok,(fun z hz=>nomatch hz),om,od,Mm.l,Md.l⟩,rfl⟩
  rintro Z' H3 ⟨s3,z,y,ez,ok,rfl⟩;symm;exact⟨(by show 3<=sizeLine;decide),fun a ha=>q a _ _ (s3.trans (Av ha _)) ⟨Pr ez rfl rfl ok rfl,by show g.D<=120;lia,by show 1+0<=40;decide⟩⟩
 symm;have a0:=ze x (show (9:Int)≠0 by decide);have a1:=qo x (show (0:Int)<9 by decide);have n0:1<=1+x%9:=⋯;have n9:1+x%9<=9:=⋯;generalize 1+x%9=n at n0 n9 ⊢;have ss:Sm n:=Fd ⋯ ⋯;refine⟨_,rfl,Ez ss,?_⟩;have Z:=(Lg.s "each ").ap (.n ss);exists⟨_,_,rfl,rfl,Z.le,?_⟩;have Z:=Z.aps " from ";exists⟨_,_,rfl,rfl,Z.le,?_⟩;rw[p40,p39];have g0:=ze (x/9) (show (10000000000000000000000000000000000000000:Int)≠0 by decide);have g1:=qo (x/9) (show (0:Int)<10000000000000000000000000000000000000000 by decide);have gs:Sm (x/9%10000000000000000000000000000000000000000-1000000000000000000000000000000000000000):=Fd ⋯ ⋯;generalize x/9%10000000000000000000000000000000000000000-1000000000000000000000000000000000000000=rr at gs ⊢;refine⟨_,rfl,Ez gs,?_⟩;have Z:=Z.ap (.n gs);exists⟨_,_,rfl,rfl,Z.le,?_⟩;exact⟨(by show 3<=sizeLine;decide),fun a ha=>q a (.each n rr) _ (Av ha _) ⟨Pr (Z.eq (PT.tx_each n rr).symm) rfl rfl ⟨ss,gs,n0,⋯⟩ trivial,by show n<=120;lia,by show 1+0<=40;decide⟩⟩
theorem YL:C0 2 "_law_grown" ["_law_word","_law_beside","_law_one","_law_other"] m9:=by
 refine co' ["_law_word","_law_beside","_law_one","_law_other","_law_number","_law_first","_law_size","_law_many_here","_law_text_here"] ZD fun nd H vs Q E hr h=>?_;obtain⟨wd,x,a,b,p,r,g,rfl,hw,D0,N0,N1,q⟩:=h;have e1:=N0.n.h;have e2:=N1.n.h;have X:=N0.lg;have Y:=N1.lg;have n1:=PT.sz_pos D0 N0.n.ok;have n2:=PT.sz_pos D0 N1.n.ok;have z1:=N0.sz;have z2:=N1.sz;have x0:=ze x (show (3:Int)≠0 by decide);have x1:=qo x (show (0:Int)<3 by decide);refine⟨_,(Ac (Ai 4 (Ag Bl Ae (Ag Bv (pv 1) Ae))) (Ac (Ai 5 (Bu Bq rfl GJ xo (Aa (Ag Cy (Ag Bv (Ag Bp (pv 1) Ae) (Ag JT Ae Ae)) (Ag Cd Ae (Ag JT Ae Ae))) Ab))) (Ac (Ay (Aj Bh (pv 0) Ah (Al _)) (Ad (Ak (BK (Aa (Ag Ar (Ag Ar Ah (pxT 2)) Ah) (Aa (pxT 2) (Aa (Ag Bl Ae (pxT 2)) Ab)))))) Ao) (Ac (Ay (Aj Bh (pv 0) Ah (Al _)) (Ad (Ak (BK (Aa (Ag Ar (Ag Ar (Ag Ar (Ag Ar Ah (pv 5)) Ah) (pxT 2)) Ah) (Aa (pxT 2) (Aa (Ag Bl Ae (pxT 2)) Ab)))))) Ao) (Ac (Ay (Aj Bh (pv 0) Ah (Al _)) (Ac (Ai 8 (Ag Ar (Ag Ar (Ag Ar (Ag Ar (Ag Ar (Ag Ar Ah (Bu Bq rfl GJ xo (Aa (pv 4) Ab))) Ah) (pxT 2)) Ah) (pv 5)) Ah)) (Ad (Ak (BK (Aa (pv 8) (Aa (Ag Cd (pxT 2) (pv 4)) (Aa (Ag Bl Ae (pxT 2)) Ab))))))) Ao) (Ac (Ai 6 (Ag Cd (Ag Bp (pxT 2) (Af Ui (Aa (pxT 2) (Aa (pxT 3) Ab)))) (pxT 3))) (Ac (Ai 7 (Ag Bl (Ag Bl Ae (pxT 2)) (pxT 3))) (Ac (Ay (Aj Bh (pv 0) Ah (Al _)) (Ac (Dm (Ay (Aj Ew (Ag Bv (pv 1) Ae) Ae (Al _)) (Ad (Ai 4 (HQ Ff (pv 4)))) Ao)) (Ad (Ak (BK (Aa (Ag Ar (Ag Ar (Ag Ar (Ag Ar (Ag Ar (Ag Ar Ah (Bu Bq rfl GJ xo (Aa (pv 4) Ab))) Ah) (pxT 2)) Ah) (pxT 3)) Ah) (Aa (pv 6) (Aa (pv 7) Ab))))))) Ao) (Ad (Ak (BK (Aa (Ag Ar (Ag Ar (Ag Ar (Ag Ar (Ag Ar (Ag Ar Ah (pxT 2)) Ah) (pv 0)) Ah) (pxT 3)) Ah) (Aa (pv 6) (Aa (pv 7) Ab)))))))))))))),?_⟩
 symm;have k0:1<=1+x%3:=⋯;have k3:1+x%3<=3:=⋯;generalize 1+x%3=k at k0 k3 ⊢;have sk:Sm k:=Fd ⋯ ⋯;have sk':Sm (-k):=Fd ⋯ ⋯;rw[p40,p39];exists Dj ⟨64,200,Ca ⋯ ⋯ nofun,bt_of ⋯ ⋯,nofun⟩ ?_;have g0:=ze (x/6) (show (10000000000000000000000000000000000000000:Int)≠0 by decide);have g1:=qo (x/6) (show (0:Int)<10000000000000000000000000000000000000000 by decide);have gs:Sm (x/6%10000000000000000000000000000000000000000-5*1000000000000000000000000000000000000000):=Fd ⋯ ⋯;generalize x/6%10000000000000000000000000000000000000000-5*1000000000000000000000000000000000000000=rr at gs ⊢;refine⟨_,rfl,Ez gs,?_⟩;have G:=Lg.n gs;symm;refine Bs (fun c=>?_) (fun c=>?_)
 ·symm;refine An (SqT.of e1) Dh ?_;have Z:=(Lg.s "(not ").ap X;exists⟨_,_,rfl,rfl,Z.le,?_⟩;have Z:=Z.aps ")";exists⟨_,_,rfl,rfl,Z.le,?_⟩;exists An (SqT.of e1) HD ?_;exists An (SqT.of e1) Ks ?_;refine⟨(by show 3<=sizeLine;decide),fun t ht=>q t (.no p) _ (Av ht _) (Pr (Z.eq (PT.tx_no _).symm) rfl (by simp only[PT.lv,PT.br];lia) N0.n.ok N0.n.kn)⟩
 symm;refine Bs (fun c'=>?_) (fun c'=>?_)
 ·symm;have Z:=(Lg.s "(").ap G;exists⟨_,_,rfl,rfl,Z.le,?_⟩;have Z:=Z.aps " later ";exists⟨_,_,rfl,rfl,Z.le,?_⟩;refine An (SqT.of e1) Dh ?_;have Z:=Z.ap X;exists⟨_,_,rfl,rfl,Z.le,?_⟩;have Z:=Z.aps ")";exists⟨_,_,rfl,rfl,Z.le,?_⟩;exists An (SqT.of e1) HD ?_;exists An (SqT.of e1) Ks ?_;refine⟨(by show 3<=sizeLine;decide),fun t ht=>q t (.la rr p) _ (Av ht _) (Pr (Z.eq (PT.tx_la _ _).symm) rfl (by simp only[PT.lv,PT.br];lia) ⟨gs,N0.n.ok⟩ N0.n.kn)⟩
 symm;refine Bs (fun c''=>?_) (fun c''=>?_)
 ·symm;refine⟨_,rfl,Ez sk,?_⟩;have Z:=(Lg.s "(every ").ap (.n sk);exists⟨_,_,rfl,rfl,Z.le,?_⟩;have Z:=Z.aps " of ";exists⟨_,_,rfl,rfl,Z.le,?_⟩;refine An (SqT.of e1) Dh ?_;have Z:=Z.ap X;exists⟨_,_,rfl,rfl,Z.le,?_⟩;have Z:=Z.aps " from ";exists⟨_,_,rfl,rfl,Z.le,?_⟩;have Z:=Z.ap G;exists⟨_,_,rfl,rfl,Z.le,?_⟩;have Z:=Z.aps ")";exists⟨_,_,rfl,rfl,Z.le,?_⟩;exists An (SqT.of e1) HD ?_;exists Sh ?_;exists An (SqT.of e1) Ks ?_;have te:sg "(every "++nW k++sg " of "++p.tx++sg " from "++nW rr++sg ")"=PT.tx (.ev k p rr):=by rw[PT.tx_ev];simp
  refine⟨(by show 3<=sizeLine;decide),fun t ht=>q t (.ev k p rr) _ (Av ht _) (Pr (Z.eq te) rfl (by simp only[PT.lv,PT.br];lia) ⟨sk,gs,N0.n.ok,k0,k3⟩ N0.n.kn)⟩
 symm;exists An (SqT.of e1) HD ?_;exists An (SqT.of e1) HD ?_;exists An (SqT.of e2) HD ?_;have gp:=RN (b:=r.sz g) n1;have gl2:=qP (b:=r.sz g) n1;refine⟨_,_,rfl,n1,n2,?_⟩;exists Dj (En gp ⋯) ?_;refine An (SqT.of e2) HD ?_;have q0:=jl3 (a:=p.sz g) (b:=(Int.gcd (p.sz g) (r.sz g):Int)) ⋯ ⋯;have q1:=jj9 (a:=p.sz g) (Int.gcd (p.sz g) (r.sz g):Int) ⋯;refine Sh ?_;rw[show p.sz g/(Int.gcd (p.sz g) (r.sz g):Int)*r.sz g=Cm (p.sz g) (r.sz g) from rfl];symm;exists An (SqT.of e1) Ks ?_;exists An (SqT.of e2) Ks ?_;refine Bs (fun co=>?_) (fun co=>?_)
 ·symm;refine De (fun Z' H'=>H'=H/\∃k':Int,An3 (Sm k') (k'≠0) (Z'=[some (.str wd),some (.int x),some (.ref a),some (.ref b),some (.int k'),some (.str (Cr rr)),some (.int (Cm (p.sz g) (r.sz g))),some (.int (1+((p.lv+p.br:Nat):Int)+((r.lv+r.br:Nat):Int))),none])) ?_ ?_
  ·symm;refine Bs (fun z=>?_) (fun z=>?_)
   ·symm;exact⟨rfl,-k,sk',⋯,rfl⟩
   ·symm;exact⟨rfl,k,sk,⋯,rfl⟩
  rintro Z' H' ⟨rfl,k',ks,kz,rfl⟩;symm;refine⟨_,rfl,Ez ks,?_⟩;have Z:=(Lg.s "(").ap (.n ks);exists⟨_,_,rfl,rfl,Z.le,?_⟩;have Z:=Z.aps " of ";exists⟨_,_,rfl,rfl,Z.le,?_⟩;refine An (SqT.of e1) Dh ?_;have Z:=Z.ap X;exists⟨_,_,rfl,rfl,Z.le,?_⟩;have Z:=Z.aps " from ";exists⟨_,_,rfl,rfl,Z.le,?_⟩;refine An (SqT.of e2) Dh ?_;have Z:=Z.ap Y;exists⟨_,_,rfl,rfl,Z.le,?_⟩;have Z:=Z.aps ")";exists⟨_,_,rfl,rfl,Z.le,?_⟩;refine⟨(by show 3<=sizeLine;decide),fun t ht=>q t (.nt k' p r) _ (Av ht _) (Pr (Z.eq (PT.tx_nt _ _ _).symm) rfl (by simp only[PT.lv,PT.br];lia) ⟨ks,N0.n.ok,N1.n.ok,kz⟩ ⟨N0.n.kn,N1.n.kn⟩)⟩
 ·obtain⟨w,rfl⟩:∃w:PK,wd=w.s:=hw.resolve_left fun z=>by
   simp only[qf,yk,or_false] at z;rcases z with z | z | z | z
   ·exact c (xy V.str z)
   ·exact c' (xy V.str z)
   ·exact c'' (xy V.str z)
   ·exact co (xy V.str z)
  symm;refine An (SqT.of e1) Dh ?_;have Z:=(Lg.s "(").ap X;exists⟨_,_,rfl,rfl,Z.le,?_⟩;have Z:=Z.aps " ";exists⟨_,_,rfl,rfl,Z.le,?_⟩;have L1:Lg (Str.ofString w.s) (sg w.s) 6:=⟨rfl,by cases w<;>ac_rfl⟩;have Z:=Z.ap L1;exists⟨_,_,rfl,rfl,Z.le,?_⟩;have Z:=Z.aps " ";exists⟨_,_,rfl,rfl,Z.le,?_⟩;refine An (SqT.of e2) Dh ?_;have Z:=Z.ap Y;exists⟨_,_,rfl,rfl,Z.le,?_⟩;have Z:=Z.aps ")";exists⟨_,_,rfl,rfl,Z.le,?_⟩;have te:sg "("++p.tx++sg " "++sg w.s++sg " "++r.tx++sg ")"=PT.tx (.pr w p r):=by rw[PT.tx_pr,PT.pk_t];simp
  refine⟨(by show 3<=sizeLine;decide),fun t ht=>q t (.pr w p r) _ (Av ht _) (Pr (Z.eq te) rfl (by simp only[PT.lv,PT.br];lia) ⟨N0.n.ok,N1.n.ok⟩ ⟨N0.n.kn,N1.n.kn⟩)⟩
theorem aC:C0 3 "_law_text" ["_law_script","_law_days"] (sr K):=by
 refine co' ["_law_script","_law_days","_law_leaves","_law_words","_law_nodes","_law_k","_law_word","_law_beside","_law_one","_law_other","_law_found"] bF fun nd H vs Q E hr h=>?_;obtain⟨a,ns,g,rfl,hS,nl,sm,q⟩:=h;refine ABG ⟨_,(JF (dD (i:=2) nd rfl (by walk_at"o") (YQ (ss:=["each","date","each","none","all"]) (by rfl)))
  (JF (dD (i:=3) nd rfl (by walk_at"o") (YQ (ss:=["and","upon","or","not","of","not","until","later","but","near","each","till","every"]) (by rfl)))
  (JF (dD (i:=3) nd rfl (by walk_at"o") (ACq Xl (be (pv 3)) (YQ (ss:=["unlike","date","none","all","and","or"]) (by rfl))))
  (JF (bs (Ai 4 (Eb (Aa (Af Ko (Aa Ah (Aa (Af Dq (Aa (pv 0) (Aa Ae Ab))) (Aa (pv 1) Ab)))) Ab))))
  (JF (bs (BV (FP ve jd9 je0 Hj (pv 4) (Aa (Af Ko (Aa (CQ Ce (pv 2) (Ag Bv (Af Dq (Aa (pv 0) (Aa Ae Ab))) Ae) (fun _ _=>rfl)) (Aa (Af Dq (Aa (pv 0) (Aa Ae Ab))) (Aa (pv 1) Ab)))) Ab))))
  (JF (bs (Ge PassesOwn.never rfl (O1 rfl Hv (Aa Ae (Aa (BL (j4 rfl) rfl lG PyProof.Rows.boot_min (Aa (BL BR rfl DN xh (Aa (pv 0) Ab)) (Aa Ae Ab))) (Aa Ae Ab)))) (DX (i:=5) nd rfl (by walk_at"o"))
   (Ac (Ai 6 (CQ Ce (pv 3) (Ag Bv (CQ Ce (pv 0) (pv 5) (fun _ _=>rfl)) Ae) (fun _ _=>rfl)))
  (Ac (Ai 7 (Af Dq (Aa (pv 0) (Aa (Ag Bl (pv 5) Ae) Ab))))
  (Ac (Ai 8 (CQ Ce (pv 4) (Ag Cy (Ag Cy (BL BR rfl DN xh (Aa (pv 4) Ab)) Ae) (Ag Bv (Ag Bv (Ag Bp (CQ Ce (pv 0) (pv 5) (fun _ _=>rfl)) Ae) Ae) (BL BR rfl DN xh (Aa (pv 4) Ab)))) (fun _ _=>rfl)))
  (Ac (Dm (Ay (Aj Bh (Ag Bv (Ag Bp (CQ Ce (pv 0) (pv 5) (fun _ _=>rfl)) Ae) Ae) Ae (Al _))
   (Ad (Ai 8 (CQ Ce (pv 4) (Ag Bv (Ag Bp (CQ Ce (pv 0) (pv 5) (fun _ _=>rfl)) Ae) (BL BR rfl DN xh (Aa (pv 4) Ab))) (fun _ _=>rfl))))
   Ao))
  (Ac (Ai 9 (CQ Ce (pv 4) (Ag Bv (Ag Bv (Ag Bp (CQ Ce (pv 0) (pv 5) (fun _ _=>rfl)) Ae) Ae) (BL BR rfl DN xh (Aa (pv 4) Ab))) (fun _ _=>rfl)))
  (Ac (Ai 10 Fj)
  (Ac (Dm (Ay (Aj jB (pv 6) (pv 2) (by rfl))
   (Ad (Ai 10 (Af Ko (Aa (pv 6) (Aa (pv 7) (Aa (pv 1) Ab))))))
   (Ad (Ai 10 (Af YL (Aa (pv 6) (Aa (pv 7) (Aa (pv 8) (Aa (pv 9) Ab)))))))))
  (Ad (Dm (Ay (PW.pt (J7 (Aj Jo (pxT 10) Ae (Al _)) (Hz (Aj Jo (pxT 10) Ae (Al _)))))
   (Ad (BV (FP ve jd9 je0 Hj (pv 4) (Aa (pv 10) Ab))))
   Ao))))))))))))
  (wK (bs (Ak (CQ Hn (CQ Ce (pv 4) (HQ Ff Ae) (fun _ _=>rfl)) Ae (fun _ _=>rfl))))))))))),?_⟩
 symm;refine RG ?_;refine⟨(by show 5<=sizeLine;decide),fun lv hlv=>?_⟩;exists fresh hlv fun H1 s1 t1=>?_;refine RG ?_;refine⟨(by show 13<=sizeLine;decide),fun lw0 hlw0=>?_⟩;exists fresh hlw0 fun H2 s2 t2=>?_;refine RG ?_;refine⟨(by show 6<=sizeLine;decide),fun lw1 hlw1=>?_⟩;exists fresh hlw1 fun H3 s3 t3=>?_;refine⟨lw0,lw1,_,_,rfl,rfl,s3 _ _ t2,t3,(by show 13+6<=sizeLine;decide),fun lw hlw=>?_⟩;refine fresh hlw fun H4 s4 t4=>?_;rw[<-uu] at t4;have t4:H4 lw=some (.lst (wdS.map V.str)):=t4;have tv4:H4 lv=some (.lst (lvS.map V.str)):=(s2.trans (s3.trans s4)) _ _ t1;have s4:=s1.trans (s2.trans (s3.trans s4));clear t2 t3 t1;symm;exists K3 (s4.seq hS) nl ⋯ ?_;exists⟨_,_,g,rfl,sm,fun a1 p1 H5 s5 N1=>?_⟩;refine⟨(by show 1<=sizeLine;decide),fun L hL=>?_⟩;have hL5:=hL;refine fresh hL fun H6 s6 t6=>?_;have R6:YW g H6 L [(a1,p1)]:=⟨t6,fun z hz=>by obtain rfl:=zw.mp hz;exact N1.same s6⟩;symm;refine Iw rfl t6 ?_;have s56:=s5.trans s6;have s06:=s4.trans s56;symm;exists K3 (s06.seq hS) nl ⋯ ?_;obtain⟨wl,_,ewl⟩:=gO (ss:=lvS) (ze (ns.getD (4:Int).toNat 0) (show (5:Int)≠0 by decide)) (qo (ns.getD (4:Int).toNat 0) (show (0:Int)<5 by decide));exists BP (SqL.of (s56 _ _ tv4)) ewl ?_;exists K3 (s06.seq hS) nl ⋯ ?_;refine⟨wl,_,g,rfl,sm,fun a2 p2 H9 s9 N2=>?_⟩;refine GD ?_;have R9:=R6.same s9;refine Sq R9.1 (by show 1<sizeLine;decide) ?_;have RA:=R9.app N2;have sA:Aw H5 (upd H9 L (.lst (([(a1,p1)].map fun z=>V.ref z.1)++[.ref a2]))):=Eo hL5 (s6.trans s9);generalize upd H9 L (.lst (([(a1,p1)].map fun z=>V.ref z.1)++[.ref a2]))=HA at RA sA ⊢;have tv5:=s5 _ _ tv4;have tw5:=s5 _ _ t4;have s05:=s4.trans s5;have hS5:=s05.seq hS;clear R6 R9 s6 s9 N1 N2 s06 s56 ewl t6 tv4 t4;symm;exists JS (XS ?_);refine⟨a,_,rfl,.inl (sA.seq hS5),?_⟩;rw[jp];symm;refine⟨_,_,rfl,?_⟩;obtain⟨M,hM⟩:∃M:Int,(if (26:Int)<(ns.length:Int) then (26:Int) else (ns.length:Int))=M:=⟨_,rfl⟩;have M0:0<=M/\M<=26/\M<=(ns.length:Int):=by split at hM<;>lia
 rw[hM];symm;obtain⟨n,hn,n10,hk⟩:∃n:Nat,(n:Int)=Builtin.Range.rangeSize 6 M 2/\n<=10/\∀k:Nat,k<n->6+(k:Int)*2<M:=by
  rw[HW ⋯];by_cases c:6<M
  ·rw[xz c];exact⟨((M-6-1)/2+1).toNat,⋯,⋯,fun k hk=>⋯⟩
  ·rw[yb c];exact⟨0,rfl,⋯,fun k hk=>absurd hk (Nat.not_lt_zero k)⟩
 refine⟨6,M,2,rfl,⋯,⋯,JL ⋯ ⋯ ⋯ ⋯ ⋯ ⋯,n,hn,Ma (fun i Z' H'=>Aw H5 H'/\Ex7 fun(zs:List (Addr×PT)) (v5 v6 v7 v8 v9 v10:Option V)=>An4 (YW g H' L zs) (2<=zs.length) (zs.length<=2+i) (Z'=[some (.ref a),some (.int g.D),some (.ref lv),some (.ref lw),some (.ref L),v5,v6,v7,v8,v9,v10])) ⟨sA,[(a1,p1),(a2,p2)],none,none,none,none,none,none,RA,(by show 2<=2;decide),(by show 2<=2+0;decide),rfl⟩ ?_ ?_⟩
 ·rintro i Z' H' hi ⟨sH,zs,v5,v6,v7,v8,v9,v10,R,z2,zi,rfl⟩;have kM:=hk i hi;generalize hkk:(6:Int)+(i:Int)*2=kk at kM ⊢;have hSH:=sH.seq hS5;have hat:=gP (ns:=ns) (k:=kk) ⋯ ⋯;generalize ns.getD kk.toNat 0=x at hat;have zl:(0:Int)<(zs.length:Int):=⋯
  symm;exists BP hSH hat ?_;obtain⟨wd,hwd,ewd⟩:=gO (ss:=wdS) (ze x (show (19:Int)≠0 by decide)) (qo x (show (0:Int)<19 by decide));exists BP (SqL.of (sH _ _ tw5)) ewd ?_;refine K3 hSH nl ⋯ ?_;generalize ns.getD (kk+1).toNat 0=y;symm;refine⟨L,_,rfl,.inl (SqL.of R.1),?_⟩;rw[jp];symm;exists BP hSH hat ?_;refine⟨L,_,rfl,.inl (SqL.of R.1),?_⟩;rw[jp];symm;have a0:=ze (x/38%3) (show (zs.length:Int)≠0 by lia);have b1:=qo (x/38%3) zl;obtain⟨o,ho,eo⟩:=Uv (zs:=zs) (k:=(zs.length:Int)-1-x/38%3%(zs.length:Int)) ⋯ ⋯;exists BP (SqL.of R.1) eo ?_;refine De (fun Z' H3=>H3=H'/\∃z,z∈zs/\Z'=[some (.ref a),some (.int g.D),some (.ref lv),some (.ref lw),some (.ref L),some (.int kk),some (.str wd),some (.int y),some (.ref z.1),v9,v10]) ?_ ?_
  ·symm;exists BP hSH hat ?_;refine Bs (fun c=>?_) (fun c=>?_)
   ·symm;exists BP hSH hat ?_;refine⟨L,_,rfl,.inl (SqL.of R.1),?_⟩;rw[jp];symm;obtain⟨o',ho',eo'⟩:=Uv (zs:=zs) (ze (x/2280) (show (zs.length:Int)≠0 by lia)) (qo (x/2280) zl);exists BP (SqL.of R.1) eo' ?_;exact⟨rfl,o',ho',rfl⟩
   ·symm;exact⟨rfl,o,ho,rfl⟩
  clear eo ho;rintro Z' Hx ⟨hx,o,ho,rfl⟩;subst hx;symm;exists BP hSH hat ?_;refine⟨L,_,rfl,.inl (SqL.of R.1),?_⟩;rw[jp];symm;obtain⟨o2,ho2,eo2⟩:=Uv (zs:=zs) (ze (x/114%20) (show (zs.length:Int)≠0 by lia)) (qo (x/114%20) zl);exists BP (SqL.of R.1) eo2 ?_;refine De (fun Z' H4=>Aw Hx H4/\Ex2 fun b p=>Nd0 g H4 b p/\Z'=[some (.ref a),some (.int g.D),some (.ref lv),some (.ref lw),some (.ref L),some (.int kk),some (.str wd),some (.int y),some (.ref o.1),some (.ref o2.1),some (.ref b)]) ?_ ?_
  ·symm;exists⟨lv,_,rfl,.inl (SqL.of (sH _ _ tv5)),rfl,jf lvS,?_⟩;cases hb:inV (V.str wd) (lvS.map V.str) with
   | true=>
    exists Ej ?_;exists⟨wd,y,g,rfl,sm,fun b p H4 s4 N=>?_⟩;exact⟨s4,b,p,N.n,rfl⟩
   | false=>
    exists Eg ?_;exists⟨wd,y,o.1,o2.1,o.2,o2.2,g,rfl,yG hwd hb,sm,R.2 o ho,R.2 o2 ho2,fun b p H4 s4 N=>?_⟩;exact⟨s4,b,p,N,rfl⟩
  rintro Z' H4 ⟨s4,b,p,N,rfl⟩;have R4:=R.same s4;have sH4:=sH.trans s4;symm;refine De (fun Z' H4=>Aw H5 H4/\∃zs',An4 (YW g H4 L zs') (2<=zs'.length) (zs'.length<=2+(i+1)) (Z'=[some (.ref a),some (.int g.D),some (.ref lv),some (.ref lw),some (.ref L),some (.int kk),some (.str wd),some (.int y),some (.ref o.1),some (.ref o2.1),some (.ref b)])) ?_ ?_
  ·symm;exists An (SqT.of N.h) HD ?_;refine Bs (fun c1=>?_) (fun c1=>?_)
   ·symm;exists An (SqT.of N.h) Ks ?_;refine Bs (fun c=>?_) (fun c=>?_)
    ·symm;exists Iw rfl R4.1 ?_;refine Sq R4.1 (by rw[jp,sizeLine_eq];lia) ?_;exact⟨Eo hL5 sH4,zs++[(b,p)],R4.app ⟨N,⋯,⋯⟩,by rw[qc];lia,by rw[qc];show zs.length+1<=_;lia,rfl⟩
    ·symm;exact⟨sH4,zs,R4,z2,⋯,rfl⟩
   ·exists Eg ?_;exact⟨sH4,zs,R4,z2,⋯,rfl⟩
  rintro Z' H5' ⟨s5',zs',R5,z4,z5,rfl⟩;exact⟨s5',zs',_,_,_,_,_,_,R5,z4,z5,rfl⟩
 ·rintro Z' H' ⟨sH,zs,v5,v6,v7,v8,v9,v10,R,z2,zi,rfl⟩;symm;obtain⟨o,ho,eo⟩:=wM (zs:=zs) ⋯;exists BP (SqL.of R.1) eo ?_;have N:=R.2 o ho;exists An (SqT.of N.n.h) Dh ?_;exact q o.2 _ (s05.trans sH) N.fine N.sz
theorem HB:wZ P w K mg base 1 "_law_many" ["_law_text_here"] tU:=by
 refine ADn ["_law_text_here","_law_words","_law_many_here","_law_k"] bG (fun h=>?_) fun nd H vs Q E hr h=>?_
 ·obtain⟨p,rfl,_⟩:=h;rfl
 obtain⟨p,rfl,ok,kn,few,q⟩:=h;have tl:=PT.tx_len ok;have nl:(nbM p.tx).length<=p.tx.length:=qr (jb9 _ _) (jb9 _ _);refine⟨_,(Ck (ug 1 (zu vc jd0 jd1 KJ (ZX (ZX (PE.p (pv 0)))) (Aa Ah Ab)))
  (Ck (PS.p (Ai 2 (FP vc PySem.F.slot_str_count PySem.F.type_str_count pN (pv 0) (Aa Ah Ab))))
  (Ck (PS.p (Ge PassesOwn.never rfl (O2 rfl Hv (Aa (BL BR rfl DN xh (Aa (pv 1) Ab)) Ab)) (DX (i:=3) nd rfl (by walk_at"o"))
   (Ac (Dm (Ay (PW.pt (Gk (Aj Bh (CQ Ce (pv 1) (pv 3) (fun _ _=>rfl)) Ah (Al _)) (Gk (Aj Bh (CQ Ce (pv 1) (pv 3) (fun _ _=>rfl)) Ah (Al _)) (FJ (Aj Bh (CQ Ce (pv 1) (pv 3) (fun _ _=>rfl)) Ah (Al _))))))
   (Ad (Ai 2 (Ag Bl (pv 2) Ae)))
   Ao))
  (Ad (Dm (Ay (PW.pt (J7 (Aj Bh (CQ Ce (pv 1) (pv 3) (fun _ _=>rfl)) Ah (Al _)) (Hz (PW.pt (Gk (Aj Fp (pv 3) Ae (Al _)) (FJ (Aj FQ (CQ Ce (pv 1) (Ag Cy (pv 3) Ae) (fun _ _=>rfl)) Ah (Al _))))))))
   (Ad (Ai 2 (Ag Bl (pv 2) Ae)))
   Ao))))))
  (ZV (PS.p (Ak (pv 2))))))),?_⟩
 symm;refine eF ?_;exists eF ?_;refine⟨_,rfl,by rw[Ci];lia,?_⟩;exists⟨_,rfl,qr (ir p.tx) ⋯,?_⟩;rw[ACL];exists⟨rfl,?_⟩;refine⟨_,32,rfl,rfl,nofun,?_,fun l hl=>?_⟩
 ·rw[Ci];lia
 rw[Ra,Ba,PT.spl_pl ok];exists fresh hl fun H1 s1 t1=>?_;exists⟨rfl,?_⟩;exists⟨_,40,rfl,rfl,?_⟩;exists JS (XX ?_);refine⟨l,_,rfl,.inl (SqL.of t1),?_⟩;have lw:=Rf 32 (sW (nbM p.tx));rw[Ra,Ba,PT.spl_pl ok,jp,Ci] at lw;rw[jp,jp,show cps (sW p.tx)=p.tx from Ba p.tx,PT.tx_ct ok kn];symm;refine⟨_,rfl,⋯,⋯,?_⟩;rw[zh];refine WL (fun i Z' H'=>H'=H1/\∃v,Z'=[some (.str (sW p.tx)),some (.ref l),some (.int ((p.br+JB [] (p.pl.take i):Nat):Int)),v]) ⟨rfl,_,rfl⟩ ?_ ?_
 ·rintro i Z' H' hi ⟨rfl,v,rfl⟩;rw[jv1];have hw:=zo hi;generalize p.pl[i]=w at hw;have ht:=jY p.pl i w hw;have ea:atI (List.map V.str (List.map sW p.pl)) (i:Int)=some (.str (sW w)):=DY (by rw[qq,qq,hw];rfl);have fin:∀{n:Nat},n=Gj (p.pl.take i).reverse w->p.br+JB [] (p.pl.take i)+n=p.br+JB [] (p.pl.take (i+1)):=fun e=>by rw[ht,e];lia
  generalize hA:p.br+JB [] (p.pl.take i)=A at fin;symm;refine De (fun Z' H2=>H2=H'/\Z'=[some (.str (sW p.tx)),some (.ref l),some (.int ((A+(if w∈kwM then 1 else 0):Nat):Int)),some (.int (i:Int))]) ?_ ?_
  ·symm;exists BP (SqL.of t1) ea ?_;have yes:w∈kwM->(A:Int)+1=((A+(if w∈kwM then 1 else 0):Nat):Int):=fun h=>by rw[xz h];lia
   refine Bs (fun c=>Ej ?_) (fun c1=>?_)
   ·symm;rw[yes (by rw[(SN _).mp c];exact .head _)];exact⟨rfl,rfl⟩
   symm;exists BP (SqL.of t1) ea ?_;refine Bs (fun c=>Ej ?_) (fun c2=>?_)
   ·symm;rw[yes (by rw[(SN _).mp c];exact .tail _ (.head _))];exact⟨rfl,rfl⟩
   symm;exists BP (SqL.of t1) ea ?_;refine Bs (fun c=>?_) (fun c3=>?_)
   ·symm;rw[yes (by rw[(SN _).mp c];exact .tail _ (.tail _ (.head _)))];exact⟨rfl,rfl⟩
   symm;have no:w∉kwM:=fun z=>by
    rcases qf.mp z with e | z
    ·exact c1 ((SN _).mpr e)
    rcases qf.mp z with e | z
    ·exact c2 ((SN _).mpr e)
    ·exact c3 ((SN _).mpr (zw.mp z))
   rw[yb no];exact⟨rfl,rfl⟩
  rintro Z' Hx ⟨rfl,rfl⟩;have hit:∀(b:Nat),(if w=sg "each"/\(p.pl.take i).reverse[3]?≠some (sg "date") then 1 else 0)=b->A+(if w∈kwM then 1 else 0)+b=p.br+JB [] (p.pl.take (i+1)):=fun b hb=>by
   rw[jj2];exact fin (by unfold Gj;rw[hb])
  generalize A+(if w∈kwM then 1 else 0)=B at hit;symm;refine De (fun Z' H2=>H2=Hx/\Z'=[some (.str (sW p.tx)),some (.ref l),some (.int ((p.br+JB [] (p.pl.take (i+1)):Nat):Int)),some (.int (i:Int))]) ?_ ?_
  ·symm;have yes:∀{x y:Nat},x+1=y->(x:Int)+1=(y:Int):=fun h=>⋯
   exists BP (SqL.of t1) ea ?_;refine Bs (fun c=>?_) (fun c=>Eg ?_)
   ·have cw:=(SN _).mp c;symm;refine Bs (fun c4=>Ej ?_) (fun c4=>?_)
    ·symm;rw[yes (hit 1 (xz ⟨cw,fun z=>by
      have:=(xp.mp z).1;rw[jh1,jb6] at this;lia⟩))]
     exact⟨rfl,rfl⟩
    symm;obtain⟨u,eu⟩:∃u,p.pl[i-4]?=some u:=⟨_,zo ⋯⟩;have er:(p.pl.take i).reverse[3]?=some u:=by
     rw[List.getElem?_reverse (by rw[jb6];lia),jb6,show min i p.pl.length-1-3=i-4 by lia,js3 ⋯,eu]
    rw[er] at hit;refine BP (SqL.of t1) (v:=.str (sW u)) ?_ ?_
    ·rw[show (i:Int)-4=((i-4:Nat):Int) by lia];exact DY (by rw[qq,qq,eu];rfl)
    symm;by_cases c5:u=sg "date"
    ·rw[decide_eq_true ((SN _).mpr c5)];exists Eg ?_;rw[show B=_ from hit 0 (yb fun z=>z.2 (by rw[c5]))];exact⟨rfl,rfl⟩
    ·rw[decide_eq_false fun z=>c5 ((SN _).mp z)];exists Ej ?_;rw[yes (hit 1 (xz ⟨cw,fun z=>c5 (ua z)⟩))];exact⟨rfl,rfl⟩
   ·symm;rw[show B=_ from hit 0 (yb fun z=>c ((SN _).mpr z.1))];exact⟨rfl,rfl⟩
  rintro Z' Hy ⟨rfl,rfl⟩;exact⟨rfl,_,rfl⟩
 ·rintro Z' Hx ⟨rfl,v,rfl⟩;symm;have e:JB [] p.pl=p.lv:=((PT.wd_cn ok kn).h [] fun j _=>by simp).1;rw[jb7,e,jn8];exact q _ s1
theorem Nm:C0 135 "_law_alike" ["_law_desk","_law_day","_law_number"] (nG K ⟨Et,Bk,Aq,BJ,CL⟩):=by
 refine co' ["_law_desk","_law_day","_law_number","_law_word","_law_tail","_law_size"] ZF fun nd H vs Q E hr h=>?_;obtain⟨x,g,j,m,p,q',z,c,d,k,rfl,sd,sk,k0,dk,hj,sm,T,q⟩:=h;refine⟨_,(Ac (Ge PassesOwn.never rfl (Fx (Eb (Aa Ah (Aa Ah (Aa Ah Ab))))) (DX (i:=3) nd rfl (by walk_at"o")) (Ad (Ay (Aj FQ (Cq CJ Bm (pv 0) (Aa (Ag Ar (Ag Ar (pv 3) Ah) (pv 1)) Ab)) (Cq CJ Bm (pv 0) (Aa (Ag Ar (Ag Ar (pv 3) Ah) (pv 1)) Ab)) (Al _)) (Ad (Ak M8)) Ao))) (Ac (Ai 4 (Ag Ar (Ag Ar (Ag Ar Ah (pv 1)) Ah) (pv 2))) (Ac (Ge PassesOwn.never rfl (Fx (Eb (Aa Ah (Aa Ah Ab)))) (DX (i:=3) nd rfl (by walk_at"o")) (Ad (Ay (Aj FQ (Cq CJ Bm (pv 0) (Aa (Ag Ar (Ag Ar (pv 3) Ah) (pv 4)) Ab)) (Cq CJ Bm (pv 0) (Aa (Ag Ar (Ag Ar (pv 3) Ah) (pv 4)) Ab)) (Al _)) (Ad (Ak M8)) Ao))) (Ac (Ai 5 (Cq CJ Bm (pv 0) (Aa Ah Ab))) (Ad (Ak (Sy (HY Bh (Cq CJ Bm (pv 0) (Aa Ah Ab)) (pv 5) (Al _)) (Xf (HY Bh (Cq CJ Bm (pv 0) (Aa (Ag Ar Ah (pv 1)) Ab)) (Ag Ar Ah (pv 5)) (Al _)))))))))),?_⟩
 symm;exists JS (J4 ?_);refine⟨(by show 3<=sizeLine;decide),fun l3 hl3=>?_⟩;refine fresh hl3 fun H1 s1 t1=>?_;have t1:H1 l3=some (.lst (nm3.map V.str)):=t1;have dk1:=dk.same s1;refine⟨l3,rfl,⟨_,SqL.of t1⟩,JC (xs:=nm3.map V.str) (fun i Z' H'=>Aw H1 H'/\∃v3,Z'=[some (.ref x),some (.str (sW (nW d))),some (.str (sW (nW k))),v3,none,none]) ⟨Aw.refl _,_,rfl⟩ ?_ ?_ ?_⟩
 ·rintro i Z' H' _ ⟨s,_⟩;exact SqL.of (s _ _ t1)
 ·rintro i v Z' H' hx ⟨sH,v3,rfl⟩;rw[qq] at hx;obtain⟨w,hw,rfl⟩:=ui.mp hx;obtain⟨w,a,rfl,A⟩:=vD (xb hw);have dk2:=dk1.same sH;obtain⟨dx2,_,_,_,hx2,_⟩:=id dk2.ex;symm;exists⟨x,dx2,_,rfl,hx2,rfl,?_⟩;have Z:=(Lg.s w A.l).aps " long ";exists⟨_,_,rfl,rfl,Z.le,?_⟩;have Z:=Z.ap (.w (nW d) (Dl sd));exists⟨_,_,rfl,rfl,Z.le,?_⟩;refine⟨x,g,true,j,m,.ask nL (a d),xy (fun z=>[V.ref x,V.str z]) (Z.eq (A.e d)),A.k TF sd,dk2,hj,sm,A.n d,p,T.mp,fun H3 s3=>?_⟩;have dk3:=dk2.same s3;obtain⟨dx3,_,_,_,hx3,_⟩:=id dk3.ex;symm;exists⟨x,dx3,_,rfl,hx3,rfl,?_⟩;have Z:=(Lg.s w A.l).aps " short ";exists⟨_,_,rfl,rfl,Z.le,?_⟩;have Z:=Z.ap (.w (nW d) (Dl sd));exists⟨_,_,rfl,rfl,Z.le,?_⟩;exists⟨x,g,true,j,m,.ask nS (a d),xy (fun z=>[V.ref x,V.str z]) (Z.eq (A.e d)),A.k jD sd,dk3,hj,sm,A.n d,q',T.mq,fun H4 s4=>?_⟩;exists GK (by rw[T.ans]) ?_;exact⟨sH.trans (s3.trans s4),_,rfl⟩
 rintro Z' H' ⟨sH,v3,rfl⟩;have dk1:=dk1.same sH;have s1:=s1.trans sH;clear sH t1 hl3;symm;have Z:=(Lg.s " ").ap (.w (nW d) (Dl sd));exists⟨_,_,rfl,rfl,Z.le,?_⟩;have Z:=Z.aps " ";exists⟨_,_,rfl,rfl,Z.le,?_⟩;have Z:=Z.ap (.w (nW k) (Dl sk));refine⟨_,_,rfl,rfl,Z.le,?_⟩;rw[Z.eq rfl];have ZT:=Lg.w _ Z.l;clear Z;symm;exists JS (J4 ?_);refine⟨(by show 2<=sizeLine;decide),fun l2 hl2=>?_⟩;refine fresh hl2 fun H5 s5 t5=>?_;have t5:H5 l2=some (.lst (nm2.map V.str)):=t5;have dk5:=dk1.same s5;refine⟨l2,rfl,⟨_,SqL.of t5⟩,JC (xs:=nm2.map V.str) (fun i Z' H'=>Aw H5 H'/\∃v3,Z'=[some (.ref x),some (.str (sW (nW d))),some (.str (sW (nW k))),v3,some (.str (sW (sg " "++nW d++sg " "++nW k))),none]) ⟨Aw.refl _,_,rfl⟩ ?_ ?_ ?_⟩
 ·rintro i Z' H' _ ⟨s,_⟩;exact SqL.of (s _ _ t5)
 ·rintro i v Z' H' hx ⟨sH,v3,rfl⟩;rw[qq] at hx;obtain⟨w,hw,rfl⟩:=ui.mp hx;obtain⟨w,a,rfl,A⟩:=vG (xb hw);have dk2:=dk5.same sH;obtain⟨dx2,_,_,_,hx2,_⟩:=id dk2.ex;symm;exists⟨x,dx2,_,rfl,hx2,rfl,?_⟩;have Z:=(Lg.s w A.l).aps " long";exists⟨_,_,rfl,rfl,Z.le,?_⟩;have Z:=Z.ap ZT;exists⟨_,_,rfl,rfl,Z.le,?_⟩;refine⟨x,g,true,j,m,.ask nL (a d k),xy (fun z=>[V.ref x,V.str z]) (Z.eq (A.e d k)),A.k TF sd sk,dk2,hj,sm,fun _ _ e=>A.n d k _ _ e k0,p,T.mp,fun H3 s3=>?_⟩;have dk3:=dk2.same s3;obtain⟨dx3,_,_,_,hx3,_⟩:=id dk3.ex;symm;exists⟨x,dx3,_,rfl,hx3,rfl,?_⟩;have Z:=(Lg.s w A.l).aps " short";exists⟨_,_,rfl,rfl,Z.le,?_⟩;have Z:=Z.ap ZT;exists⟨_,_,rfl,rfl,Z.le,?_⟩;exists⟨x,g,true,j,m,.ask nS (a d k),xy (fun z=>[V.ref x,V.str z]) (Z.eq (A.e d k)),A.k jD sd sk,dk3,hj,sm,fun _ _ e=>A.n d k _ _ e k0,q',T.mq,fun H4 s4=>?_⟩;exists GK (by rw[T.ans]) ?_;exact⟨sH.trans (s3.trans s4),_,rfl⟩
 rintro Z' H' ⟨sH,v3,rfl⟩;have dk6:=dk5.same sH;have s6:=s1.trans (s5.trans sH);symm;refine JR dk6 rG (JV rfl TF) sm ⟨p,T.mp,fun z1 c1 H7 s7 L1=>?_⟩ hj;obtain⟨rfl,rfl⟩:=L1.one T.lp T.p0;have dk7:=dk6.same s7;symm;refine JR dk7 ACs (JV rfl jD) sm ⟨q',T.mq,fun z2 c2 H8 s8 Lb=>?_⟩ hj;obtain⟨rfl,rfl⟩:=Lb.one T.lq T.q0;have dk8:=dk7.same s8;obtain⟨dx8,_,_,_,hx8,_⟩:=id dk8.ex;symm;exists Hc rfl ?_;exists⟨x,dx8,_,rfl,hx8,rfl,?_⟩;have Z:=(Lg.s "same long short ").ap (.w (nW d) (Dl sd));exists⟨_,_,rfl,rfl,Z.le,?_⟩;refine⟨x,g,true,j,m,.same nL nS d,xy (fun z=>[V.ref x,V.str z]) (Z.eq (ADv d)),uJ TF jD sd,dk8,hj,sm,p,q',z2,c2,T.mp,T.mq,T.p1,T.q1,T.lp,T.lq,fun H9 s9=>?_⟩;have zs:Sm ((z2:Nat):Int):=by
  have:=T.lp.dv;have a:=T.p0;have b:=T.p1;have:=kx ⋯ this;exact Fd ⋯ ⋯
 symm;have Z:=(Lg.s "same ").ap (.w (nW (z2:Int)) (Dl zs));refine⟨_,_,rfl,rfl,Z.le,?_⟩;rw[Z.eq rfl];symm;rw[decide_eq_true rfl];exact q _ (s6.trans (s7.trans (s8.trans s9)))
theorem zN:CZ ["_law_script","_law_cell","_law_first","_law_second","_law_a","_law_desk","_law_row","_law_shown","_law_text_here","_law_day","_law_number"] ["_law_script"] (Az dq):=by walk_at"s"
theorem z9(F:Fun K "law" "law" dq f fd):F0 136 f fd ["_law_script"] (dj K):=by
 refine F.ok (k:=135) zN (fun h=>?_) fun nd H vs Q E hr h=>?_
 ·obtain⟨a,ns,rfl,_⟩:=h;rfl
 obtain⟨a,ns,rfl,hS,h63,hB,q⟩:=h;refine⟨_,(Ac (Ai 1 (Af Dq (Aa (pv 0) (Aa Ae Ab)))) (iw (uq (j:=none) 2 Bl (Ag Bv (pv 1) Ae)) (Ck (PS.p (Ai 3 (Ag Bl Ae (Ag Bv (Ag Bp (pv 1) Ae) Ae)))) (Ck (PS.p (Ai 4 (Ag Bv (Ag Bp (pv 1) Ae) Ae))) (Ck (PS.p (Ai 5 (Sv Q0 (hr.mono nofun) rfl))) (Ck (PS.p (Ai 6 (Ag Ar (Ag Ar (Ag Ar (Ag Ar (Ag Ar Ah (Bu Bq rfl GJ xo (Aa (Ag Bv (Ag Bp (pv 1) Ae) (Ag JT Ae Ae)) Ab))) Ah) (Bu Bq rfl GJ xo (Aa (pv 2) Ab))) Ah) (Bu Bq rfl GJ xo (Aa (pv 3) Ab))))) (Ck (PS.p (Ai 6 (Ag Ar (Ag Ar (Ag Ar (Ag Ar (Ag Ar (pv 6) Ah) (Bu Bq rfl GJ xo (Aa (pv 4) Ab))) Ah) (Bu Bq rfl GJ xo (Aa (Ag Bv (Ag Bp (pv 1) Ae) Ae) Ab))) Ah))) (Ck (PS.p (Ay (PW.pt (Gk (Aj FQ (Cq CJ Bm (pv 5) (Aa (pv 6) Ab)) Ah (Al _)) (FJ (Aj FQ (Cq CJ Bm (pv 5) (Aa (Ag Ar Ah (Af aC (Aa (pv 0) (Aa (Ag Bl (Ag Cd Ae (Ag Bl (pv 2) (pv 3))) (pv 4)) Ab)))) Ab)) Ah (Al _))))) (Ad (Ak M8)) Ao)) (Ck (PS.p (Ai 7 (Cq CJ Bm (pv 5) (Aa Ah Ab)))) (Ck (PS.p (Ai 8 (Cq CJ Bm (pv 5) (Aa Ah Ab)))) (Ck (PS.p (Ay (PW.pt (Gk (Aj FQ (Cq CJ Bm (pv 5) (Aa Ah Ab)) (pv 7) (Al _)) (FJ (Aj FQ (Cq CJ Bm (pv 5) (Aa Ah Ab)) (pv 8) (Al _))))) (Ad (Ak M8)) Ao)) (Ck (oK (PWp.pt (zc (PT.p (Aj FQ (Cq CJ Bm (pv 5) (Aa (Ag Ar Ah (pv 8)) Ab)) Ah (Al _))) (ue (ZR Ew (M6 HB (PE.p (pv 8))) (M6 HB (PE.p (pv 7))) (Al _))))) (Ad (Ak M8)) Ao) (Ck (PS.p (Ai 9 (Bu Bq rfl GJ xo (Aa (Ag Cy (Ag Bv (Af Dq (Aa (pv 0) (Aa Ae Ab))) (Ag JT Ae Ae)) (Ag Cd Ae (Ag JT Ae Ae))) Ab)))) (Ck (PS.p (Ai 10 (Bu Bq rfl GJ xo (Aa (Ag Bl Ae (Ag Bv (Af Dq (Aa (pv 0) (Aa Ae Ab))) (Ag JT Ae Ae))) Ab)))) (Ck (PS.p (Ay (PW.pt (Gk (Hl (Fg (Af Nm (Aa (pv 5) (Aa (pv 9) (Aa (pv 10) Ab)))))) (FJ (Hl (Fg (Af Nm (Aa (pv 5) (Aa (Cq CJ Bm (pv 5) (Aa Ah Ab)) (Aa (Ag Ar Ah (pv 10)) Ab))))))))) (Ad (Ak M8)) Ao)) (Ck (uo (oK (PWp.pt (uf (PT.p (Aj Bh (Cq CJ Bm (pv 5) (Aa Ah Ab)) Ah (Al _))) (oJ (ZR FQ (M6 HB (PE.p (pv 8))) (PE.p Ae) (Al _))))) (Ad (Ak M8)) Ao)) (ZV (uh (oX Jo (M6 HB (PE.p (Cq CJ Bm (pv 5) (Aa Ah Ab)))) (M6 HB (PE.p (pv 8))) (Al _)))))))))))))))))))),?_⟩
 symm;generalize ns.getD (0:Int).toNat 0=cell;have ss:Sm (cell/108%10000000000000000000000000000000000000000):=Fd ⋯ ⋯;have sf:Sm (1+cell%6):=Fd ⋯ ⋯;have sg':Sm (1+cell/6%6):=Fd ⋯ ⋯;have sa:Sm (cell/36%3):=Fd ⋯ ⋯;have sb:Sm (cell/36%2):=Fd ⋯ ⋯;obtain⟨g,hg⟩:∃g:Bg,g=⟨cell/108%10000000000000000000000000000000000000000,1+cell%6,1+cell/6%6,cell/36%3,cell/36%2⟩:=⟨_,rfl⟩;have sm:SmC g:=by
  subst hg;constructor<;>simp only[]<;>lia
 have hD:2*(1+cell%6+(1+cell/6%6))+cell/36%3=g.D:=by subst hg;rfl
 intro x dx fx fd' ne';exists⟨H,x,dx,g,rfl,fx,fd',ne',rfl,fun H3 h3 dk=>⟨rfl,?_⟩⟩;rw[p40];refine⟨_,rfl,Ez ss,?_⟩;have Z:=(Lg.s "calendar sun sun ").ap (.n ss);exists⟨_,_,rfl,rfl,Z.le,?_⟩;have Z:=Z.aps " ";exists⟨_,_,rfl,rfl,Z.le,?_⟩;refine⟨_,rfl,Ez sf,?_⟩;have Z:=Z.ap (.n sf);exists⟨_,_,rfl,rfl,Z.le,?_⟩;have Z:=Z.aps ",";exists⟨_,_,rfl,rfl,Z.le,?_⟩;refine⟨_,rfl,Ez sg',?_⟩;have Z:=Z.ap (.n sg');exists⟨_,_,rfl,rfl,Z.le,?_⟩;have Z:=Z.aps " leap 2 +";exists⟨_,_,rfl,rfl,Z.le,?_⟩;refine⟨_,rfl,Ez sa,?_⟩;have Z:=Z.ap (.n sa);exists⟨_,_,rfl,rfl,Z.le,?_⟩;have Z:=Z.aps ",";exists⟨_,_,rfl,rfl,Z.le,?_⟩;refine⟨_,rfl,Ez sb,?_⟩;have Z:=Z.ap (.n sb);exists⟨_,_,rfl,rfl,Z.le,?_⟩;have Z:=Z.aps ",2";refine⟨_,_,rfl,rfl,Z.le,?_⟩;have eR:=Z.eq (ACu _ _ _ _ _).symm;rw[<-hg] at eR;clear Z hg;symm;obtain⟨dx3,_,_,_,hx3,_⟩:=id dk.ex;exists⟨x,dx3,_,rfl,hx3,rfl,?_⟩;refine⟨x,g,false,0,_,.cal g,xy (fun z=>[V.ref x,V.str z]) eR,AAv sm,dk,nofun,sm,rfl,rfl,fun H4 k4 dk4=>?_⟩;have hS4:SqL K H4 a (ns.map V.int):=SqL.kd k4 (h3.seq hS);have D1:=sm.d;symm;exists GK rfl ?_;obtain⟨dx4,_,_,_,hx4,_⟩:=id dk4.ex;exists⟨x,dx4,_,rfl,hx4,rfl,?_⟩;exists Sh ?_;rw[hD];refine⟨a,ns,g,rfl,hS4,h63,sm,fun p H5 s5 fp psz=>?_⟩;have Z:=(Lg.s "rule long ").ap (.w p.tx fp.tl);exists⟨_,_,rfl,rfl,Z.le,?_⟩;refine⟨x,g,true,0,_,.rule nL p,xy (fun z=>[V.ref x,V.str z]) (Z.eq (ADx p)),du TF fp,dk4.same s5,nofun,sm,rfl,fp,fun H6 k6 dk6=>?_⟩;have okP:=PT.nrm_ok fp.ok;have knP:=PT.nrm_kn fp.kn;have nrP:=PT.nrm_nrm p;have mnP:p.nrm.lv+p.nrm.br<=40:=by
  obtain⟨_,e1,e2⟩:=PT.nrm_same p;rw[e1,e2];exact fp.mn
 have szP:p.nrm.sz g<=120:=by rw[PT.sz_nrm];exact psz
 generalize p.nrm=P at dk6 okP knP nrP mnP szP;have P0:=PT.sz_pos sm okP;have mL:setM (fun _=>none) nL P nL=some P:=xz rfl;generalize setM (fun _=>none) nL P=m at dk6 mL;have hS6:SqL K H6 a (ns.map V.int):=SqL.kd k6 (s5.seq hS4);symm;exists GK rfl ?_;refine JR dk6 xu (JV rfl TF) sm ⟨P,mL,okP,mnP,fun H7 s7=>?_⟩;have dk7:=dk6.same s7;symm;refine JR dk7 xx (JV rfl TF) sm ⟨P,mL,okP,mnP,⋯,fun S H8 s8 O=>?_⟩;obtain⟨z,c,F⟩:=O.s.full sm ⋯ okP knP nrP;have dk8:=dk7.same s8;symm;refine JR dk8 xu (JV rfl TF) sm ⟨P,mL,okP,mnP,fun H9 s9=>?_⟩;have dk9:=dk8.same s9;symm;exists GK rfl ?_;refine JR dk9 xx (JV rfl TF) sm ⟨P,mL,okP,mnP,⋯,fun S' H10 s10 O'=>?_⟩;obtain rfl:=Shr.uniq P0 O.s O'.s;have dk10:=dk9.same s10;have hS10:=(s7.trans (s8.trans (s9.trans s10))).seq hS6;symm;refine GK rfl ?_;obtain⟨dxa,_,_,_,hxa,_⟩:=id dk10.ex;symm;exists⟨x,dxa,_,rfl,hxa,rfl,?_⟩;have S1:=F.s1;have S0:=F.s0;have M1:=F.mn;have fS:S.fine g:=⟨F.ok,F.kn,⋯,⋯⟩;have Z:=(Lg.s "rule short ").ap (.w S.tx fS.tl);exists⟨_,_,rfl,rfl,Z.le,?_⟩;refine⟨x,g,true,1,m,.rule nS S,xy (fun z=>[V.ref x,V.str z]) (Z.eq (ADw S)),du jD fS,dk10,nofun,sm,rfl,fS,fun H11 k11 dk11=>?_⟩;rw[F.nr] at dk11;have T:Two g (setM m nS S) P S z c:=⟨(yb ∅).trans mL,xz rfl,P0,⋯,S0,⋯,F.lp,F.lq⟩;have hS11:=SqL.kd k11 hS10;generalize setM m nS S=m' at dk11 T;symm;refine GK rfl ?_;exists J6 ?_;refine⟨S,rfl,F.ok,F.kn,⋯,fun H12 s12=>?_⟩;exists J6 ?_;refine⟨P,rfl,okP,knP,mnP,fun H13 s13=>?_⟩;have dk13:=dk11.same (s12.trans s13);have hS13:=(s12.trans s13).seq hS11;symm;exists CK ⋯ ?_;rw[p40,p39];exists Dj ⟨64,200,Ca ⋯ ⋯ nofun,bt_of ⋯ ⋯,nofun⟩ ?_;obtain⟨day,hday⟩:∃day,ns.getD (1:Int).toNat 0%10000000000000000000000000000000000000000-5*1000000000000000000000000000000000000000=day:=⟨_,rfl⟩;rw[hday];have sd:Sm day:=Fd ⋯ ⋯;clear hday;exists⟨_,rfl,Ez sd,?_⟩;rw[p40];symm;obtain⟨num,hnum⟩:∃num,1+ns.getD (2:Int).toNat 0%10000000000000000000000000000000000000000=num:=⟨_,rfl⟩;rw[hnum];have k0:1<=num:=⋯;have sk:Sm num:=by show _<10^45;lia
 have sk':Sm (-num):=by show _<10^45;lia
 clear hnum;exists⟨_,rfl,Ez sk,?_⟩;have tx:∀i:Int,V.str (Cr i)=V.str (sW (nW i)):=fun i=>xy V.str (Gb _).symm;refine⟨x,g,2,m',P,S,z,c,day,num,by show[V.ref x,V.str (Cr day),V.str (Cr num)]=_;rw[tx,tx],sd,sk,⋯,dk13,nofun,sm,T,fun H14 s14=>?_⟩;have dk14:=dk13.same s14;have zs:Sm ((z:Nat):Int):=by
  have:=Lst.sz1 F.lp ⋯;exact Fd ⋯ ⋯
 symm;exists Eg ?_;refine JR dk14 rG (JV rfl TF) sm ⟨P,T.mp,fun z1 c1 H15 s15 L1=>?_⟩;obtain⟨rfl,rfl⟩:=F.lp.one L1 P0;have dk15:=dk14.same s15;symm;have Z:=(Lg.s "-").ap (.n sk);exists⟨_,_,rfl,rfl,Z.le,?_⟩;refine⟨x,g,2,m',P,S,z,c,(z:Int),-num,xy (fun u=>[V.ref x,V.str (sW (nW (z:Int))),V.str u]) (Z.eq (AAQ k0)),zs,sk',⋯,dk15,nofun,sm,T,fun H16 s16=>?_⟩;have dk16:=dk15.same s16;symm;exists Eg ?_;refine De (fun Z' H'=>Aw H16 H'/\Ex8 fun v1 v2 v3 v4 v5 v6 v7 v8=>Z'=[v1,v2,v3,v4,v5,some (.ref x),v6,some (.str (sW P.tx)),some (.str (sW S.tx)),v7,v8]) ?_ ?_
 ·symm;refine JR dk16 rG (JV rfl TF) sm ⟨P,T.mp,fun z1 c1 H17 s17 L1=>?_⟩;obtain⟨rfl,rfl⟩:=F.lp.one L1 P0;symm;refine Bs (fun e=>?_) (fun e=>?_)
  ·exists J6 ?_;exists⟨S,rfl,F.ok,F.kn,⋯,fun H18 s18=>?_⟩;refine GK (by rw[F.one ((AAP zs).mp e)];rfl) ?_;symm;exact⟨s17.trans s18,_,_,_,_,_,_,_,_,rfl⟩
  ·exists Eg ?_;exact⟨s17,_,_,_,_,_,_,_,_,rfl⟩
 rintro Z' H19 ⟨s19,v1,v2,v3,v4,v5,v6,v7,v8,rfl⟩;have dk19:=dk16.same s19;symm;exists J6 ?_;refine JR dk19 ACt (JV rfl jD) sm ⟨S,T.mq,F.ok,⋯,⋯,fun R H20 s20 O=>?_⟩;obtain⟨z2,c2,G⟩:=O.s.full sm ⋯ F.ok F.kn F.nr;have M2:=G.mn;symm;refine⟨R,rfl,G.ok,G.kn,⋯,fun H21 s21=>?_⟩;exists J6 ?_;exists⟨S,rfl,F.ok,F.kn,⋯,fun H22 s22=>?_⟩;rw[decide_eq_true ⋯];exact q _
end
theorem ABN{w:World}{h:Heap}{mg:Str->Option Value}{fa:Addr}(X:(Hd.K w.params).In h)(G:h.Ns mainGlobals mg)(hfa:mg "law"=some (.ref fa))(Q:FnG (Hd.K w.params) "law" "law" "law" dq):
 ∃fd:FuncData,(∀(s:Shared) (v:Value),BindsTo s fd ⟨[v],[]⟩ [("_law_script",v)])/\∀base:Heap,(Hd.K w.params).In base->base.Ns mainGlobals mg->Ei PySem.Challenge.rw_feastwheel_k96_whole_put_shorter.prog w (Hd.K w.params) mg base CX0 136 fa fd ["_law_script"] (dj (Hd.K w.params)):=by
 obtain⟨f,fd,a,F⟩:=Q;have e:=hfa.symm.trans (jg1 X G a);cases e;refine⟨fd,?_,fun base X2 G2=>?_⟩
 ·obtain⟨_,_,_,_,_,_,_,_,_,rfl,_,_⟩:=F.ex;exact fun s v=>.of_eq rfl
 exact jr5 fun hn=>have z:=jm4 (p:=fun d=>Gi d/\¬Ok d) ⟨⟨w,mg,base⟩,⟨X2,G2⟩,fun c=>hn (c F)⟩;z.2 fun F=>(haveI:Giv:=⟨z.1.X,z.1.G⟩;z9 F)
end Fw
open PySem PySem.W PyProof.Rows
set_option maxRecDepth 100000 in
set_option maxHeartbeats 0 in
theorem PySem.Challenge.cw_feastwheel_k96_whole_put_shorter_holds : PySem.Challenge.rw_feastwheel_k96_whole_put_shorter.Holds := by
 refine Hd.ws fun said=>Hd.op said ?_;delta Hd.hk;k_fill;refine L2.lK (l:=PySem.Challenge.rw_feastwheel_k96_whole_put_shorter) (k:=136) rfl rfl ⟨rfl,nofun,nofun,rfl⟩ (fun w h Y=>PySem.W.kIn_of Y) ?F
 case F=>
  intro w mg fa h KX G hmg;exact Fw.ABN KX G hmg (by refine' L2.qW ?_ ?_ ?_ ?_<;>first | k_is | skip)
#print axioms PySem.Challenge.cw_feastwheel_k96_whole_put_shorter_holds
