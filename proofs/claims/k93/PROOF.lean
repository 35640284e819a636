import PyProof.Rows.All
import Wide.All
import KE.KNestM
import KE.RegKIsAll
import OpenK.KOwn
import OpenK.KLine
import Wide.FinOn
import Open.Tops
import Lean
import PyProof.EqAt
import PyProof.EqKinds
import PyProof.TupleCall
import KE.KEqDict
import KE.KDictOf
import KE.KItem
import KE.IntBitsLaws
import KE.KEqSeq
import KE.KIntText
import KE.IntTextLaws
import PySem.Challenge.RW_feastwheel_k93_whole_the_same_for_ever
set_option Elab.async false
set_option linter.all false
set_option compiler.extract_closed false
set_option bootstrap.genMatcherCode false
set_option genSizeOf false
open Lean in
local macro_rules | `(command| #print $s:str) => do
  let mut xs := #[]
  for g in s.getString.splitOn ";" do
    let l := g.splitOn " "
    let mut n := 0
    for d in l.tail! do
      n := n + d.toNat!
      xs := xs.push (mkIdent (.mkSimple s!"tw{hash (Name.mkStr2 "sh" s!"{l.head!}_{n}")}"))
  return mkNullNode (← xs.mapM fun x => `(command| theorem $x:ident : True := ⟨⟩))
open Lean in
local macro_rules | `(tactic| walk_at $s:str) => do
  let k := s.getString
  unless k == "K" || k == "A" do Macro.throwUnsupported
  let mut r := #[]
  let mut e := 0
  let mut d : Int := 0
  for x in "3.1928 11.-1936 6.0.2 0.195 0.-195 2.4 6.0.3 2.4 6.0 1.0.2 1.0.5 2.4 6.0.3 2.4 6.0 1.0.2 1.0.5 2.4 6.0 1.0.2 1.0.5 2.4 6.0.3 2.4 6.0.3 2.4 6.0.3 2.4 6.0.3 2.4 6.0 1.0.2 1.0.5 2.4 6.0.3 2.0 2.0.3 1.0.2 1.0.3 2.0.3 1.0.2 1.0.2 7.3 1.0.2 1.0.2 29.0 1.0.2 1.0.3 1.0.2 1.0.3 1.0.2 1.0.3 1.0.2 1.0.2 14.3 1.0.2 1.0.3 1.0.2 1.0.3 2.0.3 1.0.2 1.0.3 1.0.2 1.0.3 1.0.2 1.0.3 1.0.2 1.0.3 1.0.2 1.0.3 1.0.2 1.0.3 1.0.2 1.0.2 0.3 1.0.2 1.0.3 1.0.2 1.0.3 1.0.2 1.0.3 1.0.2 1.0.3 1.0.2 1.0.3 1.0.2 1.0.3 1.0.2 1.0.3 1.0.2 1.0.3 1.0.2 1.0.2 7.0 1.0.2 1.0.3 1.0.2 1.0.2 0.3 1.0.2 1.0.2 14.0 1.0.2 1.0.3 2.0.3 1.0.2 1.0.3 2.0.3 2.0.3 1.0.2 1.0.2 7.3.2 1.0.2 1.0.3 2.0.3 1.0.2 1.0.3 1.0.2 1.0.3 1.0.2 1.0.7 9.3 1.0.2 1.0.3 1.0.2 1.0.4 0.189 0.-189.2 12.0 1.0.2 1.0.2 0.4 6.0.2 1.0.2 1.0.3 1.0.2 1.0.3 1.0.2 1.0.3 1.0.2 1.0.3 1.0.2 1.0.3 2.0.5 2.3 1.0.2 1.0.2 0.4 6.0 1.0.2 1.0.3 1.0.2 1.0.3 1.0.2 1.0.3 2.0.3 1.0.2 1.0.3 1.0.2 1.0.5 2.3 2.0.3 1.0.2 1.0.3 2.0.3 1.0.2 1.0.3 1.0.2 1.0.3 1.0.2 1.0.2 0.4 6.0 1.0.2 1.0.3 1.0.2 1.0.3 1.0.2 1.0.3 1.0.2 1.0.5 9.3 1.0.2 1.0.3 1.0.2 1.0.2 35.0 1.0.2 1.0.3 1.0.2 1.0.3 1.0.2 1.0.4 1.0.2 1.0.2 0.3 1.0.2 1.0.3 1.0.2 1.0.3 1.0.2 1.0.3 1.0.2 1.0.3 2.0.3 1.0.2 1.0.3 1.0.2 1.0.3 2.0.2 7.3.2 1.0.2 1.0.3 1.0.2 1.0.3 1.0.2 1.0.3 1.0.2 1.0.3 1.0.2 1.0.3 1.0.2 1.0.4 0.375 0.-375.2 2.4 6.0 1.0.2 1.0.5 2.4 6.0 1.0.2 1.0.5 2.0 1.0.2 1.0.2 0.4 6.0 1.0.2 1.0.5 2.0 1.0.2 1.0.3 1.0.2 1.0.2 0.4 6.0.2 1.0.2 1.0.5 2.4 6.0 1.0.2 1.0.5 2.4 6.0 1.0.2 1.0.5 2.4 6.0 1.0.2 1.0.5 2.4 6.0 1.0.2 1.0.5 2.4 6.0 1.0.2 1.0.5 2.4 6.0 1.0.2 1.0.5 2.4 6.0 1.0.2 1.0.5 2.4 6.0 1.0.2 1.0.5 2.4 6.0 1.0.2 1.0.5 2.4 6.0 1.0.2 1.0.5 2.4 6.0 1.0.2 1.0.5 2.4 6.0 1.0.2 1.0.5 2.0 7.3 1.0.2 1.0.3 1.0.2 1.0.3 1.0.2 1.0.7 2.0 1.0.2 1.0.3 1.0.2 1.0.3 1.0.2 1.0.2 0.3 1.0.2 1.0.3 1.0.2 1.0.3 1.0.2 1.0.3 1.0.2 1.0.3 1.0.2 1.0.3 1.0.2 1.0.3 1.0.2 1.0.3 1.0.2 1.0.3 1.0.2 1.0.3 1.0.2 1.0.3 1.0.2 1.0.3 1.0.2 1.0.2 19.6.18 1.0.2 1.0.2 1.0.2 0.5 1.0.2 1.0.3 1.0.2 1.0.3 1.0.2 1.0.2 7.0 1.0.2 1.0.3 1.0.2 1.0.3 1.0.2 1.0.3 1.0.2 1.0.3 1.0.2 1.0.3 1.0.2 1.0.3 1.0.2 1.0.3 1.0.2 1.0.3 1.0.2 1.0.2 0.3 1.0.2 1.0.3 1.0.2 1.0.3 1.0.2 1.0.4 1.0.2 1.0.3 1.0.2 1.0.2 0.5 1.0.2 1.0.3 2.0.3 1.0.2 1.0.2 7.0 1.0.2 1.0.3 2.0.7 2.0 1.0.2 1.0.2 0.3 1.0.2 1.0.3 1.0.2 1.0.3 2.0.3 1.0.2 1.0.3 1.0.2 1.0.3 1.0.2 1.0.3 1.0.2 1.0.3 1.0.2 1.0.3 1.0.2 1.0.3 1.0.2 1.0.3 1.0.2 1.0.3 1.0.2 1.0.2 0.3 1.0.2 1.0.3 1.0.2 1.0.3 2.0.2".splitOn " " do
    let y := (x.splitOn ".").map (·.toInt!)
    e := e + y[0]!.toNat
    d := d + y[1]!
    for _ in [0:(y.getD 2 1).toNat] do
      r := r.push (Syntax.mkNumLit (toString e), mkIdent (.mkSimple s!"o_{e + d}"))
      e := e + 1
  if k == "A" then `(tactic| exact [$(r.map (·.1)),*])
  else `(tactic| exact $(<- r.foldrM (fun p z => `((nat_lit $(p.1), $(p.2) $(mkIdent `P)) :: $z)) (<- `([]))))
namespace PySem.W.Fast
#print "tree 4 15 16 23 16 23 23 16 16 16 16 23 40 81 78 87 60 51 48 57 10 56 41 51 81 55 60 23 30 37 24 23 23 23 23 23 23 23 23 23 23 23 24 59 87 22 30 96 39 57 85 22;o 3 2 4 3 3 1 5 2 3 3 3 1 4 2 3 3 4 2 1 1 2 1 4 2 3 3 3 1 4 2 3 3 6 1 1 2 1 4 2 3 3 4 2 1 1 2 1 4 2 3 3 3 1 4 2 3 3 3 1 4 2 3 3 3 1 4 2 3 3 3 1 4 2 3 3 6 1 1 2 1 4 2 3 3 3 1 2 3 1 1 5 1 1 3 1 1 5 1 1 2 4 2 1 1 5 1 1 5 1 1 3 2 1 1 3 1 1 3 1 1 3 1 1 5 1 1 5 1 1 3 2 1 1 5 1 1 3 2 1 1 2 4 2 1 1 5 1 1 3 2 1 1 3 1 1 5 1 1 5 1 1 3 2 1 1 5 1 1 3 2 1 1 5 1 1 3 2 1 1 2 4 2 1 1 3 2 1 1 3 2 1 1 3 2 1 1 5 1 1 5 1 1 3 2 1 1 3 2 1 1 3 2 1 1 3 2 1 1 3 2 1 1 3 2 1 1 2 4 2 1 1 3 2 1 1 3 2 1 1 5 1 1 3 1 1 5 1 1 3 1 1 3 1 1 3 2 1 1 2 4 3 5 2 1 1 3 1 1 5 1 1 5 1 1 3 2 1 1 1 1 1 1 5 4 3 4 2 1 1 3 2 1 1 2 1 1 6 1 1 3 1 1 5 1 1 2 2 3 3 5 2 1 1 5 1 1 5 1 1 3 2 1 1 5 1 1 3 1 1 1 1 1 4 6 1 1 2 2 3 3 4 2 1 1 5 1 1 5 1 1 3 1 1 3 2 1 1 3 2 1 1 1 1 1 4 4 1 1 3 2 1 1 3 1 1 3 2 1 1 3 2 1 1 5 1 1 2 2 3 3 4 2 1 1 3 2 1 1 5 1 1 5 1 1 1 1 1 5 2 1 1 2 4 2 1 1 3 2 1 1 3 2 1 1 3 2 1 1 3 2 1 1 3 2 1 1 3 2 1 1 3 2 1 1 3 2 1 1 3 2 1 1 4 2 1 1 2 4 2 1 1 3 2 1 1 3 2 1 1 3 2 1 1 3 1 1 3 2 1 1 3 2 1 1 3 1 1 2 4 3 5 2 1 1 5 1 1 5 1 1 5 1 1 3 2 1 1 3 2 1 1 1 1 1 1 5 2 3 3 6 1 1 2 1 4 2 3 3 6 1 1 2 1 5 2 1 1 2 2 3 3 4 2 1 1 2 1 7 1 1 3 2 1 1 2 2 3 3 5 2 1 1 2 1 4 2 3 3 6 1 1 2 1 4 2 3 3 4 2 1 1 2 1 4 2 3 3 4 2 1 1 2 1 4 2 3 3 4 2 1 1 2 1 4 2 3 3 4 2 1 1 2 1 4 2 3 3 4 2 1 1 2 1 4 2 3 3 4 2 1 1 2 1 4 2 3 3 4 2 1 1 2 1 4 2 3 3 4 2 1 1 2 1 4 2 3 3 4 2 1 1 2 1 4 2 3 3 4 2 1 1 2 1 4 2 3 3 4 2 1 1 2 1 3 2 4 3 6 1 1 5 1 1 5 1 1 1 1 1 1 6 2 1 1 5 1 1 5 1 1 2 6 1 1 5 1 1 3 2 1 1 3 2 1 1 3 2 1 1 3 2 1 1 5 1 1 3 2 1 1 3 2 1 1 3 2 1 1 3 2 1 1 3 2 1 1 2 6 1 1 5 1 1 3 1 1 2 2 1 1 4 2 2 1 2 1 1 4 5 1 1 4 6 1 1 5 1 1 5 1 1 5 1 1 5 1 1 5 1 1 5 1 1 5 1 1 5 1 1 3 2 1 1 3 2 1 1 5 1 1 5 1 1 2 6 1 1 5 1 1 5 1 1 1 3 2 1 1 5 1 1 4 4 2 1 1 3 1 1 3 2 1 1 3 3 6 1 1 3 1 1 2 1 1 1 7 1 1 2 4 2 1 1 3 2 1 1 3 1 1 3 2 1 1 3 2 1 1 5 1 1 3 2 1 1 3 2 1 1 5 1 1 3 2 1 1 3 2 1 1 3 2 1 1 2 4 2 1 1 3 2 1 1 3 1 1;sts 4 33 23 16 23 87 23 40 81 78 87 60 51 48 57 10 56 41 51 81 55 60 23 30 37 24 23 23 23 23 23 23 23 23 23 23 23 24 59 87 22 32 94 41 55 85"
def tw16783298782268350431:PySem.Program:=PySem.Challenge.pw_feastwheel_k93_whole_the_same_for_ever
theorem te16783298782268350431:PySem.Challenge.pw_feastwheel_k93_whole_the_same_for_ever=tw16783298782268350431:=rfl
end PySem.W.Fast
open PySem PySem.W PyProof.Rows in
set_option maxRecDepth 100000 in
set_option maxHeartbeats 0 in
open_shared sh for PySem.Challenge.pw_feastwheel_k93_whole_the_same_for_ever leaving 0
namespace Hd
open PySem PySem.W PySem.Calls PyProof.Rows sh
set_option maxRecDepth 100000
set_option maxHeartbeats 0
theorem ws(h:PySem.Challenge.rw_feastwheel_k93_whole_the_same_for_ever.row.wellSaid=true->PySem.Challenge.rw_feastwheel_k93_whole_the_same_for_ever.row.Holds):PySem.Challenge.rw_feastwheel_k93_whole_the_same_for_ever.Holds:=by
  w_on; o_law; exact h (by assumption)
noncomputable abbrev pw:Program:=PySem.Challenge.pw_feastwheel_k93_whole_the_same_for_ever
noncomputable def vw:Program:={pw with main:={pw.main with body:=pw.main.body.drop 209}}
noncomputable def lo:List Str:=(["FeastError","NoNumber","TooLong","NoMeasure","NoDate","InGap","NoChange","NoCycle","NoText","NoRule","NoName","NoRow","FIGURES","MOST_FIGURES","LETTERS","MOST_LETTERS","MOST_SIGNS","is_name","is_readable","is_number","read_number","read_place","read_date","place_text","date_text","MOST_ROWS","widest","names_on","almanac","refuse_below_one","divisor","equation","common","met","ahead","LONGEST","PIECE","refuse_too_long","round_by","days_in","on","on_rounds","full_bits","bits_by","stretched","primes_of","comes_again","least","common_size","both","either","unlike","without","other_days","later","folded","next_day","last_day","ones_in","days_ahead","how_many","place_of_one","nth_day","GREATEST_BASE","MOST_TERMS","GREATEST_N","term_on","signs_upto","is_term","least_length","refuse_measure","period_of","Measure","MOST_MONTHS","LONGEST_MONTH","Calendar","term_text","term_words","refuse_months","Sun","refuse_part","Moon","read_numbers","read_term","read_terms","read_sun","read_moon","read_calendar","Change","moved","MOST_PAIRS","first_parted","same","first_of_pairs","first_met","paper_of","meeting","within","refuse_wanted","days_of_month","days_of_year","dated","gathered","upon","until","till","nearer_ahead","near","kth","every","Rule","All","No","each_text","Each","wanted_text","dated_text","Dated","Not","Both","Either","But","Unlike","Later","Upon","Until","Near","Till","Kth","Every","MOST_BRACKETS","PAIR_WORDS","Reader","words_of","take_word","take_number","take_wanted","take_each","take_date","take_numbered","take_every","take_pair","take_within","take_plan","made_date","made_pair","made","read_rule","told_by_one","parts_in","shorter","FORMS","tell_date","tell_day","tell_move","tell_on","day_or_never","tell_next","tell_last","tell_nth","tell_count","tell_size","tell_same","paper_text","tell_meet","tell_within","tell_shorter","tell_show","tell_almanac","ANSWERS","words_of_row","kept_by","looked_up","named_rules","keep","Desk","_law_cell_at","_law_common","_law_moon","_law_calendar","_law_leaf","_law_put","_law_words","_law_by","_law_part","_law_not","_law_by_sets","_law_by_wheels","_law_more_wheels","_law_pair","_law_parted"]:List String).map Str.ofString
noncomputable def bd:List Stmt:=behindTheImports pw
noncomputable def cd:Code:=.body bd sh.env_1
noncomputable def S0(w:World)(os:OsState):Shared:=⟨boot_heap w.params,Array.mk [],boot_drawn,boot_toks,os⟩
noncomputable def tB(w:World)(os:OsState):SharedT:=⟨sh.tree_4 w.params,15,{},Array.mk [],{},187,os⟩
noncomputable def tK(w:World)(os:OsState):SharedT:=⟨sh.tree_1951 w.params,1776,{},Array.mk [],{},2693,os⟩
noncomputable abbrev hK(w:World)(os:OsState):Shared:=(tK w os).abs
noncomputable def xt(s:Shared):Bool:=xlAt vw [] s&&recOk (RowW.records PySem.Challenge.rw_feastwheel_k93_whole_the_same_for_ever.row.toRowW) s
section
variable(w:World)(os:OsState)
theorem pre:topGo treeTable pw w 11 (some (.ref 6)) 12 (S0 w os) (topStub pw)=some ((tB w os).abs,⟨denote treeTable cd,cd,⟨0,0,0,0⟩,[topFrame ⟨0,0,0,0⟩]⟩):=by kernel_rfl
theorem block:segRun treeTable pw w 11 (some (.ref 6)) 1 1 (tB w os).abs (blockOf bd sh.env_1 cd ⟨0,0,0,0⟩ [topFrame ⟨0,0,0,0⟩])=some (.next,(tB w os).abs,cd,⟨0,0,0,0⟩):=by kernel_rfl
theorem fin:topRun treeTable pw w 11 (some (.ref 6)) 2 (tK w os).abs (restOf [] sh.env_1 cd ⟨1167,0,1192,76⟩ [topFrame ⟨0,0,0,0⟩])=some (tK w os).abs:=by kernel_rfl
theorem run:topRun treeTable pw w 11 (some (.ref 6)) 14483 (S0 w os) (topStub pw)=some (tK w os).abs:=go_top (n:=12) (N:=14471) (pre w os) (piece_block (n:=1) (N:=14470) (block w os) (sh.chain pw bd w os [] 2 _ (fin w os)))
theorem siz:((boot_heap w.params).isNs mainGlobals&&(Array.mk []:Array GenState).size==0,(boot_heap w.params).objs.size,(boot_heap w.params).nsMap mainGlobals "__annotations__")=(true,11,some (.ref 6)):=by kernel_rfl
theorem l1:namesBound pw (hK w os).heap=true:=by kernel_rfl
theorem l2:gensDone (hK w os)=true:=by kernel_rfl
theorem l3:laidKept (boot_heap w.params) (hK w os).heap=true:=by kernel_rfl
theorem l0:staticsOk (importedModules pw.main.body) (boot_heap w.params) (hK w os).heap=true:=by kernel_rfl
theorem s1:seen ((recsOf vw).map (·.name)) (ownsOf vw) [] {hK w os with gens:=#[]}=expectedOf vw:=by kernel_rfl
theorem s2:(hK w os).heap.bltView=bltViewBooted:=by kernel_rfl
theorem s3:(hK w os).heap.keysOk (looseW vw lo) ((recsOf vw).map (·.name)) ((litsOf vw).map (·.1)) ((clssOf vw (looseW vw lo)).map (·.name))=true:=by kernel_rfl
theorem s4:(hK w os).heap.accountedOkI (importedModules pw.main.body)=true:=by kernel_rfl
theorem s5:(hK w os).heap.isNs mainGlobals=true:=by kernel_rfl
theorem s6:(hK w os).heap.isNs builtinsNs=true:=by kernel_rfl
theorem s7:tablesOk vw (hK w os).heap=true:=by kernel_rfl
theorem s8:xt (hK w os)=true:=by kernel_rfl
theorem s9:tabsOk vw (hK w os)=true:=by kernel_rfl
theorem t1:pinSeenD vw (drecsOf vw) (hK w os)=pinGoodD (drecsOf vw):=by kernel_rfl
theorem t2:plainSeenE vw (looseW vw lo) (hK w os)=plainGoodE vw (looseW vw lo):=by kernel_rfl
theorem t3:plainSeenD vw lo (hK w os)=plainGoodD vw lo:=by kernel_rfl
theorem t4:wideSeen vw (hK w os)=wideGood vw:=by kernel_rfl
theorem t5:clsSeenW vw lo (hK w os)=clsGoodW vw lo:=by kernel_rfl
end
noncomputable def K(P:Params):Frag:=(nat_lit 2,boot_o_2 P)::(by walk_at"K")
noncomputable def as:List Addr:=2::(by walk_at"A")
theorem mapT{t:BT}{n:Nat}{l:Life}{as:List Addr}(h:(as.all fun a=>Nat.blt a n&&(t.get a).isSome)=true):as.map (absHeap t n l).get?=as.map fun a=>(t.get a).bind alive:=
  List.map_congr_left fun a ha=>by
    have e:=Bool.and_eq_true_iff.mp (List.all_eq_true.mp h a ha);obtain ⟨o,ho⟩:=Option.isSome_iff_exists.mp e.2;rw [abs_get (of_decide_eq_true (by simpa [Nat.blt_eq] using e.1)) ho,ho]; rfl
theorem hy(w:World)(os:OsState):as.map (hK w os).heap.get?=(K w.params).map fun p=>some p.2:=(mapT (t:=sh.tree_1951 w.params) (n:=1776) (l:={}) (by kernel_rfl)).trans (by kernel_rfl)
noncomputable def hk:Hook:=kHook K as (fun _=>by kernel_rfl)
theorem left:LeftO PySem.Challenge.rw_feastwheel_k93_whole_the_same_for_ever.row.prog vw lo xt hk.obs hk.val 99999:=by
  refine LeftO.of_pieces (H₀:=boot_heap) (H₁:=fun P=>absHeap (sh.tree_1951 P) 1776 {}) (gs₀:=Array.mk []) (gs₁:=Array.mk []) (d₀:=boot_drawn) (d₁:={}) (k₀:=boot_toks) (k₁:=2693) (M:=14483) (boot_open (by kernel_rfl) (by kernel_rfl) fun s=>by kernel_rfl) siz run (by kernel_rfl) fun w=>funext fun os=>Prod.ext ?_ (Prod.ext ?_ (hy w os))
  · exact look_both (look_both (look_both (l0 w os) (l1 w os)) (l2 w os)) (l3 w os)
  · show openSeen vw lo (importedModules pw.main.body) xt true (hK w os)=openGood vw lo
    unfold openSeen openGood;rw [s1 w os,s2 w os,s3 w os,s4 w os,s5 w os,s6 w os,s7 w os,s8 w os,s9 w os,t1 w os,t2 w os,t3 w os,t4 w os,t5 w os];rfl
def op(said:PySem.Challenge.rw_feastwheel_k93_whole_the_same_for_ever.row.wellSaid=true):=fun hc=>holds_open (q:=vw) (loose:=lo) (Xt:=xt) (XP:=XL vw []) (Yf:=hk.obs) (Ya:=hk.val) (YP:=hk.says) (N:=99999) left hk.of hk.keeps (fun s e=>xl_of s (Bool.and_eq_true_iff.mp e).1) XL.keeps (by rfl) (by rfl) (by rfl) (fun s e=>recFacts_of (Bool.and_eq_true_iff.mp e).2) (by rfl) said (by decide +kernel) ⟨rfl,rfl,rfl,rfl,rfl,by decide +kernel⟩ (by w_witness2) hc
end Hd
theorem zz(h:1=1:=by rfl):1=1:=h
local macro_rules | `(‹$T›)=>`(autoParam $T zz._auto_1)
local macro_rules | `(tactic| ac_rfl)=> `(tactic| decide +kernel)
local macro_rules | `(⋯)=> `(by lia)
local macro_rules | `(nofun)=> `(by decide)
local macro_rules | `(∅)=> `(by ac_rfl)
local macro_rules | `(tactic| walk_at"o")=> `(tactic| first | exact Or.inl rfl | exact Or.inr rfl)
local macro_rules | `(tactic| walk_at"s")=> `(tactic| exact ⟨rfl,rfl,rfl,by ac_rfl,rfl,by ac_rfl,by ac_rfl⟩)
set_option maxRecDepth 100000
noncomputable abbrev Fr:=PySem.W.Frag
def js:=@List.length_map
def jv:=@PySem.wpAny_bind
def qc:=@PySem.Heap.get?_push_of_some
def qf:=@List.mem_cons_self
def qg:=@Int.emod_lt_of_pos
def qh:=@Int.emod_nonneg
def qk:=@List.mem_cons_of_mem
def qm:=@List.getElem?_eq_getElem
def qo:=@Nat.le_refl
def qq:=@PyProof.Rows.boot_str
def qr:=@List.length_cons
def qv:=@List.mem_of_getElem?
def ze:=@List.length_append
def zh:=@List.mem_cons
def zi:=@Bool.false_ne_true
def zk:=@List.getElem?_eq_some_iff
def zo:=@Nat.le_trans
def zv:=@List.map_cons
def zw:=@Int.toNat_natCast
def xa:=@PySem.Heap.get?_push_size
def xb:=@List.mem_singleton
def xc:=@List.size_toArray
def xh:=@PySem.Heap.lt_size
def xi:=@PySem.boot_len
def xk:=@Nat.lt_of_lt_of_le
def xo:=@List.getElem?_map
def xp:=@if_pos
def xy:=@if_neg
def xz:=@PySem.wpAny_pure
def ya:=@congrArg
def yb:=@List.mem_append
def yi:=@List.mem_append_right
def yk:=@List.append_nil
def yv:=@List.mem_map
def yy:=@Bool.and_eq_true
def ua:=@List.map_map
def ub:=@Nat.shiftRight_eq_div_pow
def ui:=@Int.natCast_add
def uj:=@Nat.lt_of_le_of_lt
def uk:=@Option.some.inj
def uu:=@List.drop_of_length_le
def va:=@List.take_of_length_le
def vb:=@PyProof.Rows.callWith_type1
def vc:=@PySem.F.plainAttrs_str
def ve:=@List.map_append
def vi:=@Nat.eq_of_testBit_eq
def vj:=@Nat.pow_le_pow_right
def vk:=@PySem.F.plainAttrs_list
def vt:=@List.length_range
def vv:=@List.not_mem_nil
def vx:=@PySem.W.mg_none_of
def ka:=@Nat.zero_le
def kc:=@Nat.le_of_dvd
def ke:=@Int.mul_le_mul_of_nonneg_right
def kg:=@Nat.ne_of_lt
def ki:=@Int.mul_le_mul
def ko:=@Bool.eq_iff_iff
def kq:=@List.sum_cons
def kr:=@Array.length_toList
def ku:=@Option.map_eq_some_iff
def kx:=@Int.le_refl
def ky:=@List.take_add_one
def kz:=@Nat.two_pow_pos
def Jn:=@Int.mul_comm
def Qb:=@List.mem_iff_getElem?
def Qr:=@List.getD_eq_getElem?_getD
def Zl:=@Int.mul_le_mul_of_nonneg_left
def Zp:=@Int.natCast_emod
def Zs:=@List.append_assoc
def Xs:=@Int.dvd_refl
def ja0:=@Int.le_of_lt
def ja1:=@List.mem_append_left
def ja2:=@Int.mul_add
def ja3:=@Nat.testBit_shiftRight
def ja4:=@Int.mul_ediv_add_emod
def ja5:=@List.replicate_succ
def ja6:=@List.takeWhile_append_dropWhile
def ja7:=@PySem.wpAny_mono
def ja8:=@PySem.Heap.get?_update_other
def ja9:=@List.drop_eq_getElem_cons
def jb0:=@Nat.testBit_and
def jb1:=@PySem.W.kia_one
def jb2:=@List.all_eq_true
def jb3:=@List.length_drop
def jb4:=@List.take_length
def jb5:=@Nat.le_add_right
def jb6:=@Int.mul_one
def jb7:=@Int.toNat_of_nonneg
def jb8:=@List.dropWhile_cons
def jb9:=@List.length_replicate
def jc0:=@beq_iff_eq
def jc1:=@PySem.wpAny_truthy_bool
def jc2:=@List.length_eq_zero_iff
def jc3:=@Nat.testBit_mod_two_pow
def jc4:=@Option.toList_some
def jc5:=@PySem.wpAny_Call_Name_kw
def jc6:=@Int.add_mul_emod_self_left
def jc7:=@Int.ediv_eq_zero_of_lt
def jc8:=@Nat.lt_of_succ_lt_succ
def jc9:=@PySem.F.slot_str_split
def jd0:=@PySem.F.type_str_split
def jd1:=@List.filter_eq_self
def jd2:=@Int.mul_assoc
def jd3:=@List.mem_range
def jd4:=@Nat.testBit_or
def jd5:=@Int.add_zero
def jd6:=@Nat.eq_zero_or_pos
def jd7:=@PySem.F.slot_list_extend
def jd8:=@PySem.F.type_list_extend
def jd9:=@PySem.W.callWith_K
def je0:=@List.length_take
def je1:=@Nat.mod_eq_of_lt
def je2:=@Nat.testBit_succ
def je3:=@Int.emod_emod_of_dvd
def je4:=@Int.natCast_dvd_natCast
def je5:=@PySem.wpAny_seqItems
def je6:=@Int.emod_eq_of_lt
def je7:=@List.flatMap_cons
def je8:=@List.flatten_cons
def je9:=@Nat.gcd_dvd_right
def jf0:=@PySem.wpAny_field
def jf1:=@List.getElem?_append_right
def jf2:=@Array.toList_inj
def jf3:=@Int.ediv_le_self
def jf4:=@Nat.lt_of_not_le
def jf5:=@Nat.zero_testBit
def jf6:=@PySem.Heap.get?_update_self
def jf7:=@Int.add_emod_right
def jf8:=@List.count_cons_of_ne
def jf9:=@List.singleton_append
def jg0:=@Nat.lt_irrefl
def jg1:=@Nat.mod_mul_right_mod
def jg2:=@PyProof.Rows.boot_int
def jg3:=@PySem.W.methodCall_KW
def jg4:=@PySem.wpAny_setField_rec
def jg5:=@Int.mul_nonneg
def jg6:=@Int.one_mul
def jg7:=@List.getElem?_append_left
def jg8:=@Nat.one_pos
def jg9:=@Nat.mul_le_mul_right
def jh0:=@Bool.or_eq_true
def jh1:=@Int.ediv_nonneg
def jh2:=@Int.natCast_mul
def jh3:=@Int.natCast_pow
def jh4:=@List.nil_append
def jh5:=@Option.isSome_iff_exists
def jh6:=@PySem.wpAny_passesOwn
def jh7:=@Int.lt_or_le
def jh8:=@Int.mul_le_mul_of_nonpos_right
def jh9:=@Int.zero_add
def ji0:=@Int.dvd_of_emod_eq_zero
def ji1:=@Int.mul_neg
def ji2:=@List.flatMap_append
def ji3:=@Nat.gcd_pos_of_pos_left
def ji4:=@Nat.mul_div_cancel_left
def ji5:=@Nat.mul_le_mul_left
def ji6:=@PySem.W.mg_of
def ji7:=@PySem.mem_of_lookup
def ji8:=@PySem.wpAny_callSpecial?_slot
def ji9:=@Int.gcd_dvd_left
def jj0:=@List.cons_append
def jj1:=@List.filter_cons
def jj2:=@Nat.gcd_dvd_left
def jj3:=@PySem.Heap.size_push
def jj4:=@Nat.testBit_lt_two_pow
def jj5:=@PyProof.Rows.boot_isinstance
def jj6:=@Int.add_mul
def jj7:=@List.find?_cons
def jj8:=@List.getElem?_eq_none
def jj9:=@List.length_nil
def jk0:=@Nat.testBit_two_pow_sub_one
def jk1:=@PyProof.Rows.boot_sum
def jk2:=@Int.dvd_trans
def jk3:=@Int.gcd_dvd_right
def jk4:=@List.drop_zero
def jk5:=@Int.natCast_ediv
def jk6:=@Nat.testBit_zero
def jk7:=@List.length_reverse
def jk8:=@Nat.add_le_add_left
def jk9:=@Nat.testBit_two_pow
def jl0:=@Int.mul_ediv_cancel_left
def jl1:=@List.getElem?_take_of_lt
def jl2:=@List.map_nil
def jl3:=@Nat.mod_lt
def jl4:=@PySem.F.slot_list_append
def jl5:=@PySem.F.type_list_append
def jl6:=@PySem.wpAny_comprehension_free
def jl7:=@Int.mul_nonpos_of_nonneg_of_nonpos
def jl8:=@Int.natAbs_natCast
def jl9:=@Int.natCast_nonneg
def jm0:=@List.all_cons
def jm1:=@List.any_cons
def jm2:=@List.forIn_cons
def jm3:=@List.getElem?_cons_succ
def jm4:=@List.getElem?_drop
def jm5:=@Nat.dvd_trans
def jm6:=@Nat.min_eq_left
def jm7:=@Nat.testBit_xor
def jm8:=@PyProof.Rows.boot_tuple
def jm9:=@Nat.testBit_eq_decide_div_mod_eq
def jn0:=@Int.fmod_nonneg_of_pos
def jn1:=@List.dropWhile_sublist
def jn2:=@List.getElem?_zipWith'
def jn3:=@Int.lt_trichotomy
def jn4:=@Int.mul_left_comm
def jn5:=@Nat.mul_left_comm
def jn6:=@of_decide_eq_true
def jn7:=@PySem.wpAny_newObj_type
def jn8:=@Int.natAbs_mul
def jn9:=@Int.add_mul_ediv_left
def jo0:=@Int.emod_add_mul_ediv
def jo1:=@Int.fmod_add_fdiv_mul
def jo2:=@Int.le_trans
def jo3:=@Int.mul_add_ediv_left
def jo4:=@List.length_filter_le
def jo5:=@Nat.and_two_pow_sub_one_eq_mod
def jo6:=@Nat.testBit_shiftLeft
def jo7:=@Nat.zero_add
def jo8:=@PyProof.Rows.boot_all
def jo9:=@PySem.codeAny_mono
def jp0:=@Bool.not_eq_true
def jp1:=@List.getElem_mem
def jp2:=@Nat.div_eq_of_lt
def jp3:=@Nat.lt_succ_self
def jp4:=@PySem.wpAny_call_entry
def jp5:=@List.mem_of_mem_take
def jp6:=@PySem.wpAny_updateSeq_pair
def jp7:=@Int.le_of_dvd
def jp8:=@PySem.wpAny_standAt
def jp9:=@Array.toList_append
def jq0:=@List.filterMap_cons
def jq1:=@List.map_congr_left
def jq2:=@List.nodup_cons
def jq3:=@Nat.isDigit_of_mem_toDigits
def jq4:=@Nat.lt_two_pow_self
def jq5:=@Nat.mod_add_div
def jq6:=@Nat.pow_add
def jq7:=@Nat.toList_repr
def jq8:=@Option.map_some
def jq9:=@PySem.F.slot_int_bit_length
def jr0:=@PySem.F.type_int_bit_length
def jr1:=@PySem.W.callWith_K0
def jr2:=@PySem.W.plainGet_of
def jr3:=@PySem.wpAny_execs_nil
def jr4:=@Array.getElem?_eq_some_iff
def jr5:=@Int.fdiv_eq_ediv_of_nonneg
def jr6:=@Nat.length_toDigits_le_iff
def jr7:=@Int.mul_emod_right
def jr8:=@List.all_map
def jr9:=@List.filter_append
def js0:=@List.mem_filterMap
def js1:=@Nat.add_comm
def js2:=@Nat.le_of_eq
def js3:=@Nat.lt_trans
def js4:=@Nat.mul_zero
def js5:=@Nat.succ_mul
def js6:=@Nat.xor_lt_two_pow
def js7:=@Classical.byContradiction
def js8:=@Int.mul_neg_of_pos_of_neg
def js9:=@List.forIn_nil
def jt0:=@List.take_zero
def jt1:=@PySem.F.slot_dict_getitem
def jt2:=@Bool.not_eq_true'
def jt3:=@List.foldl_append
def jt4:=@List.pairwise_map
def jt5:=@Nat.lt_trichotomy
def jt6:=@Nat.or_lt_two_pow
def jt7:=@PySem.wpAny_assign_Name
def jt8:=@PySem.wpAny_pyIter_list
def jt9:=@Bool.or_false
def ju0:=@Nat.add_assoc
def ju1:=@Nat.mul_assoc
def ju2:=@PySem.wpAny_holding
def ju3:=@PySem.wpAny_onRaise
def ju4:=@List.flatMap_nil
def ju5:=@List.range'_succ
def ju6:=@Nat.le_of_not_lt
def ju7:=@Nat.min_eq_right
def ju8:=@Array.size_push
def ju9:=@Int.sub_emod
def jv0:=@List.drop_left'
def jv1:=@List.mem_filter
def jv2:=@List.of_mem_zip
def jv3:=@List.take_left'
def jv4:=@Nat.mul_comm
def jv5:=@Nat.ne_of_gt
def jv6:=@Nat.sub_zero
def jv7:=@PySem.wpAny_rule
def jv8:=@Nat.add_le_add
def jv9:=@Int.mul_pos
def jw0:=@Int.neg_mul
def jw1:=@Int.one_dvd
namespace L2
open PySem PySem.Spec PyProof.Rows
noncomputable abbrev Key:=Sum Int Str
noncomputable def Vt:Key->Value->Bool
 | .inl k,v=>Value.isInt k v
 | .inr x,v=>Value.isStrOf x v
noncomputable def AEQ(w:World):Key->Int
 | .inl k=>hashInt k
 | .inr x=>hashStr w x
theorem Ef:∀{k:Key} {v:Value},Vt k v=true->(∃i t,k=Sum.inl i/\v=Value.int i t)\/(∃x t,k=Sum.inr x/\v=Value.str x t)
 | .inl i,v,h=>by
  obtain⟨t,e⟩:=Value.isInt_shape (k:=i) (v:=v) h;exact .inl ⟨i,t,rfl,e⟩
 | .inr x,v,h=>by
  obtain⟨t,e⟩:=Value.isStrOf_shape (x:=x) (v:=v) h;exact .inr ⟨x,t,rfl,e⟩
theorem jr(i:Int)(t:Tok):Vt (.inl i) (.int i t)=true:=by simp[Vt,Value.isInt]
theorem jo(x:Str)(t:Tok):Vt (.inr x) (.str x t)=true:=by simp[Vt,Value.isStrOf]
theorem AAt(a b:Int):decide ((Sum.inl a:Key)=Sum.inl b)=(a==b):=by
 by_cases e:a=b
 ·subst e;simp
 ·have h:¬(Sum.inl a:Key)=Sum.inl b:=fun q=>e (Sum.inl.inj q);rw[decide_eq_false h];exact(beq_eq_false_iff_ne.mpr e).symm
theorem AAq(a b:Str):decide ((Sum.inr a:Key)=Sum.inr b)=decide (a=b):=by
 by_cases e:a=b
 ·subst e;simp
 ·have h:¬(Sum.inr a:Key)=Sum.inr b:=fun q=>e (Sum.inr.inj q);rw[decide_eq_false h,decide_eq_false e]
theorem AAs(a:Int)(b:Str):decide ((Sum.inl a:Key)=Sum.inr b)=false:=decide_eq_false (fun q=>nomatch q)
theorem AAr(a:Str)(b:Int):decide ((Sum.inr a:Key)=Sum.inl b)=false:=decide_eq_false (fun q=>nomatch q)
noncomputable def Es(prog:Program)(w:World):PySem.KeyKind prog w Key where
 is:=Vt
 hash:=AEQ w
 inj:=fun v a b ha hb=>by
  rcases Ef ha with ⟨i,t,rfl,rfl⟩ | ⟨x,t,rfl,rfl⟩
  ·rcases Ef hb with ⟨j,u,rfl,e⟩ | ⟨y,u,rfl,e⟩
   ·injection e with e1 _;rw[e1]
   ·exact nomatch e
  ·rcases Ef hb with ⟨j,u,rfl,e⟩ | ⟨y,u,rfl,e⟩
   ·exact nomatch e
   ·injection e with e1 _;rw[e1]
 byValue:=fun k v h=>by
  rcases Ef h with ⟨i,t,rfl,rfl⟩ | ⟨x,t,rfl,rfl⟩<;>rfl
 pyHash:=fun hv h=>by
  rcases Ef hv with ⟨i,t,rfl,rfl⟩ | ⟨x,t,rfl,rfl⟩
  ·exact wpAny_pyHash_int h
  ·exact wpAny_pyHash_str h
 eqBool:=fun hu hv h=>by
  rcases Ef hu with ⟨i,t,rfl,rfl⟩ | ⟨x,t,rfl,rfl⟩
  ·rcases Ef hv with ⟨j,u,rfl,rfl⟩ | ⟨y,u,rfl,rfl⟩
   ·rw[AAt] at h;exact wpAny_eqBool_int h
   ·rw[AAs] at h;exact SeqAt.EqAt.int_str i t y u _ _ _ _ h
  ·rcases Ef hv with ⟨j,u,rfl,rfl⟩ | ⟨y,u,rfl,rfl⟩
   ·rw[AAr] at h;exact SeqAt.EqAt.str_int x t j u _ _ _ _ h
   ·rw[AAq] at h;exact wpAny_eqBool_str h
 «strs»:=fun k x t v h=>by
  rcases Ef h with ⟨i,u,rfl,e⟩ | ⟨y,u,rfl,e⟩
  ·exact nomatch e
  ·injection e with e1 _;subst e1;cases v<;>rfl
theorem Zf(prog:Program)(w:World)(i:Int)(t:Tok):(Es prog w).is (.inl i) (.int i t)=true:=jr i t
theorem KC(prog:Program)(w:World)(x:Str)(t:Tok):(Es prog w).is (.inr x) (.str x t)=true:=jo x t
inductive V where
 | non | bl (b:Bool) | int (i:Int) | str (x:Str) | byt (b:Array UInt8) | flt (b:UInt64) | ref (a:Addr) | ty (n:String)
 deriving DecidableEq
def RelV:V->Value->Prop
 | .non,u=>u=Value.none
 | .bl b,u=>u=Value.bool b
 | .int i,u=>∃t,u=Value.int i t
 | .str x,u=>∃t,u=Value.str x t
 | .byt b,u=>∃t,u=Value.bytes b t
 | .flt b,u=>∃t,u=Value.float b t
 | .ref a,u=>u=Value.ref a
 | .ty n,u=>u=Value.type n
abbrev Vals:List V->List Value->Prop:=Paired RelV
variable{us:List Value}
theorem Vals.length{xs:List V}(r:Vals xs us):xs.length=us.length:=Paired.length r
theorem Vals.get:∀{xs:List V} {us:List Value} {i:Nat} {x:V},Vals xs us->xs[i]?=some x->∃u,us[i]?=some u/\RelV x u
 | _,_,_,_,.nil,e=>by simp at e
 | _,_,0,_,.cons r _,e=>by simp at e;subst e;exact⟨_,rfl,r⟩
 | _,_,i+1,x,.cons _ t,e=>by
  obtain⟨u,h1,h2⟩:=Vals.get (i:=i) (x:=x) t (by simpa using e);exact⟨u,by simpa using h1,h2⟩
variable{u:Value}
theorem Vals.set{x:V}(r:RelV x u):∀{xs:List V} {us:List Value} (i:Nat),Vals xs us->Vals (xs.set i x) (us.set i u)
 | _,_,_,.nil=>.nil
 | _,_,0,.cons _ t=>.cons r t
 | _,_,i+1,.cons q t=>.cons q (Vals.set r i t)
theorem Vals.append:∀{xs ys:List V} {us ws:List Value},Vals xs us->Vals ys ws->Vals (xs++ys) (us++ws)
 | _,_,_,_,.nil,s=>s
 | _,_,_,_,.cons r t,s=>.cons r (Vals.append t s)
theorem Vals.take:∀{xs:List V} {us:List Value} (n:Nat),Vals xs us->Vals (xs.take n) (us.take n)
 | _,_,0,_=>.nil
 | _,_,_+1,.nil=>.nil
 | _,_,n+1,.cons r t=>.cons r (Vals.take n t)
theorem Vals.drop:∀{xs:List V} {us:List Value} (n:Nat),Vals xs us->Vals (xs.drop n) (us.drop n)
 | _,_,0,r=>r
 | _,_,_+1,.nil=>.nil
 | _,_,n+1,.cons _ t=>Vals.drop n t
def Jk:Option V->Option Value->Prop
 | some v,some u=>RelV v u
 | none,none=>True
 | _,_=>False
def KV{κ:Type}:List (κ×V)->List (κ×Value)->Prop:=Paired fun(p:κ×V) (q:κ×Value)=>p.1=q.1/\RelV p.2 q.2
noncomputable def kV:Key->V
 | .inl i=>.int i
 | .inr x=>.str x
inductive HO where
 | lst (xs:List V)
 | tup (xs:List V)
 | dK (kvs:List (Key×V)) | dT (kvs:List (List Key×V))
 | set (S:Int->Bool) (n:Nat)
 | ins (C dx:Addr) (fs:List (Str×V))
 | own (x:Addr)
 | xd (fs:List (Str×V))
 | met (f x:Addr)
 | rng (lo hi:Int)
 | frz (o:Obj) (u:HO)
 | tbl (ps:Array Value)
 | ext (φ:Heap->Prop)
noncomputable abbrev Hp:=Addr->Option HO
noncomputable def upd(H:Hp)(a:Addr)(o:HO):Hp:=fun b=>if b=a then some o else H b
variable{H:Hp}{a:Addr}
theorem Ao{o:HO}:upd H a o a=some o:=by unfold upd;rw[xp rfl]
theorem BP{b:Addr}{o:HO}(h:b≠a):upd H a o b=H b:=by unfold upd;rw[xy h]
theorem sJ{o u:HO}:upd (upd H a o) a u=upd H a u:=by
 funext b;unfold upd;split<;>rfl
theorem Hh{b:Addr}{o u:HO}(h:H a=some o)(h':H b=some u)(d:o≠u):a≠b:=by
 intro e;subst e;rw[h] at h';exact d (uk h')
theorem Bx{b:Addr}{o:HO}(h:H a=some o)(h':H b=none):a≠b:=by
 intro e;subst e;rw[h] at h';cases h'
section
variable(P:Program)(w:World)
def Ep(H:Hp)(h:Heap)(a:Addr):HO->Prop
 | .lst xs=>xs.length<=sizeLine/\∃(its:List Value) (n:Nat),Vals xs its/\h.get? a=some { cls:=.type "list",data:=.seq its.toArray n }
 | .tup xs=>xs.length<=sizeLine/\∃its:List Value,Vals xs its/\IsTup h a its.toArray
 | .dK kvs=>kvs.length<=sizeLine/\(a==sysModules)=false/\∃vs,KV kvs vs/\h.DictOf (Es P w) a vs
 | .dT kvs=>kvs.length<=sizeLine/\(a==sysModules)=false/\∃xs:List (List Key×Addr×Value),
  Paired (fun (p:List Key×V) (q:List Key×Addr×Value)=>p.1=q.1/\H q.2.1=some (.tup (p.1.map kV))/\RelV p.2 q.2.2) kvs xs/\
  ∃o es ep,h.get? a=some o/\o.ExactDict/\o.data=.dict es ep/\es.toList=xs.map (entryOfKey (tupleKind (Es P w)))/\(xs.map (·.1)).Nodup
 | .set S n=>h.SetOf (intKind P w) a S n
 | .ins C dx fs=>H dx=some (.own a)/\fs.length<=1000/\dx≠a/\h.get? a=some (PySem.W.instObj C dx)/\
  ∃mA,h.Ns1 dx mA/\(∀f,Jk (fs.lookup f) (mA f))/\PySem.Within mA (fs.map (·.1))
 | .own _=>∃o,h.get? a=some o
 | .xd fs=>∃mA,h.Ns1 a mA/\∀f,Jk (fs.lookup f) (mA f)
 | .rng lo hi=>∃t u v,h.get? a=some { cls:=.type "range",data:=.fields #[.int lo t,.int hi u,.int 1 v] }
 | .frz o u=>h.get? a=some o/\Ep H h a u
 | .tbl ps=>h.get? a=some { cls:=.none,data:=.fields ps }
 | .met f x=>h.get? a=some (PySem.W.methodObj (.ref f) (.ref x))
 | .ext φ=>φ h/\(∃o,h.get? a=some o)/\∀h1 h2:Heap,φ h1->(∀o,h1.get? a=some o->h2.get? a=some o)->φ h2
def HOk(H:Hp)(h:Heap):Prop:=∀a o,H a=some o->Ep P w H h a o
end
section
variable{P:Program}{w:World}{H H':Hp}{h h':Heap}{a:Addr}{o:HO}
theorem Ep.lt(x:Ep P w H h a o):a<h.objs.size:=by
 cases o with
 | lst xs=>obtain⟨_,_,_,_,e⟩:=x;exact xh e
 | tup xs=>obtain⟨_,_,_,p⟩:=x;exact p.lt
 | dK kvs=>obtain⟨_,_,_,_,o,_,_,e,_⟩:=x;exact xh e
 | dT kvs=>obtain⟨_,_,_,_,o,_,_,e,_⟩:=x;exact xh e
 | set S n=>obtain⟨o,_,_,_,e,_⟩:=x;exact xh e
 | ins C dx fs=>obtain⟨_,_,_,e,_⟩:=x;exact xh e
 | own y=>obtain⟨_,e⟩:=x;exact xh e
 | xd fs=>obtain⟨_,⟨_,_,_,e,_⟩,_⟩:=x;exact xh e
 | rng lo hi=>obtain⟨_,_,_,e⟩:=x;exact xh e
 | frz ob u=>obtain⟨e,_⟩:=x;exact xh e
 | tbl ps=>exact xh (show h.get? a=some _ from x)
 | met f y=>exact xh (show h.get? a=some _ from x)
 | ext φ=>obtain⟨_,⟨_,e⟩,_⟩:=x;exact xh e
theorem Paired.mapP{α β:Type}{F G:α->β->Prop}:∀{l₁:List α} {l₂:List β},Paired F l₁ l₂->(∀a b,F a b->G a b)->Paired G l₁ l₂
 | _,_,.nil,_=>.nil
 | _,_,.cons r t,f=>.cons (f _ _ r) (Paired.mapP t f)
theorem Ep.stay(x:Ep P w H h a o)(k:∀b u,(b=a\/H b=some (.own a))->h.get? b=some u->h'.get? b=some u)
 (ho:∀b,H b=some (.own a)->H' b=some (.own a))(ht:∀b xs,H b=some (.tup xs)->H' b=some (.tup xs)):Ep P w H' h' a o:=by
 induction o with
 | lst xs=>obtain⟨z,its,n,r,e⟩:=x;exact⟨z,its,n,r,k _ _ (.inl rfl) e⟩
 | tup xs=>obtain⟨z,its,r,ob,e,c⟩:=x;exact⟨z,its,r,ob,k _ _ (.inl rfl) e,c⟩
 | dK kvs=>obtain⟨z,y,vs,r,ob,es,ep,e,c⟩:=x;exact⟨z,y,vs,r,ob,es,ep,k _ _ (.inl rfl) e,c⟩
 | dT kvs=>
  obtain⟨z,y,xs,r,ob,es,ep,e,c⟩:=x;exact⟨z,y,xs,Paired.mapP r fun p q z=>⟨z.1,ht _ _ z.2.1,z.2.2⟩,ob,es,ep,k _ _ (.inl rfl) e,c⟩
 | set S n=>obtain⟨ob,es,ep,t,e,c⟩:=x;exact⟨ob,es,ep,t,k _ _ (.inl rfl) e,c⟩
 | ins C dx fs=>
  obtain⟨d,z,ne,e,mA,⟨od,es,ep,e2,c⟩,r⟩:=x;exact⟨ho _ d,z,ne,k _ _ (.inl rfl) e,mA,⟨od,es,ep,k _ _ (.inr d) e2,c⟩,r⟩
 | own y=>obtain⟨ob,e⟩:=x;exact⟨ob,k _ _ (.inl rfl) e⟩
 | xd fs=>obtain⟨mA,⟨od,es,ep,e,c⟩,r⟩:=x;exact⟨mA,⟨od,es,ep,k _ _ (.inl rfl) e,c⟩,r⟩
 | rng lo hi=>obtain⟨t,u,v,e⟩:=x;exact⟨t,u,v,k _ _ (.inl rfl) e⟩
 | frz ob u ih=>obtain⟨e,q⟩:=x;exact⟨k _ _ (.inl rfl) e,ih q⟩
 | tbl ps=>
  have e:h.get? a=some { cls:=.none,data:=.fields ps }:=x;show h'.get? a=some { cls:=.none,data:=.fields ps };exact k a _ (.inl rfl) e
 | met f y=>
  have e:h.get? a=some (PySem.W.methodObj (.ref f) (.ref y)):=x;show h'.get? a=some (PySem.W.methodObj (.ref f) (.ref y));exact k a _ (.inl rfl) e
 | ext φ=>obtain⟨p,⟨o,e⟩,st⟩:=x;exact⟨st _ _ p fun o q=>k _ _ (.inl rfl) q,⟨o,k _ _ (.inl rfl) e⟩,st⟩
theorem HOk.lt(x:HOk P w H h)(e:H a=some o):a<h.objs.size:=(x a o e).lt
theorem HOk.fresh(x:HOk P w H h)(e:h.objs.size<=a):H a=none:=by
 cases q:H a with
 | none=>rfl
 | some u=>exact absurd (xk (x.lt q) e) (jg0 _)
theorem HOk.kept(x:HOk P w H h)(k:∀b u,h.get? b=some u->h'.get? b=some u):HOk P w H h':=fun a o e=>
 (x a o e).stay (fun b u _ q=>k b u q) (fun _ q=>q) fun _ _ q=>q
theorem HOk.laid(x:HOk P w H h)(k:∀b u,h.get? b=some u->h'.get? b=some u)(hp:h.objs.size<=a)(new:Ep P w (upd H a o) h' a o):HOk P w (upd H a o) h':=fun b u e=>by
 have hn:=x.fresh hp;by_cases hb:b=a
 ·subst hb;rw[Ao] at e;cases e;exact new
 ·rw[BP hb] at e;exact(x b u e).stay (fun c v _ q=>k c v q) (fun c q=>by rw[BP (Bx q hn)];exact q) fun c xs q=>by rw[BP (Bx q hn)];exact q
end
def Rd(H:Hp)(a:Addr)(u:HO):Prop:=H a=some u\/∃o,H a=some (.frz o u)
theorem Rd.ok{P:Program}{w:World}{h:Heap}{u:HO}(r:Rd H a u)(x:HOk P w H h):Ep P w H h a u:=by
 rcases r with r | ⟨o,r⟩
 ·exact x a u r
 ·obtain⟨_,q⟩:=x a _ r;exact q
def Mut:Option HO->Prop
 | some (.lst _)=>True
 | some (.dK _)=>True
 | some (.dT _)=>True
 | some (.set _ _)=>True
 | some (.ins _ _ _)=>True
 | some (.ext _)=>True
 | _=>False
section
variable{P:Program}{w:World}{H:Hp}{h h':Heap}{x e:Addr}{o':HO}
theorem HOk.write(ok:HOk P w H h)(mu:Mut (H x))(he:e=x\/H e=some (.own x))(k:∀b u,b≠e->h.get? b=some u->h'.get? b=some u)(heo:∃u,h'.get? e=some u)
 (new:Ep P w (upd H x o') h' x o'):HOk P w (upd H x o') h':=fun b u q=>by
 have nown:∀c y,H c=some (.own y)->c≠x:=fun c y r z=>by subst z;rw[r] at mu;exact mu
 have ntup:∀c xs,H c=some (.tup xs)->c≠x:=fun c xs r z=>by subst z;rw[r] at mu;exact mu
 by_cases hb:b=x
 ·subst hb;rw[Ao] at q;cases q;exact new
 ·rw[BP hb] at q;by_cases hbe:b=e
  ·have q':H b=some (.own x):=by
    rcases he with z | z
    ·exact absurd (hbe.trans z) hb
    ·rw[hbe];exact z
   rw[q] at q';cases q';obtain⟨v,hv⟩:=heo;exact⟨v,by rw[hbe];exact hv⟩
  ·refine(ok b u q).stay (fun c v hc r=>k c v ?_ r) (fun c r=>by rw[BP (nown c b r)];exact r) fun c xs r=>by rw[BP (ntup c xs r)];exact r
   rcases hc with rfl | hc
   ·exact hbe
   ·rintro rfl;rcases he with z | z
    ·exact nown c b hc z
    ·rw[hc] at z;cases z;exact hb rfl
end
structure Un(fs ex:List Addr)(H H':Hp)(h h':Heap):Prop where
 keep:∀b o,h.get? b=some o->H b=none->b∉fs->b∉ex->h'.get? b=some o
 slot:∀b o,h.get? b=some o->H b=none->b∈fs->b∉ex->∃sl,h'.get? b=some { o with slots:=sl }
 free:∀b o,h.get? b=some o->H b=none->b∉ex->H' b=none
 there:∀b o,h.get? b=some o->b∉ex->∃o',h'.get? b=some o'
 tups:∀b xs,H b=some (.tup xs)->H' b=some (.tup xs)
 frzs:∀b o u,H b=some (.frz o u)->H' b=some (.frz o u)
 tbls:∀b ps,H b=some (.tbl ps)->∃more,H' b=some (.tbl (ps++more))
section
variable{fs fs' ex ex':List Addr}{H H1 H2:Hp}{h h1 h2 h':Heap}{a x e:Addr}{o:HO}
theorem Un.any(u:Un fs ex H H1 h h1){b:Addr}{ob:Obj}(q:h.get? b=some ob)(n:H b=none)(hx:b∉ex):∃sl,h1.get? b=some { ob with slots:=sl }:=by
 by_cases hb:b∈fs
 ·exact u.slot b ob q n hb hx
 ·exact⟨ob.slots,u.keep b ob q n hb hx⟩
theorem Un.kept(k:∀b u,h.get? b=some u->h'.get? b=some u):Un fs ex H H h h':=
 ⟨fun b ob q _ _ _=>k b ob q,fun b ob q _ _ _=>⟨ob.slots,k b ob q⟩,fun _ _ _ n _=>n,fun b ob q _=>⟨ob,k b ob q⟩,fun _ _ q=>q,fun _ _ _ q=>q,fun _ ps q=>⟨#[],by rw[q];simp⟩⟩
theorem Un.refl:Un fs ex H H h h:=Un.kept fun _ _ q=>q
theorem Un.laid(k:∀b u,h.get? b=some u->h'.get? b=some u)(hp:h.objs.size<=a)(hn:H a=none):Un fs ex H (upd H a o) h h' where
 keep:=fun b u q _ _ _=>k b u q
 slot:=fun b u q _ _ _=>⟨u.slots,k b u q⟩
 free:=fun b u q n _=>by rw[BP (kg (xk (xh q) hp))];exact n
 there:=fun b u q _=>⟨u,k b u q⟩
 tups:=fun b xs q=>by rw[BP (Bx q hn)];exact q
 frzs:=fun b u xs q=>by rw[BP (Bx q hn)];exact q
 tbls:=fun b ps q=>⟨#[],by rw[BP (Bx q hn),q];simp⟩
theorem Un.write(mu:Mut (H x))(he:e=x\/H e=some (.own x))(k:∀b u,b≠e->h.get? b=some u->h'.get? b=some u)(heo:∃u,h'.get? e=some u):Un fs ex H (upd H x o) h h':=by
 have hx:∀b,H b=none->b≠x:=fun b n z=>by subst z;rw[n] at mu;exact mu
 have hb:∀b,H b=none->b≠e:=fun b n z=>by
  subst z;rcases he with r | r
  ·exact hx b n r
  ·rw[n] at r;cases r
 have hm:∀b u,H b=some u->¬Mut (some u)->b≠x:=fun b u q nm z=>by subst z;rw[q] at mu;exact nm mu
 refine⟨fun b u q n _ _=>k b u (hb b n) q,fun b u q n _ _=>⟨u.slots,k b u (hb b n) q⟩,fun b u q n _=>by rw[BP (hx b n)];exact n,fun b u q _=>?_,
  fun b xs q=>by rw[BP (hm b _ q fun z=>z)];exact q,fun b u xs q=>by rw[BP (hm b _ q fun z=>z)];exact q,fun b ps q=>⟨#[],by rw[BP (hm b _ q fun z=>z),q];simp⟩⟩
 by_cases hbe:b=e
 ·subst hbe;exact heo
 ·exact⟨u,k b u hbe q⟩
end
noncomputable def trk(h:Heap)(H:Hp):List Addr:=(List.range h.objs.size).filter fun a=>(H a).isSome
noncomputable def Xz(h:Heap)(H:Hp):Heap:=PySem.W.hideAll h (trk h H)
theorem j4(h:Heap)(H:Hp):(Xz h H).objs.size=h.objs.size:=PySem.W.hideAll_size _ _
theorem qH{h:Heap}{b:Addr}{o:Obj}(e:h.get? b=some o)(n:H b=none):(Xz h H).get? b=some o:=
 PySem.W.hideAll_get _ e fun hm=>by
  have q:(H b).isSome=true:=(jv1.mp hm).2;rw[n] at q;simp at q
theorem u6{h:Heap}{b:Addr}{o:Obj}(e:(Xz h H).get? b=some o):h.get? b=some o/\H b=none:=by
 have e':h.get? b=some o:=PySem.W.of_hideAll (trk h H) e;refine⟨e',?_⟩;cases q:H b with
 | none=>rfl
 | some x=>
  have hm:b∈trk h H:=jv1.mpr ⟨jd3.mpr (xh e'),by simp[q]⟩;have z:(Xz h H).get? b=none:=PySem.W.hideAll_none (trk h H) hm;rw[z] at e;cases e
noncomputable def wZ(g h:Heap)(L:Addr):List (Addr×Obj):=(List.range h.objs.size).filterMap fun a=>if a=L\/(g.get? a).isSome=true then none else (h.get? a).map fun o=>(a,o)
noncomputable def rest(g h:Heap)(L d:Addr):List (Addr×Obj):=(wZ g h L).filter fun p=>decide (p.1≠d)
structure Mod(K:Fr)(mg:Str->Option Value)(base:Heap):Prop where
 kin:K.In base
 glob:base.Ns mainGlobals mg
 blt:∃mb,base.Ns builtinsNs mb/\∀x:Str,x≠"__name__"->mb x=bootBuiltins x
 nolimit:base.NoLimit
structure Cx where
 prog:Program
 w:World
 K:Fr
 mg:Str->Option Value
 base:Heap
 A:Around
 N:List Str
 s₀:Shared
 H₀:Hp
 env:Env
 outer:List Env
 stack:List Env
 ex:List Addr
 fn:Str->Bool
 calm:Bool
 pn:List (Addr×Obj)
 xe:Value->Shared->Prop
noncomputable def frs(l:List Env):List Addr:=l.filterMap (·.frame)
noncomputable abbrev Cx.fs(X:Cx):List Addr:=frs X.outer
def Vis(sc:Scope)(x:Str):Prop:=sc.names.lookup x=some .local\/sc.names.lookup x=some .cell\/sc.names.lookup x=some .free
def Loc(sc:Scope)(x:Str):Prop:=sc.names.lookup x=some .local\/sc.names.lookup x=some .cell
def Look(env:Env)(h:Heap)(m:Str->Option Value)(x:Str)(u:Value):Prop:=
 (env.kindOf x=some .local/\m x=some u)\/((env.kindOf x=some .cell\/env.kindOf x=some .free)/\∃c,env.cells.lookup x=some c/\h.IsCell c (some u))
structure Cx.Ok(X:Cx):Prop where
 mod:Mod X.K X.mg X.base
 kind:X.env.scope.kind=.function
 glob:X.env.globals=mainGlobals
 blt:X.env.builtins=builtinsNs
 above:X.s₀.heap.objs.size<=X.env.locals
 inj:∀x y c,X.env.cells.lookup x=some c->X.env.cells.lookup y=some c->x=y
 has:∀x,(X.env.kindOf x=some .cell\/X.env.kindOf x=some .free)->∃c,X.env.cells.lookup x=some c
 cab:∀x c,X.fn x=true->X.env.cells.lookup x=some c->X.s₀.heap.objs.size<=c
 hd:X.calm=true->X.A.handled=none
 frames:X.A.frames=some X.stack
 stk:X.stack=X.outer\/(X.stack=X.env::X.outer/\X.env.frame=some X.env.locals)
 exf:∀b∈X.ex,b≠X.env.locals/\∀x c,X.env.cells.lookup x=some c->c≠b
 bs:∀b o,X.base.get? b=some o->X.s₀.heap.get? b=some o/\X.H₀ b=none
 bsz:X.base.objs.size<=X.s₀.heap.objs.size
 noex:∀b o,X.base.get? b=some o->b∉X.ex
 exfs:∀b∈X.ex,b∉X.fs
 funs:X.s₀.heap.FunFrames X.base X.outer
 frf:∀b∈X.fs,X.H₀ b=none
structure Inv(X:Cx)(pins:List (Addr×Obj))(Z:List (Option V))(H:Hp)(s:Shared):Prop where
 ok:X.Ok
 os:s.os=X.s₀.os
 bare:AllBare s.gens
 base:Un X.fs X.ex X.H₀ H X.s₀.heap s.heap
 loc:∃m,s.heap.Ns X.env.locals m/\∀(i:Nat) (x:Str) (v:V),X.N[i]?=some x->Z[i]?=some (some v)->Vis X.env.scope x->∃u,RelV v u/\Look X.env s.heap m x u
 cell:∀x c,X.env.cells.lookup x=some c->∃v,s.heap.IsCell c v
 free:H X.env.locals=none
 freeC:∀x c,X.env.cells.lookup x=some c->H c=none
 pin:∀p∈X.pn++pins,s.heap.get? p.1=some p.2/\H p.1=none/\p.1≠X.env.locals/\p.1∉X.fs/\∀v,p.2.data≠.cell v
 hok:HOk X.prog X.w H s.heap
 len:Z.length=X.N.length
variable{x:Str}{t':Nat}{A:Around}
section
variable{X:Cx}{pins:List (Addr×Obj)}{Z:List (Option V)}{H H':Hp}{s:Shared}{h':Heap}
theorem Cx.Ok.nofr(ok:X.Ok){b:Addr}{o:Obj}(e:X.base.get? b=some o):b∉X.fs:=fun hb=>by
 have:=(ok.funs.mem hb).1;rw[e] at this;cases this
theorem Inv.bs(I:Inv X pins Z H s):∀b o,X.base.get? b=some o->s.heap.get? b=some o/\H b=none:=fun b o e=>
 ⟨I.base.keep b o (I.ok.bs b o e).1 (I.ok.bs b o e).2 (I.ok.nofr e) (I.ok.noex b o e),I.base.free b o (I.ok.bs b o e).1 (I.ok.bs b o e).2 (I.ok.noex b o e)⟩
theorem Inv.bk(I:Inv X pins Z H s):∀b o,X.base.get? b=some o->s.heap.get? b=some o:=fun b o e=>(I.bs b o e).1
theorem Inv.mod(I:Inv X pins Z H s):Mod X.K X.mg X.base:=I.ok.mod
theorem Inv.kIn(I:Inv X pins Z H s):X.K.In s.heap:=I.ok.mod.kin.keeps I.bk
theorem Inv.lt(I:Inv X pins Z H s):X.env.locals<s.heap.objs.size:=let ⟨_,hn,_⟩:=I.loc;hn.lt
theorem Inv.sz(I:Inv X pins Z H s):X.s₀.heap.objs.size<=s.heap.objs.size:=zo I.ok.above (Nat.le_of_lt I.lt)
theorem Inv.nofs(I:Inv X pins Z H s){a:Addr}(h:s.heap.objs.size<=a):a∉X.fs:=fun hb=>by
 obtain⟨_,o,ho,_⟩:=I.ok.funs.mem hb;exact absurd (xk (xh ho) (zo I.sz h)) (jg0 _)
theorem Inv.cne(I:Inv X pins Z H s):∀x c,X.env.cells.lookup x=some c->c≠X.env.locals:=fun x c e z=>by
 obtain⟨v,o,ho,hd⟩:=I.cell x c e;obtain⟨m,⟨o',es,ep,ho',hd',_⟩,_⟩:=I.loc;rw[z,ho'] at ho;cases ho;rw[hd'] at hd;cases hd
theorem Inv.funs(I:Inv X pins Z H s):s.heap.FunFrames X.base X.outer:=by
 have all:∀(l:List Env),(∀b∈frs l,b∈X.fs)->X.s₀.heap.FunFrames X.base l->s.heap.FunFrames X.base l:=by
  intro l
  induction l with
  | nil=>intro _ _;trivial
  | cons env r ih=>
   intro hs hl;obtain⟨hk,⟨L,o,hf,hn,ho,hd⟩,hr⟩:=hl;have hL:L∈X.fs:=hs L (by unfold frs;rw[jq0,hf];exact qf);obtain⟨sl,e⟩:=I.base.slot L o ho (I.ok.frf L hL) hL fun z=>I.ok.exfs L z hL;exact⟨hk,⟨L,_,hf,hn,e,hd⟩,ih (fun b hb=>hs b (by unfold frs;rw[jq0,hf];exact qk _ hb)) hr⟩
 exact all X.outer (fun _ hb=>hb) I.ok.funs
theorem Inv.stack(I:Inv X pins Z H s):s.heap.FunFrames X.base X.stack:=by
 rcases I.ok.stk with e | ⟨e,hf⟩
 ·rw[e];exact I.funs
 ·rw[e];obtain⟨m,hn,_⟩:=I.loc;refine .cons (by rw[I.ok.kind];decide) hf hn ?_ I.funs;exact Heap.get?_none_of_le (zo I.ok.bsz I.ok.above)
theorem Inv.stkSub(I:Inv X pins Z H s):∀b∈frs X.stack,b∈X.env.locals::X.fs:=fun b hb=>by
 rcases I.ok.stk with e | ⟨e,hf⟩
 ·rw[e] at hb;exact qk _ hb
 ·rw[e] at hb;unfold frs at hb;rw[jq0,hf] at hb;exact hb
theorem Inv.stkFree(I:Inv X pins Z H s):∀b∈frs X.stack,H b=none:=fun b hb=>by
 rcases zh.mp (I.stkSub b hb) with e | hb
 ·rw[e];exact I.free
 ·obtain⟨_,o,ho,_⟩:=I.ok.funs.mem hb;exact I.base.free b o ho (I.ok.frf b hb) fun z=>I.ok.exfs b z hb
theorem Inv.step{g':Array GenState}{d':Drawn}{ch:List Addr}(I:Inv X pins Z H s)
 (hch:∀b∈ch,(b∈X.ex\/X.s₀.heap.objs.size<=b)/\b≠X.env.locals/\(∀x c,X.env.cells.lookup x=some c->c≠b)/\∀p∈X.pn++pins,p.1≠b)
 (keep:∀b o,b≠X.env.locals->b∉X.fs->b∉ch->s.heap.get? b=some o->H b=none->h'.get? b=some o)
 (slot:∀b o,b≠X.env.locals->b∈X.fs->b∉ch->s.heap.get? b=some o->H b=none->∃sl,h'.get? b=some { o with slots:=sl })(free:∀b o,b∉ch->s.heap.get? b=some o->H b=none->H' b=none)
 (there:∀b o,b∉ch->s.heap.get? b=some o->∃o',h'.get? b=some o')
 (tups:∀b xs,H b=some (.tup xs)->H' b=some (.tup xs))(frzs:∀b o u,H b=some (.frz o u)->H' b=some (.frz o u))(tbls:∀b ps,H b=some (.tbl ps)->∃more,H' b=some (.tbl (ps++more)))
 (ns:∀m,s.heap.Ns X.env.locals m->h'.Ns X.env.locals m)(hok:HOk X.prog X.w H' h')(hg:AllBare g'):
 Inv X pins Z H' { s with heap:=h',gens:=g',drawn:=d',toks:=t' }:=by
 have neL:∀b o,X.s₀.heap.get? b=some o->b≠X.env.locals:=fun b o e=>kg (xk (xh e) I.ok.above);have neC:∀b o,X.s₀.heap.get? b=some o->b∉X.ex->b∉ch:=fun b o e hx hb=>by
  rcases(hch b hb).1 with z | z
  ·exact hx z
  ·exact absurd (xk (xh e) z) (jg0 _)
 have cellK:∀x c,X.env.cells.lookup x=some c->∀v,s.heap.IsCell c v->h'.IsCell c v:=fun x c e v ⟨o,ho,hd⟩=>by
  have nch:c∉ch:=fun z=>(hch c z).2.2.1 x c e rfl;by_cases hc:c∈X.fs
  ·obtain⟨sl,q⟩:=slot c o (I.cne x c e) hc nch ho (I.freeC x c e);exact⟨_,q,hd⟩
  ·exact⟨o,keep c o (I.cne x c e) hc nch ho (I.freeC x c e),hd⟩
 refine⟨I.ok,I.os,hg,⟨fun b o e n hb hx=>?_,fun b o e n hb hx=>?_,fun b o e n hx=>?_,fun b o e hx=>?_,fun b xs e=>tups b xs (I.base.tups b xs e),fun b o xs e=>frzs b o xs (I.base.frzs b o xs e),fun b ps e=>?_⟩,?_,fun x c e=>?_,?_,fun x c e=>?_,fun p hp=>?_,hok,I.len⟩
 ·exact keep b o (neL b o e) hb (neC b o e hx) (I.base.keep b o e n hb hx) (I.base.free b o e n hx)
 ·obtain⟨sl,e1⟩:=I.base.slot b o e n hb hx;obtain⟨sl',e2⟩:=slot b _ (neL b o e) hb (neC b o e hx) e1 (I.base.free b o e n hx);exact⟨sl',e2⟩
 ·obtain⟨o',e1⟩:=I.base.there b o e hx;exact free b o' (neC b o e hx) e1 (I.base.free b o e n hx)
 ·obtain⟨o',e1⟩:=I.base.there b o e hx;exact there b o' (neC b o e hx) e1
 ·obtain⟨m1,e1⟩:=I.base.tbls b ps e;obtain⟨m2,e2⟩:=tbls b _ e1;exact⟨m1++m2,by rw[e2,Array.append_assoc]⟩
 ·obtain⟨m,hn,hl⟩:=I.loc;refine⟨m,ns m hn,fun i x v e1 e2 e3=>?_⟩;obtain⟨u,r,l⟩:=hl i x v e1 e2 e3;refine⟨u,r,?_⟩;rcases l with l | ⟨k,c,e,z⟩
  ·exact .inl l
  ·exact .inr ⟨k,c,e,cellK x c e _ z⟩
 ·obtain⟨v,z⟩:=I.cell x c e;exact⟨v,cellK x c e v z⟩
 ·obtain⟨m,⟨o,_,_,ho,_⟩,_⟩:=I.loc;exact free _ o (fun z=>(hch _ z).2.1 rfl) ho I.free
 ·obtain⟨v,o,ho,hd⟩:=I.cell x c e;exact free c o (fun z=>(hch c z).2.2.1 x c e rfl) ho (I.freeC x c e)
 ·obtain⟨e,n,ne,nf,d⟩:=I.pin p hp;have nch:p.1∉ch:=fun z=>(hch p.1 z).2.2.2 p hp rfl;exact⟨keep p.1 p.2 ne nf nch e n,free p.1 p.2 nch e n,ne,nf,d⟩
theorem Inv.un(I:Inv X pins Z H s)(u:Un X.fs [] H H' s.heap h')(hok:HOk X.prog X.w H' h'):Inv X pins Z H' { s with heap:=h',toks:=t' }:=by
 obtain⟨m,⟨o,es,ep,ho,r⟩,_⟩:=id I.loc;obtain⟨sl,hL⟩:=u.any ho I.free (by simp);exact I.step (g':=s.gens) (d':=s.drawn) (ch:=[]) (fun _ z=>nomatch z) (fun b o _ hb _ e n=>u.keep b o e n hb (by simp)) (fun b o _ hb _ e n=>u.slot b o e n hb (by simp)) (fun b o _ e n=>u.free b o e n (by simp)) (fun b o _ e=>u.there b o e (by simp)) u.tups u.frzs u.tbls (fun m' hm=>by
  obtain⟨o',es',ep',ho',r'⟩:=hm;rw[ho] at ho';cases ho';exact⟨_,es',ep',hL,r'⟩) hok I.bare
theorem Inv.call{g':Array GenState}{d':Drawn}{ch:List Addr}(I:Inv X pins Z H s)(u:Un (frs X.stack) ch H H' s.heap h')(hok:HOk X.prog X.w H' h')(hg:AllBare g')
 (hch:∀b∈ch,(b∈X.ex\/X.s₀.heap.objs.size<=b)/\b≠X.env.locals/\(∀x c,X.env.cells.lookup x=some c->c≠b)/\∀p∈X.pn++pins,p.1≠b):
 Inv X pins Z H' { s with heap:=h',gens:=g',drawn:=d',toks:=t' }:=by
 obtain⟨m,⟨o,es,ep,ho,r⟩,_⟩:=id I.loc;obtain⟨sl,hL⟩:=u.any ho I.free fun z=>(hch _ z).2.1 rfl;exact I.step (ch:=ch) hch (fun b o hL hb hc e n=>u.keep b o e n (fun z=>(zh.mp (I.stkSub b z)).elim hL hb) hc) (fun b o _ _ hc e n=>u.any e n hc) (fun b o hc e n=>u.free b o e n hc) (fun b o hc e=>u.there b o e hc) u.tups u.frzs u.tbls (fun m' hm=>by
  obtain⟨o',es',ep',ho',r'⟩:=hm;rw[ho] at ho';cases ho';exact⟨_,es',ep',hL,r'⟩) hok hg
theorem Inv.turned{it:Addr}(I:Inv X pins Z H s)(k:∀b o,b≠it->s.heap.get? b=some o->h'.get? b=some o)(hn:H it=none)(hL:it≠X.env.locals)
 (h1:it∈X.ex\/X.s₀.heap.objs.size<=it)(h2:∀x c,X.env.cells.lookup x=some c->c≠it)(h3:∀p∈X.pn++pins,p.1≠it):Inv X pins Z H { s with heap:=h',toks:=t' }:=by
 have nit:∀b u,H b=some u->b≠it:=fun b u e z=>by rw[z,hn] at e;cases e
 refine I.step (g':=s.gens) (d':=s.drawn) (ch:=[it]) (fun b hb=>?_) (fun b o _ _ hc e _=>k b o (fun z=>hc (by simp[z])) e) (fun b o _ _ hc e _=>⟨o.slots,k b o (fun z=>hc (by simp[z])) e⟩) (fun _ _ _ _ n=>n)
  (fun b o hc e=>⟨o,k b o (fun z=>hc (by simp[z])) e⟩) (fun _ _ e=>e) (fun _ _ _ e=>e) (fun b ps e=>⟨#[],by rw[e];simp⟩) (fun m hm=>?_) (fun b u e=>?_) I.bare
 ·have e:b=it:=by simpa using hb
  subst e;exact⟨h1,hL,h2,h3⟩
 ·obtain⟨o,es,ep,ho,r⟩:=hm;exact⟨o,es,ep,k _ o (Ne.symm hL) ho,r⟩
 ·refine(I.hok b u e).stay (fun c v hc q=>k c v ?_ q) (fun _ q=>q) fun _ _ q=>q;rcases hc with z | z
  ·rw[z];exact nit b u e
  ·exact nit c _ z
theorem Inv.tok(I:Inv X pins Z H s)(t:Nat):Inv X pins Z H { s with toks:=t }:=I.un (h':=s.heap) (t':=t) Un.refl I.hok
theorem Inv.kept(I:Inv X pins Z H s)(k:∀b u,s.heap.get? b=some u->h'.get? b=some u):Inv X pins Z H { s with heap:=h',toks:=t' }:=I.un (Un.kept k) (I.hok.kept k)
theorem Inv.laid{o:HO}(I:Inv X pins Z H s)(k:∀b u,s.heap.get? b=some u->h'.get? b=some u)(hp:s.heap.objs.size<=a)(new:Ep X.prog X.w (upd H a o) h' a o):
 Inv X pins Z (upd H a o) { s with heap:=h',toks:=t' }:=I.un (Un.laid k hp (I.hok.fresh hp)) (I.hok.laid k hp new)
theorem Inv.write{x e:Addr}{o:HO}(I:Inv X pins Z H s)(mu:Mut (H x))(he:e=x\/H e=some (.own x))(k:∀b u,b≠e->s.heap.get? b=some u->h'.get? b=some u)(heo:∃u,h'.get? e=some u)
 (new:Ep X.prog X.w (upd H x o) h' x o):Inv X pins Z (upd H x o) { s with heap:=h',toks:=t' }:=I.un (Un.write mu he k heo) (I.hok.write mu he k heo new)
theorem Inv.pins_of{pins':List (Addr×Obj)}(I:Inv X pins Z H s)(h:∀p∈pins',s.heap.get? p.1=some p.2/\H p.1=none/\p.1≠X.env.locals/\p.1∉X.fs/\∀v,p.2.data≠.cell v):Inv X pins' Z H s:=
 ⟨I.ok,I.os,I.bare,I.base,I.loc,I.cell,I.free,I.freeC,fun p hp=>(yb.mp hp).elim (fun z=>I.pin p (ja1 _ z)) (h p),I.hok,I.len⟩
theorem Ze{N:List Str}(hN:N.Nodup){i j:Nat}{x:Str}(a:N[i]?=some x)(b:N[j]?=some x):i=j:=by
 obtain⟨h1,e1⟩:=zk.mp a;obtain⟨h2,e2⟩:=zk.mp b;exact(List.getElem_inj hN).mp (e1.trans e2.symm)
theorem N5{M:Model}{E:Value->Shared->Prop}{i:Nat}{v:V}{Q:Unit->Shared->Prop}(I:Inv X pins Z H s)(hN:X.N.Nodup)(hi:X.N[i]?=some x)(hx:Loc X.env.scope x)(r:RelV v u)
 (h:∀s',Inv X pins (Z.set i (some v)) H s'->(∃a,Heap.SameBut a s.heap s'.heap/\(a=X.env.locals\/X.env.cells.lookup x=some a))->Q () s')(hf:X.fn x=true\/X.env.scope.names.lookup x=some .local:=by first | exact .inl rfl | exact .inr rfl | assumption):wpAny M A (storeName X.env x u) Q E s:=by
 obtain⟨m,hn,hl⟩:=id I.loc;have hcls:(X.env.scope.kind==.class||(X.env.scope.kind==.module&&X.env.locals != X.env.globals))=false:=by rw[I.ok.kind];rfl
 have hiσ:i<Z.length:=by rw[I.len];exact(zk.mp hi).1
 have cne:=I.cne;have tracked:∀{a:Addr} {h':Heap},(∃o,s.heap.get? a=some o/\H a=none)->Heap.SameBut a s.heap h'->HOk X.prog X.w H h':=fun{a h'} ha hs b ob e=>by
  obtain⟨_,_,hfree⟩:=ha;refine(I.hok b ob e).stay (fun c w' hc q=>(hs.2 c ?_).trans q) (fun _ q=>q) fun _ _ q=>q;rintro rfl;rcases hc with rfl | hc
  ·rw[hfree] at e;cases e
  ·rw[hfree] at hc;cases hc
 rcases hx with hk | hk
 ·refine wpAny_storeName_local hk hn (fun h' hn' hs=>?_) hcls;obtain⟨oL,_,_,hoL,_⟩:=id hn;refine h _ ⟨I.ok,I.os,I.bare,⟨fun b o e n hb hx=>?_,fun b o e n hb hx=>?_,I.base.free,fun b o e hx=>?_,I.base.tups,I.base.frzs,I.base.tbls⟩,⟨_,hn',fun j y v' e1 e2 e3=>?_⟩,fun y c e=>?_,I.free,I.freeC,fun p hp=>?_,tracked ⟨oL,hoL,I.free⟩ hs,by simpa using I.len⟩ ⟨_,hs,.inl rfl⟩
  ·exact(hs.2 b (kg (xk (xh e) I.ok.above))).trans (I.base.keep b o e n hb hx)
  ·obtain⟨sl,e1⟩:=I.base.slot b o e n hb hx;exact⟨sl,(hs.2 b (kg (xk (xh e) I.ok.above))).trans e1⟩
  ·obtain⟨o',e1⟩:=I.base.there b o e hx;exact⟨o',(hs.2 b (kg (xk (xh e) I.ok.above))).trans e1⟩
  ·by_cases hj:j=i
   ·subst hj;rw[hi] at e1;cases e1;rw[List.getElem?_set_self hiσ] at e2;cases e2;exact⟨u,r,.inl ⟨hk,by simp⟩⟩
   ·rw[List.getElem?_set_ne (Ne.symm hj)] at e2;obtain⟨u',r',q⟩:=hl j y v' e1 e2 e3;refine⟨u',r',?_⟩;rcases q with ⟨k,e⟩ | ⟨k,c,e,z⟩
    ·refine .inl ⟨k,?_⟩;have:y≠x:=fun e=>hj (Ze hN e1 (e ▸ hi));simp[this,e]
    ·exact .inr ⟨k,c,e,z.sameBut hs (cne y c e)⟩
  ·obtain⟨w',z⟩:=I.cell y c e;exact⟨w',z.sameBut hs (cne y c e)⟩
  ·obtain⟨e,n,ne,nf,d⟩:=I.pin p hp;exact⟨(hs.2 p.1 ne).trans e,n,ne,nf,d⟩
 ·have hfn:X.fn x=true:=by
   rcases hf with z | z
   ·exact z
   ·rw[z] at hk;cases hk
  obtain⟨c,hc⟩:=I.ok.has x (.inl hk);obtain⟨w',z⟩:=I.cell x c hc;refine wpAny_storeName_cell I.ok.kind hk hc z (fun h' hc' hs=>?_);obtain⟨oc,hoc,hocd⟩:=id z;refine h { s with heap:=h' } ⟨I.ok,I.os,I.bare,⟨fun b o e n hb hx=>?_,fun b o e n hb hx=>?_,I.base.free,fun b o e hx=>?_,I.base.tups,I.base.frzs,I.base.tbls⟩,⟨m,hn.sameBut hs (Ne.symm (cne x c hc)),fun j y v' e1 e2 e3=>?_⟩,fun y c' e=>?_,I.free,I.freeC,fun p hp=>?_,tracked ⟨oc,hoc,I.freeC x c hc⟩ hs,by simpa using I.len⟩ ⟨c,hs,.inr hc⟩
  ·exact(hs.2 b (kg (xk (xh e) (I.ok.cab x c hfn hc)))).trans (I.base.keep b o e n hb hx)
  ·obtain⟨sl,e1⟩:=I.base.slot b o e n hb hx;exact⟨sl,(hs.2 b (kg (xk (xh e) (I.ok.cab x c hfn hc)))).trans e1⟩
  ·obtain⟨o',e1⟩:=I.base.there b o e hx;exact⟨o',(hs.2 b (kg (xk (xh e) (I.ok.cab x c hfn hc)))).trans e1⟩
  ·by_cases hj:j=i
   ·subst hj;rw[hi] at e1;cases e1;rw[List.getElem?_set_self hiσ] at e2;cases e2;exact⟨u,r,.inr ⟨.inl hk,c,hc,hc'⟩⟩
   ·rw[List.getElem?_set_ne (Ne.symm hj)] at e2;obtain⟨u',r',q⟩:=hl j y v' e1 e2 e3;refine⟨u',r',?_⟩;rcases q with q | ⟨k,c',e,z'⟩
    ·exact .inl q
    ·refine .inr ⟨k,c',e,z'.sameBut hs ?_⟩;rintro rfl;exact hj (Ze hN e1 (I.ok.inj _ _ _ e hc ▸ hi))
  ·by_cases hcc:c'=c
   ·subst hcc;exact⟨_,hc'⟩
   ·obtain⟨w2,z2⟩:=I.cell y c' e;exact⟨w2,z2.sameBut hs hcc⟩
  ·obtain⟨e,n,ne,nf,d⟩:=I.pin p hp;refine⟨(hs.2 p.1 ?_).trans e,n,ne,nf,d⟩;intro q;rw[q,hoc] at e;have q':oc=p.2:=uk e;exact d w' (by rw[<-q'];exact hocd)
theorem MJ{M:Model}{E:Value->Shared->Prop}{i:Nat}{v:V}{Q:Unit->Shared->Prop}(I:Inv X pins Z H s)(hN:X.N.Nodup)(hi:X.N[i]?=some x)(hx:Loc X.env.scope x)(r:RelV v u)
 (h:∀s',Inv X pins (Z.set i (some v)) H s'->Q () s')(hf:X.fn x=true\/X.env.scope.names.lookup x=some .local:=by first | exact .inl rfl | exact .inr rfl | assumption):wpAny M A (storeName X.env x u) Q E s:=
 N5 I hN hi hx r (fun s' I' _=>h s' I') hf
theorem Inv.call'{s':Shared}{ch:List Addr}(I:Inv X pins Z H s)(ho:s'.os=s.os)(u:Un (frs X.stack) ch H H' s.heap s'.heap)(hok:HOk X.prog X.w H' s'.heap)(hg:AllBare s'.gens)
 (hch:∀b∈ch,(b∈X.ex\/X.s₀.heap.objs.size<=b)/\b≠X.env.locals/\(∀x c,X.env.cells.lookup x=some c->c≠b)/\∀p∈X.pn++pins,p.1≠b):Inv X pins Z H' s':=by
 obtain⟨h',g',d',t',o'⟩:=s';have e:o'=s.os:=ho;subst e;exact I.call (g':=g') (t':=t') (d':=d') u hok hg hch
end
noncomputable abbrev XK:=Value->Option Addr->Hp->Prop
noncomputable abbrev St:=List (Option V)
noncomputable abbrev VK:=V->Hp->Prop
noncomputable abbrev TE:=St->Hp->VK->Prop
noncomputable abbrev TT:=St->Hp->(Bool->Hp->Prop)->Prop
noncomputable abbrev TA:=St->Hp->(List V->Hp->Prop)->Prop
structure Ends where
 nx:St->Hp->Prop
 rt:VK
 bk:St->Hp->Prop:=fun _ _=>False
 ct:St->Hp->Prop:=fun _ _=>False
noncomputable abbrev TS:=Ends->St->Hp->Prop
def EP(X:Cx)(pins:List (Addr×Obj))(Z:St)(Q:VK)(u:Value)(s':Shared):Prop:=∃v H',Inv X pins Z H' s'/\RelV v u/\Q v H'
def TP(X:Cx)(pins:List (Addr×Obj))(Z:St)(Q:Bool->Hp->Prop)(b:Bool)(s':Shared):Prop:=∃H',Inv X pins Z H' s'/\Q b H'
def AP(X:Cx)(pins:List (Addr×Obj))(Z:St)(Q:List V->Hp->Prop)(us:List Value)(s':Shared):Prop:=∃vs H',Inv X pins Z H' s'/\Vals vs us/\Q vs H'
def SP(X:Cx)(pins:List (Addr×Obj))(D:Ends)(f:Flow)(s':Shared):Prop:=
 match f with
 | .next=>∃Z' H',Inv X pins Z' H' s'/\D.nx Z' H'
 | .brk=>∃Z' H',Inv X pins Z' H' s'/\D.bk Z' H'
 | .cont=>∃Z' H',Inv X pins Z' H' s'/\D.ct Z' H'
 | .ret u=>∃v Z' H',Inv X pins Z' H' s'/\RelV v u/\D.rt v H'
def PE(X:Cx)(e:Expr)(t:TE):Prop:=
 ∀ ⦃pins:List (Addr×Obj)⦄ (s:Shared) (Z:St) (H:Hp) (Q:VK),Inv X pins Z H s->t Z H Q->wpAny (model X.prog X.w) X.A (eval e X.env) (EP X pins Z Q) X.xe s
def PT(X:Cx)(e:Expr)(t:TT):Prop:=
 ∀ ⦃pins:List (Addr×Obj)⦄ (s:Shared) (Z:St) (H:Hp) (Q:Bool->Hp->Prop),Inv X pins Z H s->t Z H Q->wpAny (model X.prog X.w) X.A (isTrue e X.env (eval e X.env)) (TP X pins Z Q) X.xe s
def PW(X:Cx)(e:Expr)(t:TT):Prop:=
 ∀ ⦃whole:Sem Value⦄ (pins:List (Addr×Obj)) (s:Shared) (Z:St) (H:Hp) (Q:Bool->Hp->Prop),Inv X pins Z H s->t Z H Q->wpAny (model X.prog X.w) X.A (isTrue e X.env whole) (TP X pins Z Q) X.xe s
theorem PW.pt{X:Cx}{e:Expr}{t:TT}(h:PW X e t):PT X e t:=fun pins=>@h _ pins
def PA(X:Cx)(es:List Expr)(t:TA):Prop:=
 ∀ ⦃pos:Pos⦄ (pins:List (Addr×Obj)) (s:Shared) (Z:St) (H:Hp) (Q:List V->Hp->Prop),Inv X pins Z H s->t Z H Q->wpAny (model X.prog X.w) X.A (spliced (backTo pos (starEach es X.env))) (AP X pins Z Q) X.xe s
def PS(X:Cx)(st:Stmt)(t:TS):Prop:=
 ∀ ⦃pins:List (Addr×Obj)⦄ (s:Shared) (Z:St) (H:Hp) (D:Ends),Inv X pins Z H s->t D Z H->wpAny (model X.prog X.w) X.A (exec st X.env) (SP X pins D) X.xe s
def PSs(X:Cx)(st:List Stmt)(t:TS):Prop:=
 ∀ ⦃pins:List (Addr×Obj)⦄ (s:Shared) (Z:St) (H:Hp) (D:Ends),Inv X pins Z H s->t D Z H->wpAny (model X.prog X.w) X.A (execs st X.env) (SP X pins D) X.xe s
theorem thn{α:Type}{t:Sem α}{Q Q':α->Shared->Prop}{M:Model}{E:Value->Shared->Prop}{s:Shared}(h:wpAny M A t Q E s)(hQ:∀a s,Q a s->Q' a s):wpAny M A t Q' E s:=ja7 h hQ fun _ _ x=>x
variable{Z:St}{pos:Pos}{pins:List (Addr×Obj)}
section
variable{X:Cx}
def ADl:Option (Option V)->(V->Prop)->Prop
 | some (some v),k=>k v
 | _,_=>False
def Ie(i:Nat):TE:=fun Z H Q=>ADl Z[i]? fun v=>Q v H
theorem sZ{i:Nat}{Q:VK}(h:Ie i Z H Q):∃v,Z[i]?=some (some v)/\Q v H:=by
 unfold Ie at h
 match e:Z[i]?,h with
 | some (some v),h=>exact⟨v,rfl,h⟩
theorem J3{i:Nat}{Q:VK}{v:V}(e:Z[i]?=some (some v))(h:Q v H):Ie i Z H Q:=by
 unfold Ie;rw[e];exact h
noncomputable abbrev Vw(T G:Prop):=(T->G)->T->G
def tC(v:V):TE:=fun _ H Q=>Q v H
theorem oZ{i:Nat}(hN:X.N[i]?=some x)(hv:Vis X.env.scope x)(hd:(x==("__debug__":Str))=false:=by decide)(hcd:(x==("__classdict__":Str))=false:=by decide):PE X (.Name x pos) (Ie i):=by
 intro pins s Z H Q I h;obtain⟨v,e,h⟩:=sZ h;obtain⟨m,hn,hl⟩:=I.loc;obtain⟨u,r,l⟩:=hl i x v hN e hv;have fin:EP X pins Z Q u s:=⟨v,H,I,r,h⟩;rcases l with ⟨hk,hm⟩ | ⟨hk,c,hc,hcell⟩
 ·exact wpAny_Name (wpAny_loadName_local I.ok.kind hk hn hm fin) hd
 ·rcases hk with hk | hk
  ·exact wpAny_Name (wpAny_loadName_cell I.ok.kind hk hc hcell fin) hd
  ·exact wpAny_Name (wpAny_loadName_free I.ok.kind hk hc hcell fin hcd) hd
theorem Ah{i j pos}:PE X (.Constant (.int i) j pos) (tC (.int i)):=fun _ _ _ H _ I h=>wpAny_Constant_int ⟨.int i,H,I.tok _,⟨_,rfl⟩,h⟩
theorem Vm{b j pos}:PE X (.Constant (.bool b) j pos) (tC (.bl b)):=fun _ _ _ H _ I h=>Constant_bool ⟨.bl b,H,I,rfl,h⟩
theorem JP{j pos}:PE X (.Constant .none j pos) (tC .non):=fun _ _ _ H _ I h=>Constant_none ⟨.non,H,I,rfl,h⟩
theorem Aj{x j pos}:PE X (.Constant (.str x) j pos) (tC (.str x)):=fun _ _ _ H _ I h=>Calls.Constant_str ⟨.str x,H,I.tok _,⟨_,rfl⟩,h⟩
def Gl(X:Cx)(x:Str):Prop:=X.env.kindOf x=some .globalImplicit
theorem My{E:Value->Shared->Prop}{s:Shared}{Q:Value->Shared->Prop}(I:Inv X pins Z H s)(hg:Gl X x)(hm:X.mg x=some u)(h:Q u s)
 (hd:(x==("__debug__":Str))=false:=by decide):wpAny (model X.prog X.w) X.A (eval (.Name x pos) X.env) Q E s:=
 Calls.Name_function_global I.ok.kind hg (Calls.loadGlobal_global (by rw[I.ok.glob];exact I.mod.glob.keeps I.bk) hm h) hd
theorem Hs{E:Value->Shared->Prop}{s:Shared}{Q:Value->Shared->Prop}(I:Inv X pins Z H s)(hg:Gl X x)(hm:X.mg x=none)(hv:bootBuiltins x=some u)(h:Q u s)
 (hn:x≠"__name__":=by decide)(hd:(x==("__debug__":Str))=false:=by decide):wpAny (model X.prog X.w) X.A (eval (.Name x pos) X.env) Q E s:=by
 obtain⟨mb,h1,h2⟩:=I.mod.blt;exact Calls.Name_function_global I.ok.kind hg (Calls.loadGlobal_builtin (by rw[I.ok.glob];exact I.mod.glob.keeps I.bk) hm (by rw[I.ok.blt];exact h1.keeps I.bk) ((h2 x hn).trans hv) h) hd
theorem CN{v:V}(hg:Gl X x)(hm:X.mg x=some u)(r:RelV v u)(hd:(x==("__debug__":Str))=false:=by decide):PE X (.Name x pos) (tC v):=
 fun _ _ _ H _ I h=>My I hg hm ⟨v,H,I,r,h⟩ hd
theorem Xg{v:V}(hg:Gl X x)(hm:X.mg x=none)(hv:bootBuiltins x=some u)(r:RelV v u)(hn:x≠"__name__":=by decide)(hd:(x==("__debug__":Str))=false:=by decide):PE X (.Name x pos) (tC v):=
 fun _ _ _ H _ I h=>Hs I hg hm hv ⟨v,H,I,r,h⟩ hn hd
variable{a b:Expr}{ta tb:TE}{pos:Pos}
def PC(X:Cx)(op:CmpOp)(a b:Expr)(t:TE):Prop:=
 ∀(pins:List (Addr×Obj)) (s:Shared) (Z:St) (H:Hp) (Q:VK),Inv X pins Z H s->t Z H Q->
  wpAny (model X.prog X.w) X.A (eval a X.env) (fun v s₁=>wpAny (model X.prog X.w) X.A (eval b X.env) (fun u s₂=>wpAny (model X.prog X.w) X.A (compareOp op v u) (EP X pins Z Q) X.xe s₂) X.xe s₁) X.xe s
def tB(t:TE):TT:=fun Z H Q=>t Z H fun x H1=>∃c,x=.bl c/\Q c H1
theorem Xb{op:CmpOp}{t:TE}(h:PC X op a b t)(h1:behindInMarks op b=false:=by first | exact nobehind _ nofun nofun | rfl):PT X (.Compare a [op] [b] pos) (tB t):=by
 intro pins s Z H Q I hw;refine wpAny_isTrue_Compare1 (thn (h pins s Z H _ I hw) fun v s1 h1=>thn h1 fun u s2 h2=>thn h2 fun c s3 hZ=>?_) h1;obtain⟨x,H1,I1,r1,q1⟩:=hZ;obtain⟨d,rfl,q⟩:=q1;cases r1;exact jc1 ⟨H1,I1,q⟩
theorem Gq{e:Expr}{t:TE}(h:PE X e t)(he:∀whole,isTrue e X.env whole=(do let v <-whole;standAt e.pos;holding [v] (truthy v)):=by intro _;rfl):PT X e (tB t):=by
 intro pins s Z H Q I hw;refine isTrue_plain (thn (h s Z H _ I hw) fun v s1 hZ=>?_) (he _);obtain⟨x,H1,I1,r1,q1⟩:=hZ;obtain⟨d,rfl,q⟩:=q1;cases r1;exact jc1 ⟨H1,I1,q⟩
variable{tA tB':TT}{rest:List Expr}
def ABx(t u:TT):TT:=fun Z H Q=>t Z H fun c H1=>if c=true then u Z H1 Q else Q false H1
def tOr(t u:TT):TT:=fun Z H Q=>t Z H fun c H1=>if c=true then Q true H1 else u Z H1 Q
def ABr(t:TT):TT:=fun Z H Q=>t Z H fun c H1=>Q (!c) H1
theorem Kv(ha:PT X a tA):PW X (.BoolOp .And [a] pos) tA:=by
 intro wh pins s Z H Q I h;refine isTrue_and (thn (ha s Z H Q I h) fun c s1 e=>?_);cases c with
 | true=>exact isTrue_and_nil e
 | false=>exact e
theorem Gp(ha:PT X a tA):PW X (.BoolOp .Or [a] pos) tA:=by
 intro wh pins s Z H Q I h;refine isTrue_or (thn (ha s Z H Q I h) fun c s1 e=>?_);cases c with
 | false=>exact isTrue_or_nil e
 | true=>exact e
theorem Oh(ha:PT X a tA)(hb:PW X (.BoolOp .And (b::rest) pos) tB'):PW X (.BoolOp .And (a::b::rest) pos) (ABx tA tB'):=by
 intro wh pins s Z H Q I h;refine isTrue_and (thn (ha s Z H _ I h) fun c s1 hZ=>?_);obtain⟨H1,I1,q1⟩:=hZ;cases c with
 | true=>exact hb (whole:=wh) pins s1 Z H1 Q I1 q1
 | false=>exact⟨H1,I1,q1⟩
theorem Hr(ha:PT X a tA)(hb:PW X (.BoolOp .Or (b::rest) pos) tB'):PW X (.BoolOp .Or (a::b::rest) pos) (tOr tA tB'):=by
 intro wh pins s Z H Q I h;refine isTrue_or (thn (ha s Z H _ I h) fun c s1 hZ=>?_);obtain⟨H1,I1,q1⟩:=hZ;cases c with
 | true=>exact⟨H1,I1,q1⟩
 | false=>exact hb (whole:=wh) pins s1 Z H1 Q I1 q1
theorem Ih(ha:PT X a tA):PT X (.UnaryOp .Not a pos) (ABr tA):=by
 intro pins s Z H Q I h;exact isTrue_not (ha s Z H (fun c H1=>Q (!c) H1) I h)
def xQ(ta tb:TE):TE:=fun Z H Q=>ta Z H fun x H1=>∃c,x=.bl c/\if c=true then tb Z H1 Q else Q (.bl false) H1
theorem Xf{op}{t:TE}(h:PE X a t):PE X (.BoolOp op [a] pos) t:=fun pins s Z H Q I hw=>BoolOp_one (h s Z H Q I hw)
theorem Sd(ha:PE X a ta)(hb:PE X (.BoolOp .And (b::rest) pos) tb):PE X (.BoolOp .And (a::b::rest) pos) (xQ ta tb):=by
 intro pins s Z H Q I h;refine BoolOp_and (thn (ha s Z H _ I h) fun v s1 hZ=>?_);obtain⟨x,H1,I1,r1,q1⟩:=hZ;obtain⟨c,rfl,q1⟩:=q1;cases r1;refine jc1 ?_;cases c with
 | true=>exact hb s1 Z H1 Q I1 q1
 | false=>exact⟨.bl false,H1,I1,rfl,q1⟩
def tIf(t:TT)(ta tb:TE):TE:=fun Z H Q=>t Z H fun c H1=>if c=true then ta Z H1 Q else tb Z H1 Q
theorem Ed{c:Expr}(hc:PT X c tA)(ha:PE X a ta)(hb:PE X b tb):PE X (.IfExp c a b pos) (tIf tA ta tb):=by
 intro pins s Z H Q I h;refine wpAny_IfExp (thn (hc s Z H _ I h) fun d s1 hZ=>?_);obtain⟨H1,I1,q1⟩:=hZ;cases d with
 | true=>exact ha s1 Z H1 Q I1 q1
 | false=>exact hb s1 Z H1 Q I1 q1
end
def SqL(K:Fr)(H:Hp)(a:Addr)(xs:List V):Prop:=
 Rd H a (.lst xs)\/
  ∃(o:Obj) (its:Array Value) (n:Nat),K.lookup a=some o/\o.cls=.type "list"/\o.dict=none/\o.data=.seq its n/\its.size<=sizeLine/\Vals xs its.toList
def SqT(K:Fr)(H:Hp)(a:Addr)(xs:List V):Prop:=
 Rd H a (.tup xs)\/
  ∃(o:Obj) (its:Array Value) (n:Nat),K.lookup a=some o/\o.cls=.type "tuple"/\o.data=.seq its n/\its.size<=sizeLine/\Vals xs its.toList
noncomputable def AEb:Value->Option V
 | .none=>some .non
 | .bool b=>some (.bl b)
 | .int i _=>some (.int i)
 | .str x _=>some (.str x)
 | .bytes b _=>some (.byt b)
 | .float b _=>some (.flt b)
 | .ref a=>some (.ref a)
 | .type n=>some (.ty n)
 | _=>none
theorem RelV.abs{x:V}(r:RelV x u):AEb u=some x:=by
 cases x with
 | non=>cases r;rfl
 | bl _=>cases r;rfl
 | int _=>obtain⟨t,rfl⟩:=r;rfl
 | str _=>obtain⟨t,rfl⟩:=r;rfl
 | byt _=>obtain⟨t,rfl⟩:=r;rfl
 | flt _=>obtain⟨t,rfl⟩:=r;rfl
 | ref _=>cases r;rfl
 | ty _=>cases r;rfl
theorem RelV.inj{x y:V}(r:RelV x u)(q:RelV y u):x=y:=uk (r.abs.symm.trans q.abs)
theorem Vals.inj:∀{xs ys:List V} {us:List Value},Vals xs us->Vals ys us->xs=ys
 | _,_,_,.nil,.nil=>rfl
 | _,_,_,.cons r t,.cons r' t'=>by rw[r.inj r',Vals.inj t t']
variable{K:Fr}
section
variable{X:Cx}{pins:List (Addr×Obj)}{Z:St}{H:Hp}{s:Shared}{a:Addr}{xs ys:List V}
theorem SqL.of(h:H a=some (.lst xs)):SqL K H a xs:=.inl (.inl h)
theorem SqT.of(h:H a=some (.tup xs)):SqT K H a xs:=.inl (.inl h)
theorem Inv.list(I:Inv X pins Z H s)(h:SqL X.K H a xs):∃its:List Value,Vals xs its/\PlainL s.heap a its.toArray/\xs.length<=sizeLine:=by
 rcases h with h | ⟨o,its,n,hk,hc,hd,hs,hz,r⟩
 ·obtain⟨z,its,n,r,e⟩:=h.ok I.hok;exact⟨its,r,⟨_,n,e,rfl,rfl,rfl⟩,z⟩
 ·refine⟨its.toList,r,⟨o,n,I.kIn a o hk,hc,hd,by simpa using hs⟩,?_⟩;have e:=r.length;simp only[kr] at e;lia
theorem Inv.tuple(I:Inv X pins Z H s)(h:SqT X.K H a xs):∃its:List Value,Vals xs its/\IsTup s.heap a its.toArray/\xs.length<=sizeLine:=by
 rcases h with h | ⟨o,its,n,hk,hc,hs,hz,r⟩
 ·obtain⟨z,its,r,p⟩:=h.ok I.hok;exact⟨its,r,p,z⟩
 ·refine⟨its.toList,r,⟨o,I.kIn a o hk,hc,n,by simpa using hs⟩,?_⟩;have e:=r.length;simp only[kr] at e;lia
theorem Inv.list_inj(I:Inv X pins Z H s)(h:SqL X.K H a xs)(h':SqL X.K H a ys):xs=ys:=by
 obtain⟨its,r,⟨o,n,e,_,_,d⟩,_⟩:=I.list h;obtain⟨its',r',⟨o',n',e',_,_,d'⟩,_⟩:=I.list h';rw[e] at e';cases e';rw[d] at d';injection d' with d1 _;have:its=its':=by simpa using ya Array.toList d1
 subst this;exact r.inj r'
theorem Inv.tuple_inj(I:Inv X pins Z H s)(h:SqT X.K H a xs)(h':SqT X.K H a ys):xs=ys:=by
 obtain⟨its,r,⟨o,e,_,n,d⟩,_⟩:=I.tuple h;obtain⟨its',r',⟨o',e',_,n',d'⟩,_⟩:=I.tuple h';rw[e] at e';cases e';rw[d] at d';injection d' with d1 _;have:its=its':=by simpa using ya Array.toList d1
 subst this;exact r.inj r'
end
noncomputable abbrev Cx.wish(X:Cx)(E:Value->Shared->Prop):Cx:={ X with xe:=E }
noncomputable abbrev Cx.nox(X:Cx):Cx:=X.wish fun _ _=>False
theorem Cx.Ok.wish{X:Cx}(ok:X.Ok)(E:Value->Shared->Prop):(X.wish E).Ok:=
 ⟨ok.mod,ok.kind,ok.glob,ok.blt,ok.above,ok.inj,ok.has,ok.cab,ok.hd,ok.frames,ok.stk,ok.exf,ok.bs,ok.bsz,ok.noex,ok.exfs,ok.funs,ok.frf⟩
theorem Cx.Ok.unwish{X:Cx}{E:Value->Shared->Prop}(ok:(X.wish E).Ok):X.Ok:=
 ⟨ok.mod,ok.kind,ok.glob,ok.blt,ok.above,ok.inj,ok.has,ok.cab,ok.hd,ok.frames,ok.stk,ok.exf,ok.bs,ok.bsz,ok.noex,ok.exfs,ok.funs,ok.frf⟩
section
variable{X:Cx}{pins:List (Addr×Obj)}{Z:St}{H:Hp}{s:Shared}{E:Value->Shared->Prop}
theorem Inv.wish(I:Inv X pins Z H s)(E:Value->Shared->Prop):Inv (X.wish E) pins Z H s:=⟨I.ok.wish E,I.os,I.bare,I.base,I.loc,I.cell,I.free,I.freeC,I.pin,I.hok,I.len⟩
theorem Inv.unwish(I:Inv (X.wish E) pins Z H s):Inv X pins Z H s:=⟨I.ok.unwish,I.os,I.bare,I.base,I.loc,I.cell,I.free,I.freeC,I.pin,I.hok,I.len⟩
theorem SP.unwish{D:Ends}{f:Flow}{s':Shared}(h:SP (X.wish E) pins D f s'):SP X pins D f s':=by
 cases f with
 | next=>obtain⟨Z',H',I,q⟩:=h;exact⟨Z',H',I.unwish,q⟩
 | brk=>obtain⟨Z',H',I,q⟩:=h;exact⟨Z',H',I.unwish,q⟩
 | cont=>obtain⟨Z',H',I,q⟩:=h;exact⟨Z',H',I.unwish,q⟩
 | ret u=>obtain⟨v,Z',H',I,r,q⟩:=h;exact⟨v,Z',H',I.unwish,r,q⟩
theorem PSs.nox{st:List Stmt}{t:TS}(h:PSs X.nox st t):PSs X st t:=fun pins s Z H D I hw=>
 ja7 (h s Z H D (I.wish _) hw) (fun _ _ q=>q.unwish) fun _ _ z=>False.elim z
end
section
variable{X:Cx}{st:Stmt}{rest:List Stmt}{t u:TS}{e:Expr}{te:TE}{pos:Pos}
def xO:TS:=fun D Z H=>D.nx Z H
def yo(t u:TS):TS:=fun D Z H=>t { D with nx:=u D } Z H
theorem Ar:PSs X [] xO:=fun _ _ Z H _ I h=>jr3 ⟨Z,H,I,h⟩
theorem Ae(h1:PS X st t)(h2:PSs X rest u):PSs X (st::rest) (yo t u):=by
 intro pins s Z H D I h;refine wpAny_execs_cons (thn (h1 s Z H { D with nx:=u D } I h) fun f s1 q=>?_);cases f with
 | next=>
  obtain⟨Z',H',I',q⟩:=q;exact h2 s1 Z' H' D I' q
 | ret v=>exact q
 | brk=>exact q
 | cont=>exact q
theorem Af(h1:PS X st t):PSs X [st] t:=by
 intro pins s Z H D I h;refine wpAny_execs_cons (thn (h1 s Z H D I h) fun f s1 q=>?_);cases f with
 | next=>exact jr3 q
 | ret v=>exact q
 | brk=>exact q
 | cont=>exact q
theorem Inv.quiet{s:Shared}(I:Inv X pins Z H s):interactive X.env=false:=by simp[interactive,I.ok.kind]
def mR(te:TE):TS:=fun D Z H=>te Z H fun _ H1=>D.nx Z H1
theorem Be(he:PE X e te)(hs:‹swapsWith e none pos.line X.env=pure false›):PS X (.Expr e pos) (mR te):=by
 intro pins s Z H D I h;exact wpAny_Expr_any (thn (he s Z H _ I h) fun v s1 ⟨x,H1,I1,r1,q1⟩=>⟨Z,H1,I1,q1⟩) I.quiet hs
def ABp(te:TE):TS:=fun D Z H=>te Z H D.rt
theorem An(he:PE X e te):PS X (.Return (some e) pos) (ABp te):=by
 intro pins s Z H D I h;exact wpAny_Return_some (thn (he s Z H _ I h) fun v s1 ⟨x,H1,I1,r1,q1⟩=>⟨x,Z,H1,I1,r1,q1⟩)
def ABt(c:TT)(t u:TS):TS:=fun D Z H=>c Z H fun b H1=>if b=true then t D Z H1 else u D Z H1
theorem BK{c:Expr}{a b:List Stmt}{tc:TT}(hc:PT X c tc)(ha:PSs X a t)(hb:PSs X b u):PS X (.If c a b pos) (ABt tc t u):=by
 intro pins s Z H D I h;refine wpAny_If (thn (hc s Z H _ I h) fun d s1 hZ=>?_);obtain⟨H1,I1,q1⟩:=hZ;cases d with
 | true=>exact ha s1 Z H1 D I1 q1
 | false=>exact hb s1 Z H1 D I1 q1
def yp:TS:=fun _ _ _=>False
theorem Bc:PS X st yp:=fun _ _ _ _ _ _ h=>h.elim
end
noncomputable abbrev TG:=V->St->Hp->(St->Hp->Prop)->Prop
noncomputable abbrev TGs:=List V->St->Hp->(St->Hp->Prop)->Prop
def PG(X:Cx)(target:Expr)(t:TG):Prop:=
 ∀ ⦃pins:List (Addr×Obj)⦄ (s:Shared) (Z:St) (H:Hp) (v:V) (u:Value) (Q:St->Hp->Prop),Inv X pins Z H s->RelV v u->t v Z H Q->
  wpAny (model X.prog X.w) X.A (assign target X.env u) (fun _ s'=>∃Z' H',Inv X pins Z' H' s'/\Q Z' H') X.xe s
def PGs(X:Cx)(ts:List Expr)(t:TGs):Prop:=
 ∀ ⦃pins:List (Addr×Obj)⦄ (s:Shared) (Z:St) (H:Hp) (vs:List V) (us:List Value) (Q:St->Hp->Prop),Inv X pins Z H s->Vals vs us->t vs Z H Q->
  wpAny (model X.prog X.w) X.A (assignInOrder ((assignEach ts X.env).map (·.2)) us) (fun _ s'=>∃Z' H',Inv X pins Z' H' s'/\Q Z' H') X.xe s
noncomputable abbrev ABb:=V->V->V->Hp->(Hp->Prop)->Prop
def ADY(X:Cx)(t:ABb):Prop:=
 ∀(pins:List (Addr×Obj)) (s:Shared) (Z:St) (H:Hp) (o i v:V) (ov iv u:Value) (Q:Hp->Prop),Inv X pins Z H s->RelV o ov->RelV i iv->RelV v u->t o i v H Q->
  wpAny (model X.prog X.w) X.A (setItem ov iv u) (fun _ s'=>∃H',Inv X pins Z H' s'/\Q H') X.xe s
section
variable{X:Cx}{pos:Pos}
def Ht(i:Nat):TG:=fun v Z H Q=>Q (Z.set i (some v)) H
theorem CZ{i:Nat}(hN:X.N.Nodup)(hi:X.N[i]?=some x)(hx:Loc X.env.scope x)(hf:X.fn x=true\/X.env.scope.names.lookup x=some .local:=by first | exact .inl rfl | exact .inr rfl | assumption):PG X (.Name x pos) (Ht i):=by
 intro pins s Z H v u Q I r h;exact jt7 (MJ I hN hi hx r (fun s' I'=>⟨_,H,I',h⟩) hf)
def vf:TGs:=fun vs Z H Q=>vs=[]/\Q Z H
def Vz(t:TG)(u:TGs):TGs:=fun vs Z H Q=>∃v r,vs=v::r/\t v Z H fun Z' H'=>u r Z' H' Q
theorem Hl:PGs X [] vf:=by
 intro pins s Z H vs us Q I r h;obtain⟨e,h⟩:=h;subst e;cases r;exact assignInOrder_nil ⟨Z,H,I,h⟩
theorem DN{e:Expr}{es:List Expr}{t:TG}{u:TGs}(h1:PG X e t)(h2:PGs X es u)
 (hs:‹(assignEach (e::es) X.env).map (·.2)=assign e X.env::(assignEach es X.env).map (·.2)›):PGs X (e::es) (Vz t u):=by
 intro pins s Z H vs us Q I r h;obtain⟨v,vr,e1,h⟩:=h;subst e1;cases r with
 | cons r rr=>
  rw[hs];refine assignInOrder_cons (thn (h1 s Z H _ _ _ I r h) fun _ s1 hZ=>?_);obtain⟨σ1,H1,I1,q1⟩:=hZ;exact h2 s1 σ1 H1 _ _ Q I1 rr q1
def qK(K:Fr)(n:Nat)(t:TGs):TG:=fun v Z H Q=>∃a xs,v=.ref a/\SqT K H a xs/\xs.length=n/\t xs Z H Q
theorem J5{es:List Expr}{k:Nat}{t:TGs}{n:Nat}(hc:X.calm=true)(h:PGs X es t)
 (hn:‹(assignEach es X.env).length=n›)(hst:‹(assignEach es X.env).findIdx? (·.1)=none›):PG X (.Tuple es k pos) (qK X.K n t):=by
 intro pins s Z H v u Q I r hw;obtain⟨a,xs,e1,hq,hl,hw⟩:=hw;subst e1;cases r;obtain⟨its,rv,ht,hz⟩:=I.tuple hq;refine assign_Tuple_tuple (I.ok.hd hc) ht (by simp[hn,<-hl,rv.length]) hst fun h' hx=>?_;have I1:Inv X pins Z H { s with heap:=h' }:=I.kept (t':=s.toks) fun b o e=>hx b o (kg (xh e)) e;exact h _ Z H xs _ Q I1 (by simpa using rv) hw
def ADL(to ti:TE)(t:ABb):TG:=fun v Z H Q=>to Z H fun o H1=>ti Z H1 fun i H2=>t o i v H2 fun H3=>Q Z H3
theorem oY{o i:Expr}{to ti:TE}{t:ABb}(ho:PE X o to)(hi:PE X i ti)(hs:ADY X t)
 (ha:∀v,assign (.Subscript o i pos) X.env v=(do
  let ov <-holding [v] (eval o X.env)
  let iv <-holding [v,ov] (eval i X.env)
  standAt pos
  holding [v,ov,iv] (setItem ov iv v)
  release [v,ov,iv] []):=by intro _;rfl):PG X (.Subscript o i pos) (ADL to ti t):=by
 intro pins s Z H v u Q I r h;rw[ha];refine jv (ju2 (thn (ho s Z H _ I h) fun ov s1 hZ=>?_));obtain⟨x,H1,I1,r1,q1⟩:=hZ;refine jv (ju2 (thn (hi s1 Z H1 _ I1 q1) fun iv s2 hZ=>?_));obtain⟨y,H2,I2,r2,q2⟩:=hZ;refine jv (jp8 (jv (ju2 (thn (hs pins s2 Z H2 x y v ov iv u _ I2 r1 r2 r q2) fun _ s3 hZ=>?_))));obtain⟨H3,I3,q3⟩:=hZ;exact wpAny_release ⟨Z,H3,I3,q3⟩
def ie(te:TE)(g:TG):TS:=fun D Z H=>te Z H fun x H1=>g x Z H1 D.nx
theorem JN{tg e:Expr}{te:TE}{g:TG}(he:PE X e te)(hg:PG X tg g)(hs:‹swapsWithSole [tg] e pos.line X.env=pure false›)(hw:‹swappedStores [tg] e X.env=pure none›)
 (h1:‹(assignEach [tg] X.env).map (·.2)=[assign tg X.env]›):PS X (.Assign [tg] e pos) (ie te g):=by
 intro pins s Z H D I h;refine wpAny_Assign_stores (thn (he s Z H _ I h) fun v s1 hZ=>?_) hs hw;obtain⟨x,H1,I1,r1,q1⟩:=hZ;rw[h1];exact thn (hg s1 Z H1 x v _ I1 r1 q1) fun _ s2 q=>q
theorem Am(i:Nat){x:Str}{e:Expr}{te:TE}{pos':Pos}(he:PE X e te)(hN:X.N.Nodup:=by assumption)(hi:X.N[i]?=some x:=by exact rfl)(hx:Loc X.env.scope x:=by walk_at"o")(hs:‹swapsWith e (some (.Name x pos')) pos.line X.env=pure false›)(hf:X.fn x=true\/X.env.scope.names.lookup x=some .local:=by first | exact .inl rfl | exact .inr rfl | assumption):
 PS X (.Assign [.Name x pos'] e pos) (ie te (Ht i)):=by
 intro pins s Z H D I h;refine wpAny_Assign_Name (thn (he s Z H _ I h) fun v s1 hZ=>?_) hs;obtain⟨y,H1,I1,r1,q1⟩:=hZ;exact MJ I1 hN hi hx r1 (fun s2 I2=>⟨_,H1,I2,q1⟩) hf
def ABq(i j:Nat)(ta:TA):TS:=fun D Z H=>ta Z H fun vs H1=>∃v w,vs=[v,w]/\D.nx ((Z.set i (some v)).set j (some w)) H1
theorem AAQ{i j:Nat}{y:Str}{a b:Expr}{ta:TA}{px py pt:Pos}{kt k2 pt2}(hc:X.calm=true)(hN:X.N.Nodup)(hi:X.N[i]?=some x)(hj:X.N[j]?=some y)(hij:i≠j)
 (hx:X.env.scope.names.lookup x=some .local)(hy:X.env.scope.names.lookup y=some .local)(ha:PA X [a,b] ta)
 (hw:swappedStores [.Tuple [.Name x px,.Name y py] kt pt] (.Tuple [a,b] k2 pt2) X.env=pure (some [x,y]))
 (hs:‹swapsWithSole [.Tuple [.Name x px,.Name y py] kt pt] (.Tuple [a,b] k2 pt2) pos.line X.env=pure false›):
 PS X (.Assign [.Tuple [.Name x px,.Name y py] kt pt] (.Tuple [a,b] k2 pt2) pos) (ABq i j ta):=by
 intro pins s Z H D I h;rw[exec_Assign_arm];refine jv (jp8 ?_);rw[hs];refine jv (xz ?_);rw[xy nofun];refine jv (Tuple_ (thn (ha pins s Z H _ I h) fun us s1 hZ=>?_));obtain⟨vs,H1,I1,r1,q1⟩:=hZ;obtain⟨v,w,e1,q1⟩:=q1;subst e1;obtain⟨u1,u2,rfl,rv,rw'⟩:∃u1 u2,us=[u1,u2]/\RelV v u1/\RelV w u2:=by
  cases r1 with
  | cons p q=>
   cases q with
   | cons p' q'=>
    cases q';exact⟨_,_,rfl,p,p'⟩
 refine jn7 ?_ (by show 2<=sizeLine;decide);have I2:Inv X pins Z H1 { s1 with heap:=s1.heap.push { cls:=.type "tuple",data:=.seq [u1,u2].toArray } }:=I1.kept (t':=s1.toks) fun b o e=>qc _ e;rw[hw];refine jv (xz ?_);show wpAny (model X.prog X.w) X.A (do rule "assign.swapped-stores";let items <-unpackItems (.ref s1.heap.objs.size) 2 none;assignInOrder [fun v=>bindName X.env y v,fun v=>bindName X.env x v] items.reverse;pure Flow.next) _ _ _
 refine jv (jv7 (jv (unpackItems_tuple (items:= #[u1,u2]) (I.ok.hd hc) (IsTup.new s1.heap _) fun h' hx'=>?_)));have I3:=I2.kept (h':=h') (t':=s1.toks) fun b o e=>hx' b o (kg (xh e)) e;show wpAny _ _ (assignInOrder [fun v=>bindName X.env y v,fun v=>bindName X.env x v] [u2,u1] >>= fun _=>pure Flow.next) _ _ _
 refine jv (assignInOrder_cons (wpAny_bindName (MJ I3 hN hj (.inl hy) rw' (fun s2 I4=>?_) (.inr hy))));refine assignInOrder_cons (wpAny_bindName (MJ I4 hN hi (.inl hx) rv (fun s3 I5=>assignInOrder_nil (xz ?_)) (.inr hx)));rw[List.set_comm _ _ (Ne.symm hij)] at I5;exact⟨_,H1,I5,q1⟩
end
section
variable{X:Cx}{pos:Pos}
def ym(c:TT)(tb:TS):TS:=fun D Z H=>∃W:Nat->St->Hp->Prop,(∃m,W m Z H)/\∀m Z H,W m Z H->
 c Z H fun b H1=>if b=true then ∃N:St->Hp->Prop,(∀Z' H',N Z' H'->∃m',m'<m/\W m' Z' H')/\tb { D with nx:=N,ct:=N,bk:=D.nx } Z H1 else D.nx Z H1
theorem Gr{c:Expr}{body:List Stmt}{tc:TT}{tb:TS}(hp:PassesOwn (model X.prog X.w) X.A X.env X.xe)(hc:PT X c tc)(hb:PSs X body tb):PS X (.While c body [] pos) (ym tc tb):=by
 intro pins s Z H D I h;obtain⟨W,⟨m0,w0⟩,turn⟩:=h;refine wpAny_While (codeAny_whileLoop (fun n s'=>∃Z' H',Inv X pins Z' H' s'/\W n Z' H') ?_ m0 ⟨Z,H,I,w0⟩);rintro n s1 ⟨σ1,H1,I1,w1⟩;refine jh6 hp (thn (hc s1 σ1 H1 _ I1 (turn n σ1 H1 w1)) fun b s2 hZ=>?_);obtain⟨H2,I2,q2⟩:=hZ;cases b with
 | true=>
  obtain⟨N,hN,q2⟩:=q2;rw[xp rfl];refine jh6 hp (thn (hb s2 σ1 H2 _ I2 q2) fun f s3 q3=>?_);cases f with
  | next=>
   obtain⟨σ3,H3,I3,n3⟩:=q3;obtain⟨m',hm,w3⟩:=hN σ3 H3 n3;exact⟨m',hm,σ3,H3,I3,w3⟩
  | cont=>
   obtain⟨σ3,H3,I3,n3⟩:=q3;obtain⟨m',hm,w3⟩:=hN σ3 H3 n3;exact⟨m',hm,σ3,H3,I3,w3⟩
  | brk=>exact q3
  | ret v=>exact q3
 | false=>
  rw[xy zi];exact jr3 ⟨σ1,H2,I2,q2⟩
end
structure It where
 go:Nat->Hp->Prop
 yld:Nat->Hp->V->Hp->Prop
 stop:Nat->Hp->Prop
def Kr(X:Cx)(pins:List (Addr×Obj))(H:Hp)(b:Addr):Prop:=
 H b=none/\b≠X.env.locals/\b∉X.fs/\(b∈X.ex\/X.s₀.heap.objs.size<=b)/\(∀x c,X.env.cells.lookup x=some c->c≠b)/\∀p∈X.pn++pins,p.1≠b
theorem Inv.fpOk{X:Cx}{H':Hp}{s:Shared}{b:Addr}(I:Inv X pins Z H s)(hb:s.heap.objs.size<=b)(hn:H' b=none):Kr X pins H' b:=by
 refine⟨hn,jv5 (xk I.lt hb),I.nofs hb,.inr (zo I.sz hb),fun x c e z=>?_,fun p hp z=>?_⟩
 ·obtain⟨v,q⟩:=I.cell x c e;exact absurd (xk q.lt (by rw[z];exact hb)) (jg0 _)
 ·exact absurd (xk (xh (I.pin p hp).1) (by rw[z];exact hb)) (jg0 _)
structure Turn(P:Program)(w:World)(K:Fr)(tg:Expr)(J:It)(fp:List Addr)(it:Addr)(tn:Nat->Heap->Prop):Prop where
 mem:it∈fp
 obj:∀i h,tn i h->∀b∈fp,∃o,h.get? b=some o/\∀v,o.data≠.cell v
 keep:∀i h h',tn i h->(∀b∈fp,∀o,h.get? b=some o->h'.get? b=some o)->tn i h'
 item:∀(X:Cx),X.prog=P->X.w=w->X.K=K->X.calm=true->∀(i:Nat) (pins:List (Addr×Obj)) (s:Shared) (Z:St) (H:Hp) (E:Value->Shared->Prop),Inv X pins Z H s->(∀b∈fp,Kr X pins H b)->tn i s.heap->J.go i H->
  wpAny (model P w) X.A (pyNext (.ref it)) (fun r s1=>∃u,r=some u/\
   wpAny (model P w) X.A (letOwnedTupleGo tg (.ref it) u) (fun _ s2=>∃x H',Inv X pins Z H' s2/\RelV x u/\J.yld i H x H'/\tn (i+1) s2.heap/\∀b∈fp,H' b=none) E s1) E s
 done:∀(X:Cx),X.prog=P->X.w=w->X.K=K->X.calm=true->∀(i:Nat) (pins:List (Addr×Obj)) (s:Shared) (Z:St) (H:Hp) (E:Value->Shared->Prop),Inv X pins Z H s->(∀b∈fp,Kr X pins H b)->tn i s.heap->J.stop i H->
  wpAny (model P w) X.A (pyNext (.ref it)) (fun r s1=>r=none/\Inv X pins Z H s1) E s
 self:∀(A:Around) (i:Nat) (s:Shared) (Q:Value->Shared->Prop) (E:Value->Shared->Prop),tn i s.heap->Q (.ref it) s->wpAny (model P w) A (pyIter (.ref it)) Q E s
noncomputable abbrev TI:=St->Hp->(It->Hp->Prop)->Prop
def PIE(X:Cx)(pins:List (Addr×Obj))(Z:St)(tg:Expr)(R:It->Hp->Prop)(itv:Value)(s2:Shared):Prop:=
 ∃(it:Addr) (fp:List Addr) (tn:Nat->Heap->Prop) (J:It) (H':Hp),itv=.ref it/\Inv X pins Z H' s2/\Turn X.prog X.w X.K tg J fp it tn/\tn 0 s2.heap/\(∀b∈fp,Kr X pins H' b)/\R J H'
def PI(X:Cx)(tg iter:Expr)(wi:TI):Prop:=
 ∀ ⦃pins:List (Addr×Obj)⦄ (s:Shared) (Z:St) (H:Hp) (R:It->Hp->Prop),Inv X pins Z H s->wi Z H R->
  wpAny (model X.prog X.w) X.A (eval iter X.env) (fun v s1=>wpAny (model X.prog X.w) X.A (pyIter v) (PIE X pins Z tg R) X.xe s1) X.xe s
theorem Zk{M:Model}{E:Value->Shared->Prop}{s:Shared}{tg:Expr}{it:Addr}{o:Obj}{n:String}{vs:Array Value}{Q:Unit->Shared->Prop}(ho:s.heap.get? it=some o)(hc:o.cls=.type n)(hd:o.data=.fields vs)
 (hn:["enumerate","zip","dict_itemiterator","dict_reverseitemiterator","odict_iterator","itertools.zip_longest","itertools.pairwise"].contains n=false)(hQ:Q () s):wpAny M A (letOwnedTupleGo tg (.ref it) u) Q E s:=by
 unfold letOwnedTupleGo;cases tg<;>first
  | exact xz hQ
  | (cases u<;>first
   | exact xz hQ
   | (refine jv (wpAny_load ho ?_)
      rw[hc,hd];show wpAny M A (if (["enumerate","zip","dict_itemiterator","dict_reverseitemiterator","odict_iterator","itertools.zip_longest","itertools.pairwise"].contains n&&vs[0]?==some (rawInt _))=true then _ else _) Q E s;rw[xy (by intro h;rw[hn,Bool.false_and] at h;cases h)];exact xz hQ))
noncomputable def Itl(K:Fr)(a:Addr):It:=
 ⟨fun i H=>∃xs x,SqL K H a xs/\xs[i]?=some x,fun i H x H'=>H'=H/\∀xs,SqL K H a xs->xs[i]?=some x,fun i H=>∃xs,SqL K H a xs/\xs.length<=i⟩
noncomputable def Itt(K:Fr)(a:Addr):It:=
 ⟨fun i H=>∃xs x,SqT K H a xs/\xs[i]?=some x,fun i H x H'=>H'=H/\∀xs,SqT K H a xs->xs[i]?=some x,fun i H=>∃xs,SqT K H a xs/\xs.length<=i⟩
noncomputable def Itr(lo:Int)(n:Nat):It:=⟨fun i _=>i<n,fun i H x H'=>H'=H/\x=.int (lo+i),fun i _=>n<=i⟩
theorem iZ{P:Program}{w:World}{tg:Expr}(a it:Addr):Turn P w K tg (Itl K a) [it] it (fun i h=>h.IsListIter it a i) where
 mem:=by simp
 obj:=fun i h st b hb=>by
  have e:b=it:=by simpa using hb
  subst e;obtain⟨o,e,c,d⟩:=st;exact⟨o,e,fun v z=>by rw[d] at z;cases z⟩
 keep:=fun i h h' st k=>st.at fun o e=>k it (by simp) o e
 item:=by
  intro X hP hw hK hc i pins s Z H E I hf st hg;subst hP hw hK;obtain⟨xs,x,hq,hx⟩:=hg;obtain⟨its,rv,p,hz⟩:=I.list hq;obtain⟨u,hu,ru⟩:=rv.get hx;obtain⟨f0,f1,f2,f3,f4,f5⟩:=hf it (by simp);refine wpAny_pyNext_list_item st p.isList (x:=u) (by simpa using hu) fun h' st' sb=>?_;have I1:Inv X pins Z H { s with heap:=h' }:=I.turned (t':=s.toks) (fun b o hb e=>(sb.2 b hb).trans e) f0 f1 f3 f4 f5;obtain⟨o,e,c,d⟩:=id st';exact⟨u,rfl,Zk (s:={ s with heap:=h' }) e c d nofun ⟨x,H,I1,ru,⟨rfl,fun ys hy=>by rw[I.list_inj hy hq];exact hx⟩,st',fun b hb=>(hf b hb).1⟩⟩
 done:=by
  intro X hP hw hK hc i pins s Z H E I hf st hg;subst hP hw hK;obtain⟨xs,hq,hx⟩:=hg;obtain⟨its,rv,p,hz⟩:=I.list hq;obtain⟨f0,f1,f2,f3,f4,f5⟩:=hf it (by simp);have hl:=rv.length;exact wpAny_pyNext_list_end (I.ok.hd hc) st p.isList (by simp;lia) fun h' eb=>⟨rfl,I.turned (t':=s.toks) (fun b o hb e=>eb b o hb e) f0 f1 f3 f4 f5⟩
 self:=fun _ _ _ _ _ st h=>wpAny_pyIter_listiter st h
theorem ak{P:Program}{w:World}{tg:Expr}(a it:Addr):Turn P w K tg (Itt K a) [it] it (fun i h=>h.IsTupleIter it a i) where
 mem:=by simp
 obj:=fun i h st b hb=>by
  have e:b=it:=by simpa using hb
  subst e;obtain⟨o,e,c,d⟩:=st;exact⟨o,e,fun v z=>by rw[d] at z;cases z⟩
 keep:=fun i h h' st k=>st.at fun o e=>k it (by simp) o e
 item:=by
  intro X hP hw hK hc i pins s Z H E I hf st hg;subst hP hw hK;obtain⟨xs,x,hq,hx⟩:=hg;obtain⟨its,rv,p,hz⟩:=I.tuple hq;obtain⟨u,hu,ru⟩:=rv.get hx;obtain⟨f0,f1,f2,f3,f4,f5⟩:=hf it (by simp);refine wpAny_pyNext_tuple_item st (show s.heap.IsTuple a its.toArray from p) (x:=u) (by simpa using hu) fun h' st' sb=>?_;have I1:Inv X pins Z H { s with heap:=h' }:=I.turned (t':=s.toks) (fun b o hb e=>(sb.2 b hb).trans e) f0 f1 f3 f4 f5;obtain⟨o,e,c,d⟩:=id st';exact⟨u,rfl,Zk (s:={ s with heap:=h' }) e c d nofun ⟨x,H,I1,ru,⟨rfl,fun ys hy=>by rw[I.tuple_inj hy hq];exact hx⟩,st',fun b hb=>(hf b hb).1⟩⟩
 done:=by
  intro X hP hw hK hc i pins s Z H E I hf st hg;subst hP hw hK;obtain⟨xs,hq,hx⟩:=hg;obtain⟨its,rv,p,hz⟩:=I.tuple hq;obtain⟨f0,f1,f2,f3,f4,f5⟩:=hf it (by simp);have hl:=rv.length;exact wpAny_pyNext_tuple_end (I.ok.hd hc) st (show s.heap.IsTuple a its.toArray from p) (by simp;lia) fun h' eb=>⟨rfl,I.turned (t':=s.toks) (fun b o hb e=>eb b o hb e) f0 f1 f3 f4 f5⟩
 self:=fun _ _ _ _ _ st h=>wpAny_pyIter_tupleiter st h
theorem ao{P:Program}{w:World}{tg:Expr}(it:Addr)(lo:Int)(n:Nat):Turn P w K tg (Itr lo n) [it] it (fun i h=>IsRangeIter h it (lo+(i:Nat)*1) ((n:Int)-(i:Nat)) 1) where
 mem:=by simp
 obj:=fun i h st b hb=>by
  have e:b=it:=by simpa using hb
  subst e;exact⟨_,st,fun v z=>by
   have z':Data.fields _=Data.cell v:=z;cases z'⟩
 keep:=fun i h h' st k=>k it (by simp) _ st
 item:=by
  intro X hP hw hK hc i pins s Z H E I hf st hg;subst hP hw hK;obtain⟨f0,f1,f2,f3,f4,f5⟩:=hf it (by simp);have W:=Walks.range (prog:=X.prog) (w:=X.w) (I.ok.hd hc) it lo 1 n;refine W.item i s _ _ hg st fun v h' tk hv st' kk=>?_;obtain⟨t,rfl⟩:=hv;have I1:Inv X pins Z H { s with heap:=h',toks:=tk }:=I.turned (fun b o hb e=>kk b o (by simpa using hb) e) f0 f1 f3 f4 f5;refine⟨_,rfl,Zk (s:={ s with heap:=h',toks:=tk }) (n:="range_iterator") st' rfl rfl nofun ⟨.int (lo+i),H,I1,⟨t,?_⟩,⟨rfl,rfl⟩,st',fun b hb=>(hf b hb).1⟩⟩;rw[jb6]
 done:=by
  intro X hP hw hK hc i pins s Z H E I hf st hg;subst hP hw hK;obtain⟨f0,f1,f2,f3,f4,f5⟩:=hf it (by simp);exact wpAny_pyNext_range_end (I.ok.hd hc) st (by have:n<=i:=hg;lia) fun h' eb=>⟨rfl,I.turned (t':=s.toks) (fun b o hb e=>eb b o hb e) f0 f1 f3 f4 f5⟩
 self:=fun _ _ _ _ _ st h=>wpAny_pyIter_rangeiter st h
section
variable{X:Cx}{tg:Expr}
def yG(K:Fr)(tl:TE):TI:=fun Z H R=>tl Z H fun x H1=>∃a,x=.ref a/\(∃xs,SqL K H1 a xs)/\R (Itl K a) H1
def vZ(K:Fr)(tl:TE):TI:=fun Z H R=>tl Z H fun x H1=>∃a,x=.ref a/\(∃xs,SqT K H1 a xs)/\R (Itt K a) H1
theorem Gu{l:Expr}{tl:TE}(hl:PE X l tl):PI X tg l (yG X.K tl):=by
 intro pins s Z H R I h;refine thn (hl s Z H _ I h) fun v s1 hZ=>?_;obtain⟨x,H1,I1,r1,q1⟩:=hZ;obtain⟨a,e,⟨xs,hq⟩,q⟩:=q1;subst e;cases r1;obtain⟨its,rv,p,hz⟩:=I1.list hq;refine jt8 p.isList ?_;refine⟨s1.heap.objs.size,[s1.heap.objs.size],_,_,H1,rfl,I1.kept (t':=s1.toks) fun b o e=>qc _ e,iZ a _,⟨_,xa _ rfl,rfl,rfl⟩,fun b hb=>?_,q⟩;have e:b=s1.heap.objs.size:=by simpa using hb
 subst e;exact I1.fpOk (qo _) (I1.hok.fresh (qo _))
theorem SM{l:Expr}{tl:TE}(hl:PE X l tl):PI X tg l (vZ X.K tl):=by
 intro pins s Z H R I h;refine thn (hl s Z H _ I h) fun v s1 hZ=>?_;obtain⟨x,H1,I1,r1,q1⟩:=hZ;obtain⟨a,e,⟨xs,hq⟩,q⟩:=q1;subst e;cases r1;obtain⟨its,rv,p,hz⟩:=I1.tuple hq;refine wpAny_pyIter_tuple (show s1.heap.IsTuple a its.toArray from p) ?_;refine⟨s1.heap.objs.size,[s1.heap.objs.size],_,_,H1,rfl,I1.kept (t':=s1.toks) fun b o e=>qc _ e,ak a _,⟨_,xa _ rfl,rfl,rfl⟩,fun b hb=>?_,q⟩;have e:b=s1.heap.objs.size:=by simpa using hb
 subst e;exact I1.fpOk (qo _) (I1.hok.fresh (qo _))
theorem ZR{s:Shared}{R:It->Hp->Prop}{E:Value->Shared->Prop}{lo hi:Int}{t u v:Tok}{tk:Nat}(I:Inv X pins Z H s)(h1: -(2^62)<=lo)(h2:lo<2^62)(h3: -(2^62)<=hi)(h4:hi<2^62)
 (q:R (Itr lo (hi-lo).toNat) H):wpAny (model X.prog X.w) X.A (pyIter (.ref s.heap.objs.size)) (PIE X pins Z tg R) E { s with heap:=s.heap.push { cls:=.type "range",data:=.fields #[.int lo t,.int hi u,.int 1 v] },toks:=tk }:=by
 refine wpAny_pyIter_range (IsRange.new ..) (small_one h1 h2 h3 h4) ?_;have I1:Inv X pins Z H { s with heap:=s.heap.push { cls:=.type "range",data:=.fields #[.int lo t,.int hi u,.int 1 v] },toks:=tk }:=I.kept fun b o e=>qc _ e;refine⟨(s.heap.push { cls:=.type "range",data:=.fields #[.int lo t,.int hi u,.int 1 v] }).objs.size,[(s.heap.push { cls:=.type "range",data:=.fields #[.int lo t,.int hi u,.int 1 v] }).objs.size],_,_,H,rfl,
  I1.kept (t':=tk) fun b o e=>qc _ e,ao _ lo (hi-lo).toNat,?_,fun b hb=>?_,q⟩
 ·have e1:lo+((0:Nat):Int)*1=lo:=by simp
  have e2:(((hi-lo).toNat:Nat):Int)-((0:Nat):Int)=Builtin.Range.rangeSize lo hi 1:=by rw[rangeSize_one];split<;>lia
  show IsRangeIter _ _ (lo+((0:Nat):Int)*1) ((((hi-lo).toNat:Nat):Int)-((0:Nat):Int)) 1;rw[e1,e2];exact xa _ rfl
 ·have e:b=(s.heap.push { cls:=.type "range",data:=.fields #[.int lo t,.int hi u,.int 1 v] }).objs.size:=by simpa using hb
  subst e;exact I1.fpOk (qo _) (I1.hok.fresh (qo _))
def yF(ta:TA):TI:=fun Z H R=>ta Z H fun vs H1=>∃j:Int,vs=[.int j]/\ -(2^62)<=j/\j<2^62/\R (Itr 0 j.toNat) H1
def yE(ta:TA):TI:=fun Z H R=>ta Z H fun vs H1=>∃i j:Int,vs=[.int i,.int j]/\(-(2^62)<=i/\i<2^62/\ -(2^62)<=j/\j<2^62)/\R (Itr i (j-i).toNat) H1
theorem Oi{a:Expr}{ta:TA}{p:Pos}(hg:Gl X "range")(hm:X.mg "range"=none)(ha:PA X [a] ta)(hs:‹starEach [a] X.env=[(false,eval a X.env)]›):PI X tg (.Call (.Name "range" p) [a] [] pos) (yF ta):=by
 intro pins s Z H R I h;refine Call_ (Hs I hg hm boot_range (vb (thn (ha (pos:=pos) pins s Z H _ I h) fun us s1 hZ=>?_) hs rfl));obtain⟨vs,H1,I1,r1,q1⟩:=hZ;obtain⟨j,e,q1,q2,q⟩:=q1;subst e;cases r1 with
 | cons r rr=>
  cases rr;obtain⟨t,rfl⟩:=r;exact call_range_1 (ZR I1 ⋯ ⋯ q1 q2 (by simpa using q))
theorem jW{a b:Expr}{ta:TA}{p:Pos}(hg:Gl X "range")(hm:X.mg "range"=none)(ha:PA X [a,b] ta)(hs:‹starEach [a,b] X.env=[(false,eval a X.env),(false,eval b X.env)]›)(hs2:‹starEach [b] X.env=[(false,eval b X.env)]›):
 PI X tg (.Call (.Name "range" p) [a,b] [] pos) (yE ta):=by
 intro pins s Z H R I h;refine Call_ (Hs I hg hm boot_range (vb (thn (ha (pos:=pos) pins s Z H _ I h) fun us s1 ⟨vs,H1,I1,r1,q1⟩=>?_) (by rw[hs,hs2]) (by rw[hs2];rfl)));obtain⟨i,j,e,⟨q1,q2,q3,q4⟩,q⟩:=q1;subst e;cases r1 with
 | cons r rr=>
  cases rr with
  | cons r' rr=>
   cases rr;obtain⟨t,rfl⟩:=r;obtain⟨t',rfl⟩:=r';exact call_range_2 (ZR I1 q1 q2 q3 q4 q)
def ABu(wi:TI)(g:TG)(tb:TS):TS:=fun D Z H=>wi Z H fun J H1=>∃W:Nat->Nat->St->Hp->Prop,(∃m,W 0 m Z H1)/\∀i m Z H,W i m Z H->
 (J.stop i H/\D.nx Z H)\/(J.go i H/\∃N:St->Hp->Prop,(∀Z' H',N Z' H'->∃m',m'<m/\W (i+1) m' Z' H')/\∀x H',J.yld i H x H'->g x Z H' fun σ2 H2=>tb { D with nx:=N,ct:=N,bk:=D.nx } σ2 H2)
noncomputable def R9(fp:List Addr)(h:Heap):List (Addr×Obj):=fp.filterMap fun b=>(h.get? b).map fun o=>(b,o)
theorem JT{fp:List Addr}{h:Heap}{b:Addr}{o:Obj}(hb:b∈fp)(e:h.get? b=some o):(b,o)∈R9 fp h:=js0.mpr ⟨b,hb,by rw[e];rfl⟩
theorem jZ{fp:List Addr}{h:Heap}{p:Addr×Obj}(hp:p∈R9 fp h):p.1∈fp/\h.get? p.1=some p.2:=by
 obtain⟨b,hb,e⟩:=js0.mp hp;cases q:h.get? b with
 | none=>rw[q] at e;cases e
 | some o=>
  rw[q] at e;have e':(b,o)=p:=uk e;subst e';exact⟨hb,q⟩
theorem Inv.pinned{s:Shared}{fp:List Addr}(I:Inv X pins Z H s)(hf:∀b∈fp,Kr X pins H b)(ho:∀b∈fp,∃o,s.heap.get? b=some o/\∀v,o.data≠.cell v):Inv X (pins++R9 fp s.heap) Z H s:=
 I.pins_of fun p hp=>(yb.mp hp).elim (fun z=>I.pin p (yi _ z)) fun z=>by
  obtain⟨hb,e⟩:=jZ z;obtain⟨f0,f1,f2,_⟩:=hf p.1 hb;obtain⟨o,e',d⟩:=ho p.1 hb;rw[e] at e';cases e';exact⟨e,f0,f1,f2,d⟩
theorem Inv.unpinned{pl:List (Addr×Obj)}{s:Shared}(I:Inv X (pins++pl) Z H s):Inv X pins Z H s:=I.pins_of fun p hp=>I.pin p (yi _ (ja1 _ hp))
theorem JM{iter:Expr}{body:List Stmt}{wi:TI}{g:TG}{tb:TS}(hp:PassesOwn (model X.prog X.w) X.A X.env X.xe)(hc:X.calm=true)(hi:PI X tg iter wi)(hg:PG X tg g)(hb:PSs X body tb)
 (hs:∀x,foldedSetIterable iter X.env x=pure x:=by intro _;rfl):PS X (.For tg iter body [] pos) (ABu wi g tb):=by
 intro pins s Z H D I h;refine wpAny_For (thn (hi s Z H _ I h) fun v s1 h1=>thn h1 fun itv s2 h2=>?_) hs;obtain⟨it,fp,tn,J,H2,e,I2,T,st2,f2,W,⟨m0,w0⟩,turn⟩:=h2;subst e;have stat:∀{H':Hp},(∀b∈fp,H' b=none)->∀b∈fp,Kr X pins H' b:=fun hn b hb=>⟨hn b hb,(f2 b hb).2⟩;refine codeAny_forLoop_any (fun n s'=>∃i Z' H',Inv X pins Z' H' s'/\tn i s'.heap/\(∀b∈fp,H' b=none)/\W i n Z' H') ?_ m0 ⟨0,Z,H2,I2,st2,fun b hb=>(f2 b hb).1,w0⟩;rintro n s3 ⟨i,σ3,H3,I3,st3,fr3,w3⟩;rcases turn i n σ3 H3 w3 with ⟨stop,qn⟩ | ⟨go,N,hN,step⟩
 ·refine jh6 hp (thn (T.done X rfl rfl rfl hc i pins s3 σ3 H3 X.xe I3 (stat fr3) st3 stop) fun r s4 ⟨hr,I4⟩=>?_);subst hr;exact jr3 ⟨σ3,H3,I4,qn⟩
 ·refine jh6 hp (thn (T.item X rfl rfl rfl hc i pins s3 σ3 H3 X.xe I3 (stat fr3) st3 go) fun r s4 ⟨u,hr,h4⟩=>?_);subst hr;refine jh6 hp (thn h4 fun _ s5 hZ=>?_);obtain⟨x,H5,I5,r5,y5,st5,fr5⟩:=hZ;have I5':=I5.pinned (stat fr5) (T.obj _ _ st5);refine jh6 hp (thn (hg s5 σ3 H5 x u _ I5' r5 (step x H5 y5)) fun _ s6 hZ=>?_);obtain⟨σ6,H6,I6,q6⟩:=hZ;refine jh6 hp (thn (hb s6 σ6 H6 _ I6 q6) fun f s7 q7=>?_);have again:∀{σ7:St} {H7:Hp},Inv X (pins++R9 fp s5.heap) σ7 H7 s7->N σ7 H7->∃m,m<n/\∃i Z' H',Inv X pins Z' H' s7/\tn i s7.heap/\(∀b∈fp,H' b=none)/\W i m Z' H':=fun{σ7 H7} I7 n7=>by
   obtain⟨m',hm,w7⟩:=hN σ7 H7 n7;refine⟨m',hm,i+1,σ7,H7,I7.unpinned,T.keep _ _ _ st5 fun b hb o e=>(I7.pin (b,o) (yi _ (yi _ (JT hb e)))).1,fun b hb=>?_,w7⟩;obtain⟨o,e,d⟩:=T.obj _ _ st5 b hb;exact(I7.pin (b,o) (yi _ (yi _ (JT hb e)))).2.1
  cases f with
  | next=>obtain⟨σ7,H7,I7,n7⟩:=q7;exact again I7 n7
  | cont=>obtain⟨σ7,H7,I7,n7⟩:=q7;exact again I7 n7
  | brk=>obtain⟨σ7,H7,I7,q7⟩:=q7;exact⟨σ7,H7,I7.unpinned,q7⟩
  | ret v=>obtain⟨x7,σ7,H7,I7,r7,q7⟩:=q7;exact⟨x7,σ7,H7,I7.unpinned,r7,q7⟩
end
theorem KZ{xs:List V}{g:TG}{tb:TS}{D:Ends}(Pv:Nat->St->Hp->Prop)(h0:Pv 0 Z H)(hl:∀i Z H,i<=xs.length->Pv i Z H->SqL K H a xs)
 (hs:∀i x Z H,xs[i]?=some x->Pv i Z H->g x Z H fun σ2 H2=>tb { D with nx:=Pv (i+1),ct:=Pv (i+1),bk:=D.nx } σ2 H2)(hd:∀Z H,Pv xs.length Z H->D.nx Z H):
 ∃W:Nat->Nat->St->Hp->Prop,(∃m,W 0 m Z H)/\∀i m Z H,W i m Z H->
  ((Itl K a).stop i H/\D.nx Z H)\/((Itl K a).go i H/\∃N:St->Hp->Prop,(∀Z' H',N Z' H'->∃m',m'<m/\W (i+1) m' Z' H')/\∀x H',(Itl K a).yld i H x H'->g x Z H' fun σ2 H2=>tb { D with nx:=N,ct:=N,bk:=D.nx } σ2 H2):=by
 refine⟨fun i m Z H=>m=xs.length-i/\i<=xs.length/\Pv i Z H,⟨xs.length,by simp,ka _,h0⟩,?_⟩;rintro i m Z H ⟨rfl,hi,p⟩;have q:=hl i Z H hi p;by_cases hlt:i<xs.length
 ·refine .inr ⟨⟨xs,xs[i],q,by simp[hlt]⟩,Pv (i+1),fun Z' H' p'=>⟨xs.length-(i+1),⋯,rfl,hlt,p'⟩,fun x H' y=>?_⟩;obtain⟨e,y⟩:=y;subst e;exact hs i x Z _ (y xs q) p
 ·have e:i=xs.length:=⋯
  subst e;exact .inl ⟨⟨xs,q,qo _⟩,hd Z H p⟩
theorem vg{xs:List V}{g:TG}{tb:TS}{D:Ends}(Pv:Nat->St->Hp->Prop)(h0:Pv 0 Z H)(hl:∀i Z H,i<=xs.length->Pv i Z H->SqT K H a xs)
 (hs:∀i x Z H,xs[i]?=some x->Pv i Z H->g x Z H fun σ2 H2=>tb { D with nx:=Pv (i+1),ct:=Pv (i+1),bk:=D.nx } σ2 H2)(hd:∀Z H,Pv xs.length Z H->D.nx Z H):
 ∃W:Nat->Nat->St->Hp->Prop,(∃m,W 0 m Z H)/\∀i m Z H,W i m Z H->
  ((Itt K a).stop i H/\D.nx Z H)\/((Itt K a).go i H/\∃N:St->Hp->Prop,(∀Z' H',N Z' H'->∃m',m'<m/\W (i+1) m' Z' H')/\∀x H',(Itt K a).yld i H x H'->g x Z H' fun σ2 H2=>tb { D with nx:=N,ct:=N,bk:=D.nx } σ2 H2):=by
 refine⟨fun i m Z H=>m=xs.length-i/\i<=xs.length/\Pv i Z H,⟨xs.length,by simp,ka _,h0⟩,?_⟩;rintro i m Z H ⟨rfl,hi,p⟩;have q:=hl i Z H hi p;by_cases hlt:i<xs.length
 ·refine .inr ⟨⟨xs,xs[i],q,by simp[hlt]⟩,Pv (i+1),fun Z' H' p'=>⟨xs.length-(i+1),⋯,rfl,hlt,p'⟩,fun x H' y=>?_⟩;obtain⟨e,y⟩:=y;subst e;exact hs i x Z _ (y xs q) p
 ·have e:i=xs.length:=⋯
  subst e;exact .inl ⟨⟨xs,q,qo _⟩,hd Z H p⟩
theorem j9{lo:Int}{n:Nat}{g:TG}{tb:TS}{D:Ends}(Pv:Nat->St->Hp->Prop)(h0:Pv 0 Z H)
 (hs:∀i Z H,i<n->Pv i Z H->g (.int (lo+i)) Z H fun σ2 H2=>tb { D with nx:=Pv (i+1),ct:=Pv (i+1),bk:=D.nx } σ2 H2)(hd:∀Z H,Pv n Z H->D.nx Z H):
 ∃W:Nat->Nat->St->Hp->Prop,(∃m,W 0 m Z H)/\∀i m Z H,W i m Z H->
  ((Itr lo n).stop i H/\D.nx Z H)\/((Itr lo n).go i H/\∃N:St->Hp->Prop,(∀Z' H',N Z' H'->∃m',m'<m/\W (i+1) m' Z' H')/\∀x H',(Itr lo n).yld i H x H'->g x Z H' fun σ2 H2=>tb { D with nx:=N,ct:=N,bk:=D.nx } σ2 H2):=by
 refine⟨fun i m Z H=>m=n-i/\i<=n/\Pv i Z H,⟨n,by simp,ka _,h0⟩,?_⟩;rintro i m Z H ⟨rfl,hi,p⟩;by_cases hlt:i<n
 ·refine .inr ⟨hlt,Pv (i+1),fun Z' H' p'=>⟨n-(i+1),⋯,rfl,hlt,p'⟩,fun x H' y=>?_⟩;obtain⟨e,y⟩:=y;subst e y;exact hs i Z _ hlt p
 ·have e:i=n:=⋯
  subst e;exact .inl ⟨qo _,hd Z H p⟩
noncomputable abbrev R2:=V->V->Hp->VK->Prop
def OpR(X:Cx)(f:Value->Value->Sem Value)(r:R2):Prop:=
 ∀(pins:List (Addr×Obj)) (s:Shared) (Z:St) (H:Hp) (x y:V) (v u:Value) (Q:VK),Inv X pins Z H s->RelV x v->RelV y u->r x y H Q->
  wpAny (model X.prog X.w) X.A (f v u) (EP X pins Z Q) X.xe s
def UnR(X:Cx)(f:Value->Sem Value)(r:V->Hp->VK->Prop):Prop:=
 ∀(pins:List (Addr×Obj)) (s:Shared) (Z:St) (H:Hp) (x:V) (v:Value) (Q:VK),Inv X pins Z H s->RelV x v->r x H Q->
  wpAny (model X.prog X.w) X.A (f v) (EP X pins Z Q) X.xe s
def Hv(X:Cx)(f:Value)(r:List V->Hp->VK->Prop):Prop:=
 ∀(pins:List (Addr×Obj)) (s:Shared) (Z:St) (H:Hp) (xs:List V) (us:List Value) (Q:VK),Inv X pins Z H s->Vals xs us->r xs H Q->
  wpAny (model X.prog X.w) X.A (call f us) (EP X pins Z Q) X.xe s
def AEe(X:Cx)(r:V->Hp->(Bool->Hp->Prop)->Prop):Prop:=
 ∀(pins:List (Addr×Obj)) (s:Shared) (Z:St) (H:Hp) (x:V) (v:Value) (Q:Bool->Hp->Prop),Inv X pins Z H s->RelV x v->r x H Q->
  wpAny (model X.prog X.w) X.A (truthy v) (TP X pins Z Q) X.xe s
def tOp(r:R2)(ta tb:TE):TE:=fun Z H Q=>ta Z H fun x H1=>tb Z H1 fun y H2=>r x y H2 Q
def tUn(r:V->Hp->VK->Prop)(ta:TE):TE:=fun Z H Q=>ta Z H fun x H1=>r x H1 Q
def rI(C:Int->Int->Prop)(g:Int->Int->V):R2:=fun x y H Q=>∃i j,x=.int i/\y=.int j/\C i j/\Q (g i j) H
def rI0(g:Int->Int->V):R2:=fun x y H Q=>∃i j,x=.int i/\y=.int j/\Q (g i j) H
def rU(g:Int->V):V->Hp->VK->Prop:=fun x H Q=>∃i,x=.int i/\Q (g i) H
section
variable{X:Cx}{a b c:Expr}{ta tb tc:TE}{pos:Pos}
theorem ABT(ha:PE X a ta)(hb:PE X b tb){pins:List (Addr×Obj)}{s:Shared}{Z:St}{H:Hp}{R:V->V->Hp->Prop}(I:Inv X pins Z H s)
 (h:ta Z H fun x H1=>tb Z H1 fun y H2=>R x y H2){Q:Value->Shared->Prop}{f:Value->Value->Sem Value}
 (hf:∀v u s2 x y H2,Inv X pins Z H2 s2->RelV x v->RelV y u->R x y H2->wpAny (model X.prog X.w) X.A (f v u) Q X.xe s2):
 wpAny (model X.prog X.w) X.A (eval a X.env) (fun v s₁=>wpAny (model X.prog X.w) X.A (eval b X.env) (fun u s₂=>wpAny (model X.prog X.w) X.A (f v u) Q X.xe s₂) X.xe s₁) X.xe s:=by
 refine thn (ha s Z H _ I h) fun v s1 hZ=>?_;obtain⟨x,H1,I1,r1,q1⟩:=hZ;refine thn (hb s1 Z H1 _ I1 q1) fun u s2 hZ=>?_;obtain⟨y,H2,I2,r2,q2⟩:=hZ;exact hf v u s2 x y H2 I2 r1 r2 q2
theorem Ai{op:Operator}{r:R2}(ho:OpR X (binaryOp op) r)(ha:PE X a ta)(hb:PE X b tb):PE X (.BinOp a op b pos) (tOp r ta tb):=by
 intro pins s Z H Q I h;exact wpAny_BinOp (ABT ha hb I h fun v u s2 x y H2 I2 rx ry q=>ho pins s2 Z H2 x y v u Q I2 rx ry q)
theorem HF{op:UnaryOp}{r:V->Hp->VK->Prop}(ho:UnR X (unaryOp op) r)(ha:PE X a ta):PE X (.UnaryOp op a pos) (tUn r ta):=by
 intro pins s Z H Q I h;exact UnaryOp_ (thn (ha s Z H _ I h) fun v s1 ⟨x,H1,I1,r1,q1⟩=>ho pins s1 Z H1 x v Q I1 r1 q1)
theorem opI{f:Value->Value->Sem Value}{C:Int->Int->Prop}{g:Int->Int->Int}
 (rule:∀(i j:Int) (t u:Tok) (s:Shared) (Q:Value->Shared->Prop) (E:Value->Shared->Prop),C i j->Q (.int (g i j) s.toks) { s with toks:=s.toks+1 }->wpAny (model X.prog X.w) X.A (f (.int i t) (.int j u)) Q E s):
 OpR X f (rI C fun i j=>.int (g i j)):=by
 intro pins s Z H x y v u Q I rx ry h;obtain⟨i,j,rfl,rfl,hc,q⟩:=h;obtain⟨t,rfl⟩:=rx;obtain⟨t',rfl⟩:=ry;exact rule i j t t' s _ _ hc ⟨.int (g i j),H,I.tok _,⟨_,rfl⟩,q⟩
theorem pH{f:Value->Value->Sem Value}{g:Int->Int->Int}
 (rule:∀(i j:Int) (t u:Tok) (s:Shared) (Q:Value->Shared->Prop) (E:Value->Shared->Prop),Q (.int (g i j) s.toks) { s with toks:=s.toks+1 }->wpAny (model X.prog X.w) X.A (f (.int i t) (.int j u)) Q E s):
 OpR X f (rI0 fun i j=>.int (g i j)):=by
 intro pins s Z H x y v u Q I rx ry h;obtain⟨i,j,rfl,rfl,q⟩:=h;obtain⟨t,rfl⟩:=rx;obtain⟨t',rfl⟩:=ry;exact rule i j t t' s _ _ ⟨.int (g i j),H,I.tok _,⟨_,rfl⟩,q⟩
theorem uy{f:Value->Value->Sem Value}{g:Int->Int->Bool}
 (rule:∀(i j:Int) (t u:Tok) (s:Shared) (Q:Value->Shared->Prop) (E:Value->Shared->Prop),Q (.bool (g i j)) s->wpAny (model X.prog X.w) X.A (f (.int i t) (.int j u)) Q E s):
 OpR X f (rI0 fun i j=>.bl (g i j)):=by
 intro pins s Z H x y v u Q I rx ry h;obtain⟨i,j,rfl,rfl,q⟩:=h;obtain⟨t,rfl⟩:=rx;obtain⟨t',rfl⟩:=ry;exact rule i j t t' s _ _ ⟨.bl (g i j),H,I,rfl,q⟩
def ADd(i j:Int):Prop:=0<=j/\j<=1000000/\i.natAbs<2^64
theorem aj(k:Nat):(0:Int)<=2^k:=by
 rw[two_pow_cast];exact jl9 _
theorem Bv:OpR X (binaryOp .Add) (rI0 fun i j=>.int (i+j)):=pH fun _ _ _ _ _ _ _ q=>add_int q
theorem Do:OpR X (binaryOp .Sub) (rI0 fun i j=>.int (i-j)):=pH fun _ _ _ _ _ _ _ q=>sub_int q
theorem Bu:OpR X (binaryOp .Mod) (rI (fun _ j=>0<j) fun i j=>.int (i%j)):=opI fun i j _ _ _ _ _ hc q=>by
 have h1:(0:Int)<j:=hc;exact mod_int' ⋯ (by rw[Int.fmod_eq_emod_of_nonneg i ⋯];exact q)
theorem Li:OpR X (binaryOp .Pow) (rI ADd fun i j=>.int (i^j.toNat)):=opI fun _ _ _ _ _ _ _ hc q=>pow_int_small hc.1 hc.2.1 hc.2.2 q
theorem Lh:OpR X (binaryOp .RShift) (rI (fun _ j=>0<=j) fun i j=>.int (i/2^j.toNat)):=opI fun i j _ _ _ _ _ hc q=>
 rshift_int hc (by rw[jr5 i (aj _)];exact q)
theorem Hf:OpR X (binaryOp .BitAnd) (rI0 fun i j=>.int (Builtin.bitAnd i j)):=pH fun _ _ _ _ _ _ _ q=>and_int q
theorem Zb:OpR X (binaryOp .BitOr) (rI0 fun i j=>.int (Builtin.bitOr i j)):=pH fun _ _ _ _ _ _ _ q=>or_int q
theorem cJ:OpR X (binaryOp .BitXor) (rI0 fun i j=>.int (Builtin.bitXor i j)):=pH fun _ _ _ _ _ _ _ q=>xor_int q
theorem unI{f:Value->Sem Value}{g:Int->Int}
 (rule:∀(i:Int) (t:Tok) (s:Shared) (Q:Value->Shared->Prop) (E:Value->Shared->Prop),Q (.int (g i) s.toks) { s with toks:=s.toks+1 }->wpAny (model X.prog X.w) X.A (f (.int i t)) Q E s):
 UnR X f (rU fun i=>.int (g i)):=by
 intro pins s Z H x v Q I rx h;obtain⟨i,rfl,q⟩:=h;obtain⟨t,rfl⟩:=rx;exact rule i t s _ _ ⟨.int (g i),H,I.tok _,⟨_,rfl⟩,q⟩
theorem Fo:UnR X (unaryOp .USub) (rU fun i=>.int (-i)):=unI fun _ _ _ _ _ q=>neg_int q
end
noncomputable def uP:V->V->Bool
 | .non,.non=>true | .non,.int _=>true | .int _,.non=>true | .non,.bl _=>true | .bl _,.non=>true | .non,.str _=>true | .str _,.non=>true
 | .int _,.int _=>true | .bl _,.bl _=>true | .str _,.str _=>true | .byt _,.byt _=>true
 | .int _,.str _=>true | .str _,.int _=>true | .bl _,.str _=>true | .str _,.bl _=>true
 | _,_=>false
def rEq:R2:=fun x y H Q=>uP x y=true/\Q (.bl (decide (x=y))) H
def rNe:R2:=fun x y H Q=>uP x y=true/\Q (.bl (!decide (x=y))) H
theorem gj{i j:Int}:decide (V.int i=V.int j)=(i==j):=by
 rw[ko];simp
theorem qZ{i j:Bool}:decide (V.bl i=V.bl j)=(i==j):=by
 rw[ko];simp
theorem gh{i j:Str}:decide (V.str i=V.str j)=(i==j):=by
 rw[ko];simp
theorem gn{i j:Array UInt8}:decide (V.byt i=V.byt j)=(i.toList==j.toList):=by
 rw[ko];cases i;cases j;simp
section
variable{X:Cx}{a b c:Expr}{ta tb tc:TE}{pos:Pos}
theorem Cj{s:Shared}{Q:VK}{k k':Bool}(I:Inv X pins Z H s)(q:Q (.bl k) H)(e:k=k'):EP X pins Z Q (.bool k') s:=by
 subst e;exact⟨.bl k,H,I,rfl,q⟩
theorem Ba:OpR X (compareOp .Eq) rEq:=by
 intro pins s Z H x y v u Q I rx ry h;obtain⟨hs,q⟩:=h;cases x with
 | non=>
  cases rx;cases y with
  | non=>cases ry;exact PySem.EqNone.eq_none_none (Cj I q (by simp))
  | bl j=>cases ry;exact PySem.EqNone.eq_none_bool (Cj I q (by simp))
  | int j=>obtain⟨t',rfl⟩:=ry;exact PySem.EqNone.eq_none_int (Cj I q (by simp))
  | str j=>obtain⟨t',rfl⟩:=ry;exact PySem.EqNone.eq_none_str (Cj I q (by simp))
  | _=>exact absurd (show false=true from hs) zi
 | bl i=>
  cases rx;cases y with
  | non=>cases ry;exact PySem.EqNone.eq_bool_none (Cj I q (by simp))
  | bl j=>cases ry;exact eq_bool (Cj I q qZ)
  | str j=>obtain⟨t',rfl⟩:=ry;exact PySem.EqMixed.eq_bool_str (Cj I q (by simp))
  | _=>exact absurd (show false=true from hs) zi
 | int i=>
  obtain⟨t,rfl⟩:=rx;cases y with
  | non=>cases ry;exact PySem.EqNone.eq_int_none (Cj I q (by simp))
  | int j=>obtain⟨t',rfl⟩:=ry;exact eq_int (Cj I q gj)
  | str j=>obtain⟨t',rfl⟩:=ry;exact PySem.EqMixed.eq_int_str (Cj I q (by simp))
  | _=>exact absurd (show false=true from hs) zi
 | str i=>
  obtain⟨t,rfl⟩:=rx;cases y with
  | non=>cases ry;exact PySem.EqNone.eq_str_none (Cj I q (by simp))
  | bl j=>cases ry;exact PySem.EqMixed.eq_str_bool (Cj I q (by simp))
  | int j=>obtain⟨t',rfl⟩:=ry;exact PySem.EqMixed.eq_str_int (Cj I q (by simp))
  | str j=>obtain⟨t',rfl⟩:=ry;exact eq_str (Cj I q gh)
  | _=>exact absurd (show false=true from hs) zi
 | byt i=>
  obtain⟨t,rfl⟩:=rx;cases y with
  | byt j=>obtain⟨t',rfl⟩:=ry;exact PySem.W.eq_bytes (Cj I q gn)
  | _=>exact absurd (show false=true from hs) zi
 | _=>cases y<;>exact absurd (show false=true from hs) zi
theorem Gz:OpR X (compareOp .NotEq) rNe:=by
 intro pins s Z H x y v u Q I rx ry h;obtain⟨hs,q⟩:=h;cases x with
 | non=>
  cases rx;cases y with
  | non=>cases ry;exact PySem.EqNone.ne_none_none (Cj I q (by simp))
  | bl j=>cases ry;exact PySem.EqNone.ne_none_bool (Cj I q (by simp))
  | int j=>obtain⟨t',rfl⟩:=ry;exact PySem.EqNone.ne_none_int (Cj I q (by simp))
  | str j=>obtain⟨t',rfl⟩:=ry;exact PySem.EqNone.ne_none_str (Cj I q (by simp))
  | _=>exact absurd (show false=true from hs) zi
 | bl i=>
  cases rx;cases y with
  | non=>cases ry;exact PySem.EqNone.ne_bool_none (Cj I q (by simp))
  | bl j=>cases ry;exact ne_bool (Cj I q (ya not qZ))
  | str j=>obtain⟨t',rfl⟩:=ry;exact PySem.EqMixed.ne_bool_str (Cj I q (by simp))
  | _=>exact absurd (show false=true from hs) zi
 | int i=>
  obtain⟨t,rfl⟩:=rx;cases y with
  | non=>cases ry;exact PySem.EqNone.ne_int_none (Cj I q (by simp))
  | int j=>obtain⟨t',rfl⟩:=ry;exact ne_int (Cj I q (ya not gj))
  | str j=>obtain⟨t',rfl⟩:=ry;exact PySem.EqMixed.ne_int_str (Cj I q (by simp))
  | _=>exact absurd (show false=true from hs) zi
 | str i=>
  obtain⟨t,rfl⟩:=rx;cases y with
  | non=>cases ry;exact PySem.EqNone.ne_str_none (Cj I q (by simp))
  | bl j=>cases ry;exact PySem.EqMixed.ne_str_bool (Cj I q (by simp))
  | int j=>obtain⟨t',rfl⟩:=ry;exact PySem.EqMixed.ne_str_int (Cj I q (by simp))
  | str j=>obtain⟨t',rfl⟩:=ry;exact ne_str (Cj I q (ya not gh))
  | _=>exact absurd (show false=true from hs) zi
 | byt i=>
  obtain⟨t,rfl⟩:=rx;cases y with
  | byt j=>obtain⟨t',rfl⟩:=ry;exact PySem.W.ne_bytes (Cj I q (ya not gn))
  | _=>exact absurd (show false=true from hs) zi
 | _=>cases y<;>exact absurd (show false=true from hs) zi
theorem Ew:OpR X (compareOp .Lt) (rI0 fun i j=>.bl (decide (i<j))):=uy fun _ _ _ _ _ _ _ q=>lt_int q
theorem J6:OpR X (compareOp .LtE) (rI0 fun i j=>.bl (decide (i<=j))):=uy fun _ _ _ _ _ _ _ q=>le_int q
theorem Ft:OpR X (compareOp .Gt) (rI0 fun i j=>.bl (decide (j<i))):=uy fun _ _ _ _ _ _ _ q=>gt_int q
theorem xj:OpR X (compareOp .GtE) (rI0 fun i j=>.bl (decide (j<=i))):=uy fun _ _ _ _ _ _ _ q=>ge_int q
theorem Vo:OpR X (compareOp .In) (fun x y H Q=>∃i j,x=.str i/\y=.str j/\Q (.bl (!(Builtin.Str.occurrences j i 0 j.length 1).isEmpty)) H):=by
 intro pins s Z H x y v u Q I rx ry h;obtain⟨i,j,rfl,rfl,q⟩:=h;obtain⟨t,rfl⟩:=rx;obtain⟨t',rfl⟩:=ry;exact in_str (Cj I q rfl)
theorem Lj:OpR X (compareOp .Is) (fun x y H Q=>y=.non/\Q (.bl (decide (x=.non))) H):=by
 intro pins s Z H x y v u Q I rx ry h;obtain⟨rfl,q⟩:=h;cases ry;refine is_none_gen (Cj I q ?_);cases x<;>first
  | (cases rx;rfl)
  | (obtain ⟨t,rfl⟩:=rx;rfl)
theorem ux:OpR X (compareOp .IsNot) (fun x y H Q=>y=.non/\Q (.bl (!decide (x=.non))) H):=by
 intro pins s Z H x y v u Q I rx ry h;obtain⟨rfl,q⟩:=h;cases ry;refine isnot_none_gen (Cj I q ?_);cases x<;>first
  | (cases rx;rfl)
  | (obtain ⟨t,rfl⟩:=rx;rfl)
theorem Aq(b:Expr){op:CmpOp}(h:op≠.In:=by decide)(h2:op≠.NotIn:=by decide):behindInMarks op b=false:=by
 have e1:(op==CmpOp.In)=false:=by cases op<;>first | rfl | exact absurd rfl h
 have e2:(op==CmpOp.NotIn)=false:=by cases op<;>first | rfl | exact absurd rfl h2
 cases b<;>simp[behindInMarks,e1,e2]
theorem HB{op:CmpOp}{r:R2}(ho:OpR X (compareOp op) r)(ha:PE X a ta)(hb:PE X b tb)(hm:behindInMarks op b=false):PE X (.Compare a [op] [b] pos) (tOp r ta tb):=by
 intro pins s Z H Q I h;exact wpAny_Compare1 (ABT ha hb I h fun v u s2 x y H2 I2 rx ry q=>ho pins s2 Z H2 x y v u Q I2 rx ry q) hm
def mL(t:TE):TT:=fun Z H Q=>t Z H fun x H'=>∃k,x=.bl k/\Q k H'
theorem Al{op:CmpOp}{r:R2}(ho:OpR X (compareOp op) r)(ha:PE X a ta)(hb:PE X b tb)(hm:behindInMarks op b=false):PT X (.Compare a [op] [b] pos) (mL (tOp r ta tb)):=by
 intro pins s Z H Q I h;refine wpAny_isTrue_Compare1 (thn (ha s Z H _ I h) fun v s1 ⟨x,H1,I1,r1,q1⟩=>thn (hb s1 Z H1 _ I1 q1) fun u s2 ⟨y,H2,I2,r2,q2⟩=>
  thn (ho pins s2 Z H2 x y v u _ I2 r1 r2 q2) fun c s3 ⟨z,H3,I3,r3,k,e,q3⟩=>?_) hm
 subst e;cases r3;exact jc1 ⟨H3,I3,q3⟩
def bD(r r':R2)(ta tb tc:TE):TE:=fun Z H Q=>ta Z H fun x H1=>tb Z H1 fun y H2=>r x y H2 fun z H3=>∃k,z=.bl k/\
 (if k=true then tc Z H3 fun w' H4=>r' y w' H4 Q else Q (.bl false) H3)
theorem Mm{op op':CmpOp}{r r':R2}(ho:OpR X (compareOp op) r)(ho':OpR X (compareOp op') r')(ha:PE X a ta)(hb:PE X b tb)(hc:PE X c tc)
 (hm:lastMarks [op,op'] [b,c]=false:=by with_unfolding_all rfl):PE X (.Compare a [op,op'] [b,c] pos) (bD r r' ta tb tc):=by
 intro pins s Z H Q I h;refine Compare_chain (thn (ha s Z H _ I h) fun v s1 ⟨x,H1,I1,r1,q1⟩=>chain_link (thn (hb s1 Z H1 _ I1 q1) fun u s2 ⟨y,H2,I2,r2,q2⟩=>
  thn (ho pins s2 Z H2 x y v u _ I2 r1 r2 q2) fun d s3 ⟨z,H3,I3,r3,k,e,q3⟩=>?_)) hm
 subst e;cases r3;refine jc1 ?_;cases k with
 | false=>exact ite_ff ⟨.bl false,H3,I3,rfl,q3⟩
 | true=>exact ite_tt (chain_last (thn (hc s3 Z H3 _ I3 q3) fun w' s4 ⟨z',H4,I4,r4,q4⟩=>ho' pins s4 Z H4 y z' u w' Q I4 r2 r4 q4))
theorem oU{op op':CmpOp}{r r':R2}(ho:OpR X (compareOp op) r)(ho':OpR X (compareOp op') r')(ha:PE X a ta)(hb:PE X b tb)(hc:PE X c tc)
 (hm:lastMarks [op,op'] [b,c]=false:=by with_unfolding_all rfl):PT X (.Compare a [op,op'] [b,c] pos) (mL (bD r r' ta tb tc)):=by
 intro pins s Z H Q I h;refine isTrue_chain (thn (ha s Z H _ I h) fun v s1 ⟨x,H1,I1,r1,q1⟩=>test_link (thn (hb s1 Z H1 _ I1 q1) fun u s2 ⟨y,H2,I2,r2,q2⟩=>
  thn (ho pins s2 Z H2 x y v u _ I2 r1 r2 q2) fun d s3 ⟨z,H3,I3,r3,k,e,q3⟩=>?_)) hm
 subst e;cases r3;refine jc1 ?_;cases k with
 | false=>
  obtain⟨k',e',q'⟩:=q3;cases e';exact ite_ff ⟨H3,I3,q'⟩
 | true=>
  refine ite_tt (test_last (thn (hc s3 Z H3 _ I3 q3) fun w' s4 ⟨z',H4,I4,r4,q4⟩=>thn (ho' pins s4 Z H4 y z' u w' _ I4 r2 r4 q4) fun d' s5 hZ=>?_));obtain⟨z2,H5,I5,r5,k2,e2,q5⟩:=hZ;subst e2;cases r5;exact jc1 ⟨H5,I5,q5⟩
def AEd(K:Fr)(x:V)(H:Hp)(k:Bool):Prop:=
 match x with
 | .non=>k=false
 | .bl b=>k=b
 | .int i=>k=(i != 0)
 | .str y=>y.length<=sizeLine/\k=((y.length:Int) != 0)
 | .byt y=>y.size<=sizeLine/\k=((y.size:Int) != 0)
 | .ref p=>(∃xs,SqL K H p xs/\k=!xs.isEmpty)\/(∃xs,SqT K H p xs/\k=!xs.isEmpty)\/∃kvs,H p=some (.dK kvs)/\k=!kvs.isEmpty
 | _=>False
theorem cZ{κ:Type}{kvs:List (κ×V)}{vs:List (κ×Value)}(r:KV kvs vs):(!vs.isEmpty)=!kvs.isEmpty:=by
 cases r<;>rfl
theorem S8{xs:List V}{its:List Value}(r:Vals xs its):(!its.toArray.isEmpty)=!xs.isEmpty:=by
 cases r<;>simp
theorem Lp:(sizeLine:Nat)<2^63:=by rw[sizeLine_eq];decide
theorem yh:AEe X (fun x H Q=>∃k,AEd X.K x H k/\Q k H):=by
 intro pins s Z H x v Q I rx h;obtain⟨k,e,q⟩:=h;have hl:=Lp;have hs:sizeLine=16777216:=sizeLine_eq;cases x with
 | non=>
  cases rx;have e':k=false:=e;subst e';exact truthy_none ⟨H,I,q⟩
 | bl b=>
  cases rx;have e':k=b:=e;subst e';exact jc1 ⟨H,I,q⟩
 | int i=>
  obtain⟨t,rfl⟩:=rx;have e':k=(i != 0):=e;subst e';exact PySem.P.truthy_int ⟨H,I,q⟩
 | str y=>
  obtain⟨t,rfl⟩:=rx;obtain⟨hy,e'⟩:y.length<=sizeLine/\k=((y.length:Int) != 0):=e;subst e';exact PySem.P.truthy_str ⋯ ⟨H,I.tok _,q⟩
 | byt y=>
  obtain⟨t,rfl⟩:=rx;obtain⟨hy,e'⟩:y.size<=sizeLine/\k=((y.size:Int) != 0):=e;subst e';exact PySem.W.truthy_bytes ⋯ ⟨H,I.tok _,q⟩
 | ref p=>
  cases rx;have e':(∃xs,SqL X.K H p xs/\k=!xs.isEmpty)\/(∃xs,SqT X.K H p xs/\k=!xs.isEmpty)\/∃kvs,H p=some (.dK kvs)/\k=!kvs.isEmpty:=e;rcases e' with ⟨xs,hx,e'⟩ | ⟨xs,hx,e'⟩ | ⟨kvs,hx,e'⟩
  ·subst e';obtain⟨its,r,pl,hz⟩:=I.list hx;have hlen:=r.length;exact wpAny_truthy_list pl.isList (by simp only[xc];lia) ⟨H,I.tok _,by rw[S8 r];exact q⟩
  ·subst e';obtain⟨its,r,pl,hz⟩:=I.tuple hx;have hlen:=r.length;exact truthy_tuple pl (by simp only[xc];lia) ⟨H,I.tok _,by rw[S8 r];exact q⟩
  ·subst e';obtain⟨hz,hS,vs,r,m⟩:kvs.length<=sizeLine/\(p==sysModules)=false/\∃vs,KV kvs vs/\s.heap.DictOf (Es X.prog X.w) p vs:=I.hok p _ hx;have hlen:kvs.length=vs.length:=Paired.length r;exact wpAny_truthy_dict hS m ⋯ ⟨H,I.tok _,by rw[cZ r];exact q⟩
 | _=>exact(show False from e).elim
theorem cN:OpR X (binaryOp .Add) (fun x y H Q=>∃i j,x=.str i/\y=.str j/\i.length+j.length<=sizeLine/\Q (.str (i++j)) H):=by
 intro pins s Z H x y v u Q I rx ry h;obtain⟨i,j,rfl,rfl,hz,q⟩:=h;obtain⟨t,rfl⟩:=rx;obtain⟨t',rfl⟩:=ry;exact add_str (fun t' tk=>⟨.str (i++j),H,I.tok _,⟨_,rfl⟩,q⟩) hz
theorem vals1{x:V}(r:Vals [x] us):∃u,us=[u]/\RelV x u:=by
 cases r with
 | cons r1 r2=>cases r2;exact⟨_,rfl,r1⟩
theorem vals2{x y:V}(r:Vals [x,y] us):∃u w',us=[u,w']/\RelV x u/\RelV y w':=by
 cases r with
 | cons r1 r2=>
  cases r2 with
  | cons r3 r4=>cases r4;exact⟨_,_,rfl,r1,r3⟩
theorem Z5:Hv X (.builtin "abs") (fun xs H Q=>∃i,xs=[.int i]/\Q (.int (if i<0 then -i else i)) H):=by
 intro pins s Z H xs us Q I r h;obtain⟨i,rfl,q⟩:=h;obtain⟨u,rfl,t,rfl⟩:=vals1 r;exact call_abs_int fun u tk=>⟨.int (if i<0 then -i else i),H,I.tok _,⟨_,rfl⟩,q⟩
theorem BV:Hv X (.type "str") (fun xs H Q=>∃i,xs=[.int i]/\i.natAbs.log2<1920/\Q (.str (toString i)) H):=by
 intro pins s Z H xs us Q I r h;obtain⟨i,rfl,hz,q⟩:=h;obtain⟨u,rfl,t,rfl⟩:=vals1 r;exact PySem.P.str_of_int hz ⟨.str _,H,I.tok _,⟨_,rfl⟩,q⟩
end
structure dY(h:Heap)(x dx C:Addr)(mA:Str->Option Value):Prop where
 obj:h.get? x=some (PySem.W.instObj C dx)
 ns:h.Ns1 dx mA
 ne:dx≠x
theorem jm{h:Heap}{dx:Addr}{mA:Str->Option Value}(n:h.Ns1 dx mA):∃od,h.get? dx=some od/\∀name,PySem.W.lookIn name od=some (mA name):=by
 obtain⟨o,es,ep,ho,hd,hk,_,hm⟩:=n;refine⟨o,ho,fun name=>?_⟩;have e:=hm name;unfold nsFind findBy at e;rw[<-Array.find?_toList] at e;unfold PySem.W.lookIn;rw[hd];dsimp only;split
 ·rename_i y q
  rw[q] at e;exact ya some e
 ·rename_i q
  rw[q] at e;have a:es.toList.any (·.refKey)=false:=by
   rw[List.any_eq_false];intro y hy;obtain⟨z,t,hkey⟩:=hk y (Array.mem_toList_iff.mp hy);simp[DictEntry.refKey,hkey]
  have a':¬es.toList.any (·.refKey)=true:=by rw[a];exact zi
  rw[xy a'];exact ya some e
theorem dY.look{h:Heap}{x dx C:Addr}{mA:Str->Option Value}(I:dY h x dx C mA):∃od,PySem.W.InstAt h x (PySem.W.instObj C dx) C (some od)/\∀name,PySem.W.lookIn name od=some (mA name):=
 let ⟨od,ho,hl⟩:=jm I.ns
 ⟨od,⟨I.obj,rfl,rfl,ho⟩,hl⟩
section
variable{prog:Program}{w:World}{A:Around}{E:Value->Shared->Prop}{s:Shared}{K:Fr}{x dx C f:Addr}{mA:Str->Option Value}{name:Str}{v:Value}
theorem vd{expr:Bool}{Q:Value->Shared->Prop}(X:K.In s.heap)(I:dY s.heap x dx C mA)(hg:PySem.W.plainGet K C name=true)(hh:PySem.W.hasDictIn K C=true)
 (ha:PySem.W.findIn K (.ref C) name=some none)(hv:mA name=some v)(hv':PySem.W.handedIn v=true)(h:Q v { s with toks:=s.toks+1 }):
 wpAny (model prog w) A (getAttr (.ref x) name expr) Q E s:=by
 obtain⟨od,J,hl⟩:=I.look;exact PySem.W.get_value X J (jr2 hg).1 (PySem.W.findObj_own hh ha rfl (by rw[hl,hv])) hv' h
theorem qJ{pl:Sem Bool}{Q:Value×List Value->Shared->Prop}(X:K.In s.heap)(I:dY s.heap x dx C mA)(hg:PySem.W.plainGet K C name=true)
 (hf:PySem.W.findIn K (.ref C) name=some (some (.ref f)))(ht:PySem.W.isFn K (.ref f)=true)(hv:mA name=none)(h:Q (.ref f,[.ref x]) s):
 wpAny (model prog w) A (getMethod (.ref x) name pl) Q E s:=by
 obtain⟨od,J,hl⟩:=I.look;exact PySem.W.method_fn X J (jr2 hg).1 (jr2 hg).2 hf (jc0.mp ht) (by show(PySem.W.lookIn name od).map (·.isSome)=some false;rw[hl,hv];rfl) h
theorem uO{ns:List Str}{Q:Unit->Shared->Prop}(X:K.In s.heap)(I:dY s.heap x dx C mA)
 (hs:PySem.W.findIn K (.ref C) "__setattr__"=some (some (.builtin "object.__setattr__")))(hp:PySem.W.plainOver K C=true)(ht:PySem.W.takerIn K C name=some none)(hh:PySem.W.hasDictIn K C=true)
 (hw:PySem.Within mA ns)(hsz:ns.length<=sizeLine)
 (h:∀h',dY h' x dx C (fun y=>if y=name then some v else mA y)->Heap.SameBut dx s.heap h'->Q () { s with heap:=h',toks:=s.toks+2 }):
 wpAny (model prog w) A (setAttr (.ref x) name v) Q E s:=by
 obtain⟨od,J,hl⟩:=I.look;refine PySem.W.set_plain X J hs (PySem.W.osa_open (s:={ s with toks:=s.toks+1 }) (r:=none) X J hp ht fun b=>?_);obtain⟨cd,hc,hd'⟩:=PySem.W.any_some hh;have hx:s.heap.get? x=some ⟨.ref C,some dx,.plain,#[]⟩:=I.obj;refine jv (xz (jv (jv (wpAny_loadPart hx (jv (PySem.W.Looks.here (s:={ s with toks:=s.toks+1 }) (PySem.W.looks_clsIn X hc) ?_))))));rw[hd'];refine xz (a:=some dx) (jv (xz (jv ?_)));refine wpAny_nsSet1 (s:={ s with toks:=s.toks+1 }) I.ns fun h' hn2 hs2=>?_;obtain⟨oD,esD,epD,hoD,hdD,hcD⟩:=hn2.count (PySem.Within.cons name v hw);refine jv (wpAny_lookBehind hoD (by rw[hdD];exact pastItsLine_dict (zo hcD (by rw[qr];lia))) ?_);exact xz (h _ ⟨(hs2.2 _ (Ne.symm I.ne)).trans I.obj,hn2,I.ne⟩ hs2)
theorem pN{R:Result->Shared->Prop}{vs:List Value}{kw:List (Str×Value)}(X:K.In s.heap)(hm:PySem.W.makesIn K C=true)
 (hi:PySem.W.findIn K (.ref C) "__init__"=some (some (.ref f)))(hf:PySem.W.typeIn K (.ref f)=some (.type "function"))
 (h:codeAny (model prog w) (A.under (.builtin "type.__call__" ⟨.ref C::vs,kw⟩)) (.call (.ref f) ⟨.ref (s.heap.objs.size+1)::vs,kw⟩) (PySem.W.InitBack (s.heap.objs.size+1) R)
  { s with heap:=(s.heap.push PySem.W.emptyDict).push (PySem.W.instObj C s.heap.objs.size) }):
 codeAny (model prog w) A (.call (.ref C) ⟨vs,kw⟩) R s:=by
 obtain⟨hh,g,d,t,os⟩:=s;exact PySem.W.make_core (PySem.W.makes_of X hm) (PySem.W.looks_findIn X hi) (fun self=>PySem.W.bind_fn X self hf) (.inl rfl) h
end
noncomputable def Dl(f:Str)(v:V):List (Str×V)->List (Str×V)
 | []=>[(f,v)]
 | (g,x)::r=>if g=f then (g,v)::r else (g,x)::Dl f v r
theorem Pa(f g:Str)(v:V):∀fs:List (Str×V),(Dl f v fs).lookup g=if g=f then some v else fs.lookup g
 | []=>by
  show List.lookup g [(f,v)]=_;by_cases h:g=f
  ·have hb:(g==f)=true:=jc0.mpr h;simp only[List.lookup,hb,xp h]
  ·have hb:(g==f)=false:=beq_eq_false_iff_ne.mpr h;simp only[List.lookup,hb,xy h]
 | (k,x)::r=>by
  have ih:=Pa f g v r;rw[show Dl f v ((k,x)::r)=(if k=f then (k,v)::r else (k,x)::Dl f v r) from rfl];by_cases hk:k=f
  ·rw[xp hk];by_cases h:g=k
   ·have hb:(g==k)=true:=jc0.mpr h;simp only[List.lookup,hb,xp (h.trans hk)]
   ·have hb:(g==k)=false:=beq_eq_false_iff_ne.mpr h;simp only[List.lookup,hb,xy (fun e:g=f=>h (e.trans hk.symm))]
  ·rw[xy hk];by_cases h:g=k
   ·have hb:(g==k)=true:=jc0.mpr h;simp only[List.lookup,hb,xy (fun e:g=f=>hk (h.symm.trans e))]
   ·have hb:(g==k)=false:=beq_eq_false_iff_ne.mpr h;simp only[List.lookup,hb];exact ih
theorem Ot(f:Str)(v:V):∀fs:List (Str×V),f∈(Dl f v fs).map (·.1)/\∀g,g∈fs.map (·.1)->g∈(Dl f v fs).map (·.1)
 | []=>⟨by simp[Dl],fun g h=>by simp at h⟩
 | (k,x)::r=>by
  obtain⟨i1,i2⟩:=Ot f v r;rw[show Dl f v ((k,x)::r)=(if k=f then (k,v)::r else (k,x)::Dl f v r) from rfl];by_cases hk:k=f
  ·rw[xp hk];subst hk;exact⟨by simp,fun g h=>by simpa using h⟩
  ·rw[xy hk];refine⟨?_,fun g h=>?_⟩
   ·rw[zv];exact qk _ i1
   ·rw[zv] at h ⊢;rcases zh.mp h with e | e
    ·exact zh.mpr (.inl e)
    ·exact qk _ (i2 g e)
theorem Pg(f:Str)(v:V):∀fs:List (Str×V),(Dl f v fs).length<=fs.length+1
 | []=>by simp[Dl]
 | (k,x)::r=>by
  have ih:=Pg f v r;rw[show Dl f v ((k,x)::r)=(if k=f then (k,v)::r else (k,x)::Dl f v r) from rfl];by_cases hk:k=f
  ·rw[xp hk,qr,qr];lia
  ·rw[xy hk,qr,qr];lia
theorem Jk.some_of{v:V}{o:Option Value}(r:Jk (some v) o):∃u,o=some u/\RelV v u:=by
 cases o with
 | none=>exact(show False from r).elim
 | some u=>exact⟨u,rfl,r⟩
theorem Jk.none_of{o:Option Value}(r:Jk none o):o=none:=by
 cases o with
 | none=>rfl
 | some u=>exact(show False from r).elim
theorem j5{v:V}(r:RelV v u):PySem.W.handedIn u=true:=by
 cases v with
 | non=>cases (show u=Value.none from r);rfl
 | bl b=>cases (show u=Value.bool b from r);rfl
 | int i=>obtain⟨t,e⟩:=(show ∃t,u=Value.int i t from r);cases e;rfl
 | str x=>obtain⟨t,e⟩:=(show ∃t,u=Value.str x t from r);cases e;rfl
 | byt b=>obtain⟨t,e⟩:=(show ∃t,u=Value.bytes b t from r);cases e;rfl
 | flt b=>obtain⟨t,e⟩:=(show ∃t,u=Value.float b t from r);cases e;rfl
 | ref a=>cases (show u=Value.ref a from r);rfl
 | ty n=>cases (show u=Value.type n from r);rfl
section
variable{P:Program}{w:World}{H H':Hp}{h h':Heap}{a C dx:Addr}{fs fs':List (Str×V)}
theorem RG(hok:HOk P w H h)(e:H a=some (.ins C dx fs)):∃mA,dY h a dx C mA/\(∀f,Jk (fs.lookup f) (mA f))/\PySem.Within mA (fs.map (·.1))/\fs.length<=1000/\H dx=some (.own a):=by
 obtain⟨d,z,ne,ob,mA,n,r,q⟩:=(show Ep P w H h a (.ins C dx fs) from hok a _ e);exact⟨mA,⟨ob,n,ne⟩,r,q,z,d⟩
end
structure Cls(K:Fr)(C:Addr):Prop where
 pg:PySem.W.plainGet K C Str.empty=true
 hd:PySem.W.hasDictIn K C=true
 po:PySem.W.plainOver K C=true
 sa:PySem.W.findIn K (.ref C) "__setattr__"=some (some (.builtin "object.__setattr__"))
theorem Cls.get{C:Addr}(c:Cls K C)(f:Str):PySem.W.plainGet K C f=true:=c.pg
def Dj(K:Fr)(C:Addr)(f:Str):Prop:=PySem.W.findIn K (.ref C) f=some none
theorem Dj.taker{C:Addr}{f:Str}(n:Dj K C f):PySem.W.takerIn K C f=some none:=by
 unfold PySem.W.takerIn;rw[show PySem.W.findIn K (.ref C) f=some none from n];rfl
structure Meth(K:Fr)(C:Addr)(m:Str)(f:Addr):Prop where
 at_:PySem.W.findIn K (.ref C) m=some (some (.ref f))
 fn:PySem.W.isFn K (.ref f)=true
 kp:PySem.W.keepIn K (.ref f)=true
section
variable{X:Cx}{pins:List (Addr×Obj)}{Z:St}{H:Hp}{s:Shared}{a C dx:Addr}{fs:List (Str×V)}{f:Str}{v:V}{A:Around}{E:Value->Shared->Prop}
theorem cz{b:Bool}{Q:Value->Shared->Prop}(I:Inv X pins Z H s)(e:H a=some (.ins C dx fs))(c:Cls X.K C)(n:Dj X.K C f)(l:fs.lookup f=some v)
 (h:∀u s',Inv X pins Z H s'->RelV v u->Q u s'):wpAny (model X.prog X.w) A (getAttr (.ref a) f b) Q E s:=by
 obtain⟨mA,O,r,_,_,_⟩:=RG I.hok e;obtain⟨u,hu,ru⟩:=Jk.some_of (v:=v) (o:=mA f) (by rw[<-l];exact r f);exact vd I.kIn O (c.get f) c.hd n hu (j5 ru) (h u _ (I.tok _) ru)
theorem JW{m:Str}{g:Addr}{pl:Sem Bool}{Q:Value×List Value->Shared->Prop}(I:Inv X pins Z H s)(e:H a=some (.ins C dx fs))(c:Cls X.K C)(k:Meth X.K C m g)(l:fs.lookup m=none)
 (h:Q (.ref g,[.ref a]) s):wpAny (model X.prog X.w) A (getMethod (.ref a) m pl) Q E s:=by
 obtain⟨mA,O,r,_,_,_⟩:=RG I.hok e;have hn:mA m=none:=Jk.none_of (by rw[<-l];exact r m);exact qJ I.kIn O (c.get m) k.at_ k.fn hn h
theorem bG{y:V}{Q:Unit->Shared->Prop}(I:Inv X pins Z H s)(e:H a=some (.ins C dx fs))(c:Cls X.K C)(n:Dj X.K C f)(hl:fs.length<1000)(ry:RelV y u)
 (h:∀s',Inv X pins Z (upd H a (.ins C dx (Dl f y fs))) s'->Q () s'):wpAny (model X.prog X.w) A (setAttr (.ref a) f u) Q E s:=by
 obtain⟨mA,O,r,wi,_,ho⟩:=RG I.hok e;have hz:(fs.map (·.1)).length<=sizeLine:=by rw[js,sizeLine_eq];lia
 refine uO I.kIn O c.sa c.po n.taker c.hd wi hz fun h' O' sb=>h _ ?_;have hd:∃o,h'.get? dx=some o:=let ⟨o,_,_,e',_⟩:=O'.ns;⟨o,e'⟩;refine I.write (x:=a) (e:=dx) (by rw[e];exact True.intro) (.inr ho) (fun b q hb z=>(sb.2 b hb).trans z) hd ?_;refine⟨by rw[BP O.ne];exact ho,?_,O.ne,O'.obj,_,O'.ns,fun g=>?_,fun g hg=>?_⟩
 ·have:=Pg f y fs;lia
 ·show Jk ((Dl f y fs).lookup g) (if g=f then some u else mA g);rw[Pa];by_cases q:g=f
  ·rw[xp q,xp q];exact ry
  ·rw[xy q,xy q];exact r g
 ·by_cases q:g=f
  ·rw[q];exact(Ot f y fs).1
  ·refine(Ot f y fs).2 g (wi g fun z=>hg ?_);show(if g=f then some u else mA g)=none;rw[xy q];exact z
theorem Inv.made(I:Inv X pins Z H s):Inv X pins Z (upd (upd H s.heap.objs.size (.own (s.heap.objs.size+1))) (s.heap.objs.size+1) (.ins C s.heap.objs.size []))
 { s with heap:=(s.heap.push PySem.W.emptyDict).push (PySem.W.instObj C s.heap.objs.size) }:=by
 have e1:(s.heap.push PySem.W.emptyDict).get? s.heap.objs.size=some PySem.W.emptyDict:=xa s.heap rfl;have e2:((s.heap.push PySem.W.emptyDict).push (PySem.W.instObj C s.heap.objs.size)).get? (s.heap.objs.size+1)=some (PySem.W.instObj C s.heap.objs.size):=by
  have:=xa (s.heap.push PySem.W.emptyDict) (o:=PySem.W.instObj C s.heap.objs.size) rfl
  rwa [jj3] at this
 have e3:(s.heap.push PySem.W.emptyDict).Ns s.heap.objs.size (fun _=>none):=⟨PySem.W.emptyDict,#[],_,e1,rfl,(fun e he=>absurd he (by simp)),fun _=>rfl⟩;have I1:=I.laid (a:=s.heap.objs.size) (o:=.own (s.heap.objs.size+1)) (h':=s.heap.push PySem.W.emptyDict) (t':=s.toks) (fun b u q=>qc _ q) (qo _) ⟨_,e1⟩;refine I1.laid (a:=s.heap.objs.size+1) (o:=.ins C s.heap.objs.size []) (t':=s.toks) (fun b u q=>qc _ q) (js2 (jj3 _ _)) ?_;have ne:s.heap.objs.size≠s.heap.objs.size+1:=kg (jp3 _);refine⟨by rw[BP ne,Ao],ka _,ne,e2,fun _=>none,(Heap.Ns1.of_empty e3).at fun o q=>qc _ q,fun _=>True.intro,fun y hy=>absurd rfl hy⟩
theorem wU{prog:Program}{w:World}{env:Env}{e:Expr}{f:Str}{s:Shared}{Q:Value->Shared->Prop}(hb:attributeBase e f env (eval e env)=eval e env)
 (h:wpAny (model prog w) A (eval e env) (fun o s₁=>wpAny (model prog w) A (getAttr o f true) Q E s₁) E s):wpAny (model prog w) A (eval (.Attribute e f pos) env) Q E s:=
 Attribute_any_ h (by rw[arm_eval_Attribute,hb])
end
def yq(K:Fr)(ta:TE)(f:Str):TE:=fun Z H Q=>ta Z H fun x H1=>∃a C dx fs v,x=.ref a/\H1 a=some (.ins C dx fs)/\Cls K C/\Dj K C f/\fs.lookup f=some v/\Q v H1
def ACb(K:Fr)(ta tv:TE)(f:Str):TS:=fun D Z H=>tv Z H fun y H1=>ta Z H1 fun x H2=>∃a C dx fs,x=.ref a/\H2 a=some (.ins C dx fs)/\Cls K C/\Dj K C f/\fs.length<1000/\
 D.nx Z (upd H2 a (.ins C dx (Dl f y fs)))
section
variable{X:Cx}{o e value:Expr}{f:Str}{pos pos' tpos:Pos}{ta tv:TE}
theorem Bq(he:PE X e ta)(hb:attributeBase e f X.env (eval e X.env)=eval e X.env):PE X (.Attribute e f pos) (yq X.K ta f):=by
 intro pins s Z H Q I h;refine wU hb (thn (he s Z H _ I h) fun u s1 hZ=>?_);obtain⟨x,H1,I1,rx,a,C,dx,fs,v,ex,ea,c,n,l,q⟩:=hZ;subst ex;obtain rfl:u=Value.ref a:=rx;exact cz I1 ea c n l fun u' s2 I2 ru=>⟨v,H1,I2,ru,q⟩
theorem FP(ha:PE X o ta)(hv:PE X value tv)(hs:swapsWith value (some (.Attribute o f pos')) pos.line X.env=pure false):PS X (.Assign [.Attribute o f pos'] value pos) (ACb X.K ta tv f):=by
 intro pins s Z H D I h;refine plainObj_wpAny_Assign_Attribute (thn (hv s Z H _ I h) fun u s1 ⟨y,H1,I1,ry,q⟩=>thn (ha s1 Z H1 _ I1 q) fun ov s2 hZ=>?_) hs;obtain⟨x,H2,I2,rx,a,C,dx,fs,ex,ea,c,n,l,q2⟩:=hZ;subst ex;obtain rfl:ov=Value.ref a:=rx;exact bG I2 ea c n l ry fun s3 I3=>⟨Z,_,I3,q2⟩
end
section
variable{X:Cx}{pins:List (Addr×Obj)}{Z:St}{H:Hp}{s:Shared}{A:Around}{E:Value->Shared->Prop}{Q:Value->Shared->Prop}{c:Value}{b:Bool}
inductive Nk(K:Fr)(H:Hp):V->Value->Prop where
 | non:Nk K H .non (.type "NoneType")
 | bl (x:Bool):Nk K H (.bl x) (.type "bool")
 | int (i:Int):Nk K H (.int i) (.type "int")
 | str (x:Str):Nk K H (.str x) (.type "str")
 | flt (x:UInt64):Nk K H (.flt x) (.type "float")
 | lst {a:Addr} {xs:List V} (e:H a=some (.lst xs)):Nk K H (.ref a) (.type "list")
 | frz {a:Addr} {o:Obj} {xs:List V} (e:H a=some (.frz o (.lst xs))):Nk K H (.ref a) (.type "list")
 | tup {a:Addr} {xs:List V} (e:H a=some (.tup xs)):Nk K H (.ref a) (.type "tuple")
 | dK {a:Addr} {kvs:List (Key×V)} (e:H a=some (.dK kvs)):Nk K H (.ref a) (.type "dict")
 | dT {a:Addr} {kvs:List (List Key×V)} (e:H a=some (.dT kvs)):Nk K H (.ref a) (.type "dict")
 | ins {a C dx:Addr} {fs:List (Str×V)} (e:H a=some (.ins C dx fs)) (cl:Cls K C) (ha:PySem.W.findIn K (.ref C) "__class__"=some (some (.builtin "object.__class__")))
  (hn:PySem.W.specialIn K (.builtin "object.__class__") "__get__"=some (some (.builtin "getset_descriptor.__get__"))) (htk:PySem.W.takesIn K (.builtin "object.__class__")=some true)
  (hm:PySem.W.mroIn K C (.type "object")=some true):Nk K H (.ref a) (.ref C)
theorem jx{x:V}{t:Value}(I:Inv X pins Z H s)(rx:RelV x u)(ty:Nk X.K H x t)(e:PySem.W.kitOne X.K t c=some b)(h:∀tk,Q (.bool b) { s with toks:=tk }):
 wpAny (model X.prog X.w) A (call (.builtin "isinstance") [u,c]) Q E s:=by
 cases ty with
 | non=>cases (show u=Value.none from rx);exact jb1 PySem.W.kitx_none I.kIn True.intro e (fun z=>nomatch z) h
 | bl y=>cases (show u=Value.bool y from rx);exact jb1 PySem.W.kitx_bool I.kIn True.intro e (fun z=>nomatch z) h
 | int i=>obtain⟨t,q⟩:=(show ∃t,u=Value.int i t from rx);cases q;exact jb1 PySem.W.kitx_int I.kIn True.intro e (fun z=>nomatch z) h
 | str y=>obtain⟨t,q⟩:=(show ∃t,u=Value.str y t from rx);cases q;exact jb1 PySem.W.kitx_str I.kIn True.intro e (fun z=>nomatch z) h
 | flt y=>obtain⟨t,q⟩:=(show ∃t,u=Value.float y t from rx);cases q;exact jb1 PySem.W.kitx_float I.kIn True.intro e (fun z=>nomatch z) h
 | @lst a xs ea=>
  cases (show u=Value.ref a from rx);obtain⟨_,_,n,_,h1⟩:=(show Ep X.prog X.w H s.heap a (.lst xs) from I.hok a _ ea);exact jb1 PySem.W.kitx_list I.kIn ⟨_,h1,rfl⟩ e (fun z=>nomatch z) h
 | @frz a ob xs ea=>
  cases (show u=Value.ref a from rx);obtain⟨_,_,_,n,_,h1⟩:=(show Ep X.prog X.w H s.heap a (.frz ob (.lst xs)) from I.hok a _ ea);exact jb1 PySem.W.kitx_list I.kIn ⟨_,h1,rfl⟩ e (fun z=>nomatch z) h
 | @tup a xs ea=>
  cases (show u=Value.ref a from rx);obtain⟨_,_,_,p⟩:=(show Ep X.prog X.w H s.heap a (.tup xs) from I.hok a _ ea);obtain⟨o,h1,h2,_⟩:=p;exact jb1 PySem.W.kitx_tuple I.kIn ⟨o,h1,h2⟩ e (fun z=>nomatch z) h
 | @dK a kvs ea=>
  cases (show u=Value.ref a from rx);obtain⟨_,_,vs,_,p⟩:=(show Ep X.prog X.w H s.heap a (.dK kvs) from I.hok a _ ea);obtain⟨o,es,ep,h1,h2,_⟩:=p;exact jb1 PySem.W.kitx_dict I.kIn ⟨o,h1,h2.1⟩ e (fun z=>nomatch z) h
 | @dT a kvs ea=>
  cases (show u=Value.ref a from rx);obtain⟨_,_,xs,_,o,es,ep,h1,h2,_⟩:=(show Ep X.prog X.w H s.heap a (.dT kvs) from I.hok a _ ea);exact jb1 PySem.W.kitx_dict I.kIn ⟨o,h1,h2.1⟩ e (fun z=>nomatch z) h
 | @ins a C dx fs ea cl ha hn htk hm=>
  cases (show u=Value.ref a from rx);obtain⟨mA,O,_⟩:=RG I.hok ea;obtain⟨od,J,_⟩:=O.look;exact jb1 (PySem.W.kitx_own (cl.get _) cl.hd ha hn htk hm) I.kIn J e (fun z=>nomatch z) h
end
structure Dy(k:Nat)(A:Around):Prop where
 hd:A.handled=none
 dp:A.depth+3*k+5<recursionLimit
 un:A.units+16*k+200<cLine
 gd:A.guards=some []
theorem Dy.mono{j k:Nat}(r:Dy k A)(h:j<=k):Dy j A:=⟨r.hd,by have:=r.dp;lia,by have:=r.un;lia,r.gd⟩
theorem Dy.deeper{k:Nat}(r:Dy (k+1) A)(env:Env):Dy k (A.deeper env):=
 ⟨r.hd,by have:=r.dp;show A.depth+1+3*k+5<_;lia,by have:=r.un;show A.units+3+16*k+200<_;lia,r.gd⟩
theorem cV{C:Addr}{kw:List (Str×Value)}:(A.under (.builtin "type.__call__" ⟨.ref C::us,kw⟩)).depth=A.depth+1:=by
 first | rfl | simp[Around.under,Code.weight,Code.isCreation,Code.isGuard,Code.isCaller,Code.frames,Code.isFrame,guardIds]
theorem cU{C:Addr}{kw:List (Str×Value)}:(A.under (.builtin "type.__call__" ⟨.ref C::us,kw⟩)).units=A.units+1:=by
 first | rfl | simp[Around.under,Code.cUnits,Code.frames,Code.isFrame]
theorem Zg{C:Addr}{kw:List (Str×Value)}(h:A.guards=some []):(A.under (.builtin "type.__call__" ⟨.ref C::us,kw⟩)).guards=some []:=by
 have e:(Code.builtin "type.__call__" ⟨.ref C::us,kw⟩).guards=[]:=by
  unfold Code.guards;rw[xy (by show ¬guardIds.contains "type.__call__"=true;decide)]
 have e2:(A.under (.builtin "type.__call__" ⟨.ref C::us,kw⟩)).guards=pushGuards (Code.builtin "type.__call__" ⟨.ref C::us,kw⟩).guards A.guards:=rfl;rw[e2,e,h];rfl
theorem Dy.make{k:Nat}(r:Dy (k+1) A)(C:Addr)(us:List Value)(kw:List (Str×Value)):Dy k (A.under (.builtin "type.__call__" ⟨.ref C::us,kw⟩)):=
 ⟨r.hd,by have:=r.dp;rw[cV];lia,by have:=r.un;rw[cU];lia,Zg r.gd⟩
theorem Dy.depth{k:Nat}(r:Dy k A):A.depth<recursionLimit:=by have:=r.dp;lia
theorem Dy.units{k:Nat}(r:Dy k A):A.units+64<cLine:=by have:=r.un;lia
theorem Dy.units0{k:Nat}(r:Dy k A):A.units<cLine:=by have:=r.un;lia
def MF:TA:=fun _ H Q=>Q [] H
def Ip(ta:TE)(tr:TA):TA:=fun Z H Q=>ta Z H fun x H1=>tr Z H1 fun xs H2=>Q (x::xs) H2
section
variable{X:Cx}{e:Expr}{es:List Expr}{te:TE}{t:TA}{pos:Pos}
theorem Ab:PA X [] MF:=fun _ _ _ _ H Q I h=>Calls.spliced_nil ⟨[],H,I,.nil,h⟩
theorem Aa(ha:PE X e te)(hr:PA X es t)(hs:‹starEach (e::es) X.env=(false,eval e X.env)::starEach es X.env›):PA X (e::es) (Ip te t):=by
 intro pos pins s Z H Q I h;rw[hs];show wpAny _ _ (spliced ((false,eval e X.env)::backTo pos (starEach es X.env))) _ _ s;refine Calls.spliced_cons (thn (ha s Z H _ I h) fun u s1 hZ=>?_);obtain⟨x,H1,I1,r1,q1⟩:=hZ;exact thn (hr (pos:=pos) pins s1 Z H1 _ I1 q1) fun us s2 ⟨xs,H2,I2,r2,q2⟩=>⟨x::xs,H2,I2,.cons r1 r2,q2⟩
def tE(t:TA):TE:=fun Z H Q=>t Z H fun xs H1=>xs.length<=sizeLine/\∀p,H1 p=none->Q (.ref p) (upd H1 p (.tup xs))
def tG(t:TA):TE:=fun Z H Q=>t Z H fun xs H1=>xs.length<=sizeLine/\∀p,H1 p=none->Q (.ref p) (upd H1 p (.lst xs))
theorem BJ{x1}(h:PA X es t):PE X (.Tuple es x1 pos) (tE t):=by
 intro pins s Z H Q I hq;refine wpAny_Tuple_spliced (thn (h (pos:=pos) pins s Z H _ I hq) fun us s1 ⟨xs,H1,I1,r,z,q⟩=>⟨by rw[<-r.length];exact z,?_⟩);have hf:H1 s1.heap.objs.size=none:=I1.hok.fresh (qo _);refine⟨.ref s1.heap.objs.size,upd H1 s1.heap.objs.size (.tup xs),I1.laid (t':=s1.toks) (fun b u e=>qc _ e) (qo _) ?_,rfl,q _ hf⟩;exact⟨z,us,r,⟨_,xa _ rfl,rfl,_,rfl⟩⟩
theorem Fq(h:PA X es t):PE X (.List es pos) (tG t):=by
 intro pins s Z H Q I hq;refine wpAny_List_spliced (thn (h (pos:=pos) pins s Z H _ I hq) fun us s1 ⟨xs,H1,I1,r,z,q⟩=>⟨by rw[<-r.length];exact z,?_⟩);have hf:H1 s1.heap.objs.size=none:=I1.hok.fresh (qo _);refine⟨.ref s1.heap.objs.size,upd H1 s1.heap.objs.size (.lst xs),I1.laid (t':=s1.toks) (fun b u e=>qc _ e) (qo _) ?_,rfl,q _ hf⟩;exact⟨z,us,0,r,xa _ rfl⟩
end
noncomputable abbrev Sp:=List V->Hp->VK->XK->Prop
noncomputable abbrev CXT:=List Env->Hp->Shared->XK->Value->Shared->Prop
structure dh(P:Program)(w:World)(K:Fr)(mg:Str->Option Value)(base:Heap)(A:Around)(outer:List Env)(s:Shared)(H:Hp):Prop where
 frames:A.frames=some outer
 mod:Mod K mg base
 bs:∀b o,base.get? b=some o->s.heap.get? b=some o/\H b=none
 bsz:base.objs.size<=s.heap.objs.size
 funs:s.heap.FunFrames base outer
 frf:∀b∈frs outer,H b=none
 hok:HOk P w H s.heap
 bare:AllBare s.gens
def CE(outer:List Env)(P:Program)(w:World)(H:Hp)(s:Shared)(Q:VK)(u:Value)(s':Shared):Prop:=
 ∃v H',s'.os=s.os/\AllBare s'.gens/\Un (frs outer) [] H H' s.heap s'.heap/\HOk P w H' s'.heap/\RelV v u/\Q v H'
def CR(CX:CXT)(outer:List Env)(P:Program)(w:World)(H:Hp)(s:Shared)(Q:VK)(E:XK)(r:Result)(s':Shared):Prop:=
 match r with
 | .ok (.ret u)=>CE outer P w H s Q u s'
 | .ok _=>False
 | .error e=>CX outer H s E e s'
structure Ex(P:Program)(w:World)(K:Fr)(mg:Str->Option Value)(base:Heap)(CX:CXT)(k:Nat)(f:Addr)(fd:FuncData)(ps:List Str)(sp:Sp):Prop where
 len:∀vs H Q E,sp vs H Q E->vs.length=ps.length
 run:∀(A:Around) (outer:List Env) (s:Shared) (H:Hp) (args:Args) (us:List Value) (vs:List V) (Q:VK) (E:XK),Dy k A->dh P w K mg base A outer s H->BindsTo s fd args (ps.zip us)->Vals vs us->sp vs H Q E->
  codeAny (model P w) A (.call (.ref f) args) (CR CX outer P w H s Q E) s
theorem dh.make{P:Program}{w:World}{mg:Str->Option Value}{base:Heap}{outer:List Env}{s:Shared}(e:dh P w K mg base A outer s H)(C:Addr)(us:List Value)(kw:List (Str×Value)):
 dh P w K mg base (A.under (.builtin "type.__call__" ⟨.ref C::us,kw⟩)) outer s H:=⟨by first | exact e.frames | (simpa [Around.under,Code.envs,Code.isFrame,pushEnvs] using e.frames),e.mod,e.bs,e.bsz,e.funs,e.frf,e.hok,e.bare⟩
section
variable{X:Cx}{pins:List (Addr×Obj)}{Z:St}{H:Hp}{s s':Shared}
theorem Inv.env0(I:Inv X pins Z H s):dh X.prog X.w X.K X.mg X.base X.A X.stack s H:=
 ⟨I.ok.frames,I.ok.mod,I.bs,zo I.ok.bsz I.sz,I.stack,I.stkFree,I.hok,I.bare⟩
theorem Inv.after{Q:VK}(I:Inv X pins Z H s)(h:CE X.stack X.prog X.w H s Q u s'):EP X pins Z Q u s':=by
 obtain⟨v,H',os,bare,un,hok,r,q⟩:=h;obtain⟨hh,g,d,t,os'⟩:=s';obtain rfl:os'=s.os:=os;exact⟨v,H',I.call (h':=hh) (g':=g) (d':=d) (t':=t) (ch:=[]) un hok bare (fun b z=>absurd z (by simp)),r,q⟩
end
def Vd(sp:Sp)(dvs:List V)(E:XK)(t:TA):TE:=fun Z H Q=>t Z H fun vs H1=>sp (vs++dvs) H1 Q E
def Yk(C:Addr)(m:Str)(sp:Sp)(dvs:List V)(E:XK)(ta:TE)(t:TA):TE:=fun Z H Q=>ta Z H fun x H1=>∃a dx fs,x=.ref a/\H1 a=some (.ins C dx fs)/\fs.lookup m=none/\
 t Z H1 fun vs H2=>sp (x::(vs++dvs)) H2 Q E
def Vc(C:Addr)(sp:Sp)(dvs:List V)(E:XK)(t:TA):TE:=fun Z H Q=>t Z H fun vs H1=>∀x dx,H1 x=none->H1 dx=none->dx≠x->
 sp (.ref x::(vs++dvs)) (upd (upd H1 dx (.own x)) x (.ins C dx [])) (fun v H2=>v=.non/\Q (.ref x) H2) E
def Binds(K:Fr)(fd:FuncData)(ps:List Str)(ds:List Value):Prop:=
 ∀(s:Shared) (us:List Value),K.In s.heap->(us++ds).length=ps.length->BindsTo s fd ⟨us,[]⟩ (ps.zip (us++ds))
theorem Binds.all{fd:FuncData}{ps:List Str}(h:∀us:List Value,us.length=ps.length->bindArgs fd ⟨us,[]⟩=pure (ps.zip us)):Binds K fd ps []:=fun s us _ hl=>by
 rw[yk] at hl ⊢;exact .of_eq (h us hl)
def Kp(CX:CXT)(X:Cx)(E:XK):Prop:=∀(pins:List (Addr×Obj)) (Z:St) (H:Hp) (s:Shared) (e:Value) (s':Shared),Inv X pins Z H s->CX X.stack H s E e s'->X.xe e s'
section
variable{X:Cx}{CX:CXT}{k:Nat}{f C:Addr}{fd:FuncData}{ps:List Str}{sp:Sp}{dvs:List V}{ds:List Value}{E:XK}{x m:Str}{p pos apos:Pos}{e o:Expr}{es:List Expr}{ta:TE}{t:TA}
theorem Oe{s:Shared}{Q:VK}{vs:List V}(F:Ex X.prog X.w X.K X.mg X.base CX k f fd ps sp)(hr:Dy k X.A)(hb:Binds X.K fd ps ds)(hd:Vals dvs ds)(hx:Kp CX X E)
 (I:Inv X pins Z H s)(r:Vals vs us)(h:sp (vs++dvs) H Q E):wpAny (model X.prog X.w) X.A (call (.ref f) us) (EP X pins Z Q) X.xe s:=by
 have r2:Vals (vs++dvs) (us++ds):=r.append hd;have hl:(us++ds).length=ps.length:=by rw[<-r2.length];exact F.len _ _ _ _ h
 refine wpAny_call (jo9 (F.run X.A X.stack s H ⟨us,[]⟩ (us++ds) (vs++dvs) Q E hr I.env0 (hb s us I.kIn hl) r2 h) fun r s' hq=>?_);cases r with
 | error e=>exact hx pins Z H s e s' I hq
 | ok fl=>
  cases fl with
  | ret u=>exact I.after hq
  | next=>exact False.elim hq
  | brk=>exact False.elim hq
  | cont=>exact False.elim hq
theorem ur(F:Ex X.prog X.w X.K X.mg X.base CX k f fd ps sp)(hr:Dy k X.A)(hg:Gl X x)(hm:X.mg x=some (.ref f))(hk:PySem.W.keepIn X.K (.ref f)=true)(hb:Binds X.K fd ps ds)(hd:Vals dvs ds)(hx:Kp CX X E)
 (ha:PA X (e::es) t)(hdb:(x==("__debug__":Str))=false:=by decide)(he:‹starEach (e::es) X.env=(false,eval e X.env)::starEach es X.env›)(hpl:‹(backTo pos (starEach es X.env)).any (·.1)=false›):
 PE X (.Call (.Name x p) (e::es) [] pos) (Vd sp dvs E t):=by
 intro pins s Z H Q I h;refine jc5 (My I hg hm ?_ hdb);refine jd9 (h₀:=X.base) I.ok.mod.kin hk (thn (ha (pos:=pos) pins s Z H _ I h) fun us s1 ⟨vs,H1,I1,r,q⟩=>⟨I1.kIn,?_⟩) he hpl;exact Oe F hr hb hd hx I1 r q
theorem uq{pl:Sem Bool}(he:PE X o ta)(c:Cls X.K C)(hm:Meth X.K C m f)(F:Ex X.prog X.w X.K X.mg X.base CX k f fd ps sp)(hr:Dy k X.A)(hb:Binds X.K fd ps ds)(hd:Vals dvs ds)(hx:Kp CX X E)(ha:PA X (e::es) t)
 (hst:‹starEach (e::es) X.env=(false,eval e X.env)::starEach es X.env›)(hpl:‹(backTo pos (starEach es X.env)).any (·.1)=false›)
 (ht:‹eval (.Call (.Attribute o m apos) (e::es) [] pos) X.env=(do
  let ov <-eval o X.env
  standAt apos.atName
  let (f,first) <-holding [ov] (getMethod ov m pl)
  callWith pos f first (backTo pos (starEach (e::es) X.env)) (backToKw pos (keywordEach [] X.env)))›):
 PE X (.Call (.Attribute o m apos) (e::es) [] pos) (Yk C m sp dvs E ta t):=by
 intro pins s Z H Q I h;refine jg3 (pl:=pl) (thn (he s Z H _ I h) fun u s1 hZ=>?_) ht;obtain⟨x,H1,I1,rx,a,dx,fs,ex,ea,l,q⟩:=hZ;subst ex;obtain rfl:u=Value.ref a:=rx;refine JW I1 ea c hm l ?_;refine jd9 (first:=[.ref a]) (h₀:=X.base) I.ok.mod.kin hm.kp (thn (ha (pos:=pos) pins s1 Z H1 _ I1 q) fun us s2 ⟨vs,H2,I2,r,q2⟩=>⟨I2.kIn,?_⟩) hst hpl
 exact Oe (us:=.ref a::us) (vs:=.ref a::vs) F hr hb hd hx I2 (.cons rfl r) q2
theorem oh{pl:Sem Bool}(he:PE X o ta)(c:Cls X.K C)(hm:Meth X.K C m f)(F:Ex X.prog X.w X.K X.mg X.base CX k f fd ps sp)(hr:Dy k X.A)(hb:Binds X.K fd ps ds)(hd:Vals dvs ds)(hx:Kp CX X E)
 (ht:‹eval (.Call (.Attribute o m apos) [] [] pos) X.env=(do
  let ov <-eval o X.env
  standAt apos.atName
  let (f,first) <-holding [ov] (getMethod ov m pl)
  callWith pos f first (backTo pos (starEach [] X.env)) (backToKw pos (keywordEach [] X.env)))›):
 PE X (.Call (.Attribute o m apos) [] [] pos) (Yk C m sp dvs E ta MF):=by
 intro pins s Z H Q I h;refine jg3 (pl:=pl) (thn (he s Z H _ I h) fun u s1 hZ=>?_) ht;obtain⟨x,H1,I1,rx,a,dx,fs,ex,ea,l,q⟩:=hZ;subst ex;obtain rfl:u=Value.ref a:=rx;refine JW I1 ea c hm l ?_;exact jr1 (first:=[.ref a]) I1.kIn hm.kp (Oe (us:=[.ref a]) (vs:=[.ref a]) F hr hb hd hx I1 (.cons rfl .nil) q)
structure Mk(K:Fr)(C f:Addr):Prop where
 makes:PySem.W.makesIn K C=true
 init:PySem.W.findIn K (.ref C) "__init__"=some (some (.ref f))
 fn:PySem.W.isFn K (.ref f)=true
 kp:PySem.W.keepIn K (.ref C)=true
theorem ZM{s:Shared}{Q:VK}{vs:List V}(M:Mk X.K C f)(F:Ex X.prog X.w X.K X.mg X.base CX k f fd ps sp)(hr:Dy (k+1) X.A)(hb:Binds X.K fd ps ds)(hd:Vals dvs ds)
 (hx:Kp CX X E)(I:Inv X pins Z H s)(r:Vals vs us)
 (h:∀x dx,H x=none->H dx=none->dx≠x->sp (.ref x::(vs++dvs)) (upd (upd H dx (.own x)) x (.ins C dx [])) (fun v H2=>v=.non/\Q (.ref x) H2) E):
 wpAny (model X.prog X.w) X.A (call (.ref C) us) (EP X pins Z Q) X.xe s:=by
 have hq:=h (s.heap.objs.size+1) s.heap.objs.size (I.hok.fresh (Nat.le_succ _)) (I.hok.fresh (qo _)) (kg (jp3 _));have I2:=Inv.made (C:=C) I;have r2:Vals (V.ref (s.heap.objs.size+1)::(vs++dvs)) (Value.ref (s.heap.objs.size+1)::(us++ds)):=.cons rfl (r.append hd);have hl:(Value.ref (s.heap.objs.size+1)::us++ds).length=ps.length:=by
  have e:=r2.length;rw[F.len _ _ _ _ hq] at e;exact e.symm
 refine wpAny_call (pN (f:=f) I.kIn M.makes M.init (jc0.mp M.fn) (jo9 (F.run _ X.stack _ _ ⟨Value.ref (s.heap.objs.size+1)::us,[]⟩ (Value.ref (s.heap.objs.size+1)::(us++ds)) _ _ E (hr.make C us [])
  (I2.env0.make C us []) (hb _ (Value.ref (s.heap.objs.size+1)::us) I2.kIn hl) r2 hq) fun r s' hq'=>?_))
 cases r with
 | error e=>exact hx pins Z _ _ e s' I2 hq'
 | ok fl=>
  cases fl with
  | ret u=>
   obtain⟨v,H',I3,rv,ev,q3⟩:=I2.after hq';subst ev;exact⟨rv,⟨V.ref (s.heap.objs.size+1),H',I3,rfl,q3⟩⟩
  | next=>exact False.elim hq'
  | brk=>exact False.elim hq'
  | cont=>exact False.elim hq'
theorem fX(M:Mk X.K C f)(F:Ex X.prog X.w X.K X.mg X.base CX k f fd ps sp)(hr:Dy (k+1) X.A)(hg:Gl X x)(hm:X.mg x=some (.ref C))(hb:Binds X.K fd ps ds)(hd:Vals dvs ds)(hx:Kp CX X E)
 (ha:PA X (e::es) t)(hdb:(x==("__debug__":Str))=false:=by decide)(he:‹starEach (e::es) X.env=(false,eval e X.env)::starEach es X.env›)(hpl:‹(backTo pos (starEach es X.env)).any (·.1)=false›):
 PE X (.Call (.Name x p) (e::es) [] pos) (Vc C sp dvs E t):=by
 intro pins s Z H Q I h;refine jc5 (My I hg hm ?_ hdb);refine jd9 (h₀:=X.base) I.ok.mod.kin M.kp (thn (ha (pos:=pos) pins s Z H _ I h) fun us s1 ⟨vs,H1,I1,r,q⟩=>⟨I1.kIn,?_⟩) he hpl;exact ZM M F hr hb hd hx I1 r q
theorem o6(M:Mk X.K C f)(F:Ex X.prog X.w X.K X.mg X.base CX k f fd ps sp)(hr:Dy (k+1) X.A)(hg:Gl X x)(hm:X.mg x=some (.ref C))(hb:Binds X.K fd ps ds)(hd:Vals dvs ds)(hx:Kp CX X E)
 (hdb:(x==("__debug__":Str))=false:=by decide):PE X (.Call (.Name x p) [] [] pos) (Vc C sp dvs E MF):=by
 intro pins s Z H Q I h;refine jc5 (My I hg hm ?_ hdb);exact jr1 I.kIn M.kp (ZM (us:=[]) M F hr hb hd hx I .nil h)
end
def PK(X:Cx)(kws:List Keyword)(t:TA):Prop:=
 ∀(pos:Pos) (pins:List (Addr×Obj)) (s:Shared) (Z:St) (H:Hp) (Q:List V->Hp->Prop),Inv X pins Z H s->t Z H Q->wpAny (model X.prog X.w) X.A (evalAll ((backToKw pos (keywordEach kws X.env)).map (·.2))) (AP X pins Z Q) X.xe s
section
variable{X:Cx}{CX:CXT}{k:Nat}{f C:Addr}{fd:FuncData}{ps ks:List Str}{sp:Sp}{E:XK}{x m:Str}{p pos apos kpos:Pos}{e o:Expr}{es:List Expr}{kws:List Keyword}{te ta:TE}{t tk:TA}{nm:Option Str}
variable{g:List Value->List Value->List Value}{gV:List V->List V->List V}
end
structure DG(N P:List Str)(sc:Scope):Prop where
 kind:sc.kind=.function
 co:sc.isCoroutine=false
 gen:sc.isGenerator=false
 nd:N.Nodup
 pre:N.take P.length=P
 par:∀x∈P,sc.names.lookup x=some .local\/sc.names.lookup x=some .cell
 nofree:∀y∈sc.names,y.2≠.free
theorem WT{kindOf:Str->Option NameKind}:∀{binds:List (Str×Value)} {m:Str->Option Value},(∀v,(x,v)∉binds)->bindL kindOf binds m x=m x
 | [],_,_=>rfl
 | (n,v)::r,m,h=>by
  unfold bindL;rw[WT fun w hw=>h w (qk _ hw)];split
  ·have:x≠n:=by rintro rfl;exact h v qf
   simp[this]
  ·rfl
theorem WX{kindOf:Str->Option NameKind}:∀{binds:List (Str×Value)} {m:Str->Option Value},(∀v,(x,v)∉binds)->bindC kindOf binds m x=m x
 | [],_,_=>rfl
 | (n,v)::r,m,h=>by
  unfold bindC;rw[WX fun w hw=>h w (qk _ hw)];split
  ·rfl
  ·have:x≠n:=by rintro rfl;exact h v qf
   simp[this]
theorem WW{kindOf:Str->Option NameKind}{v:Value}:∀{P:List Str} {vs:List Value} {i:Nat} {m:Str->Option Value},P.Nodup->P[i]?=some x->vs[i]?=some v->kindOf x=some .local->
 bindL kindOf (P.zip vs) m x=some v
 | [],_,_,_,_,h,_,_=>by simp at h
 | _::_,[],_,_,_,_,h,_=>by simp at h
 | p::P,w::vs,0,m,nd,h1,h2,hk=>by
  simp at h1 h2;subst h1;subst h2;show bindL kindOf ((p,w)::P.zip vs) m p=_;unfold bindL;rw[WT fun v hv=>(jq2.mp nd).1 (jv2 hv).1,xp hk];simp
 | p::P,w::vs,i+1,m,nd,h1,h2,hk=>by
  show bindL kindOf ((p,w)::P.zip vs) m x=_;unfold bindL;exact WW (i:=i) (jq2.mp nd).2 (by simpa using h1) (by simpa using h2) hk
theorem WY{kindOf:Str->Option NameKind}{v:Value}:∀{P:List Str} {vs:List Value} {i:Nat} {m:Str->Option Value},P.Nodup->P[i]?=some x->vs[i]?=some v->kindOf x≠some .local->
 bindC kindOf (P.zip vs) m x=some v
 | [],_,_,_,_,h,_,_=>by simp at h
 | _::_,[],_,_,_,_,h,_=>by simp at h
 | p::P,w::vs,0,m,nd,h1,h2,hk=>by
  simp at h1 h2;subst h1;subst h2;show bindC kindOf ((p,w)::P.zip vs) m p=_;unfold bindC;rw[WX fun v hv=>(jq2.mp nd).1 (jv2 hv).1,xy hk];simp
 | p::P,w::vs,i+1,m,nd,h1,h2,hk=>by
  show bindC kindOf ((p,w)::P.zip vs) m x=_;unfold bindC;exact WY (i:=i) (jq2.mp nd).2 (by simpa using h1) (by simpa using h2) hk
noncomputable def start(N:List Str)(vs:List V):St:=vs.map some++List.replicate (N.length-vs.length) none
noncomputable def VG(CX:CXT)(P:Program)(w:World)(K:Fr)(mg:Str->Option Value)(base:Heap)(N:List Str)(qual:Str)(scope:Scope)(f:Addr)(cd:Value)(A:Around)(outer:List Env)(s:Shared)(H:Hp)(E:XK):Cx where
 prog:=P
 w:=w
 K:=K
 mg:=mg
 base:=base
 A:=A.deeper (envOfC qual scope s.heap.objs.size f cd)
 N:=N
 s₀:=s
 H₀:=H
 env:=envOfC qual scope s.heap.objs.size f cd
 outer:=outer
 stack:=envOfC qual scope s.heap.objs.size f cd::outer
 ex:=[]
 calm:=true
 fn:=fun _=>true
 pn:=[]
 xe:=fun e s'=>wpAny (model P w) (A.deeper (envOfC qual scope s.heap.objs.size f cd)) («leaving» (envOfC qual scope s.heap.objs.size f cd) e) (fun _ s''=>CX outer H s E e s'') (fun e' s''=>CX outer H s E e' s'') s'
theorem Z4{sc:Scope}{n:Nat}(h:sc.names.lookup x=some .cell):∃c,(cellsFrom n sc.names []).lookup x=some c:=by
 have q:=PySem.W.cellsFrom_some sc.names n [] (.inl h);exact jh5.mp q
theorem jy{CX:CXT}{P:Program}{w:World}{mg:Str->Option Value}{base:Heap}{N ps:List Str}{qual:Str}{scope:Scope}{f:Addr}{cd:Value}{outer:List Env}{s s1:Shared}{E:XK}{vs:List V}
 (S:DG N ps scope)(hd:A.handled=none)(e0:dh P w K mg base A outer s H)(hl:vs.length=ps.length)(r:Vals vs us)
 (x:InCallC s s.heap.objs.size (bindL (envOfC qual scope s.heap.objs.size f cd).kindOf (ps.zip us) fun _=>none) (cellsFrom (s.heap.objs.size+1) scope.names []) (bindC (envOfC qual scope s.heap.objs.size f cd).kindOf (ps.zip us) fun _=>none) s1):
 Inv (VG CX P w K mg base N qual scope f cd A outer s H E) [] (start N vs) H s1:=by
 have hpl:ps.length<=N.length:=by have:=ya List.length S.pre;rw[je0] at this;lia
 obtain⟨h1,tk,rfl,hk⟩:=x.done;have noA:∀b:Addr,b∉(VG CX P w K mg base N qual scope f cd A outer s H E).ex:=fun b z=>absurd (show b∈([]:List Addr) from z) (by simp);refine⟨⟨e0.mod,S.kind,rfl,rfl,qo _,fun y z c h1 h2=>?_,fun y hy=>?_,fun y c _ h=>?_,fun _=>hd,Around.frames_deeper e0.frames,.inr ⟨rfl,rfl⟩,fun b z=>absurd z (noA b),e0.bs,e0.bsz,fun b _ _=>noA b,fun b z=>absurd z (noA b),e0.funs,e0.frf⟩,
  rfl,e0.bare,Un.kept hk,⟨_,x.toInCall.ns,fun i y v h1 h2 h3=>?_⟩,fun y c h=>⟨_,x.cell y c h⟩,e0.hok.fresh (qo _),fun y c h=>?_,fun p hp=>absurd (show p∈([]:List (Addr×Obj)) from hp) (by simp),e0.hok.kept hk,?_⟩
 ·exact name_of_addr x.apart (ji7 h1) (ji7 h2)
 ·have hy:scope.names.lookup y=some .cell\/scope.names.lookup y=some .free:=hy;rcases hy with hy | hy
  ·exact Z4 hy
  ·exact absurd rfl (S.nofree _ (ji7 hy))
 ·exact Nat.le_of_lt (x.above y c (ji7 h))
 ·have hi:i<vs.length:=by
   unfold start at h2;by_cases hi:i<vs.length
   ·exact hi
   ·rw[jf1 (by simpa using hi)] at h2;rw[List.getElem?_replicate] at h2;split at h2<;>cases h2
  have ha:vs[i]?=some v:=by
   unfold start at h2;rw[jg7 (by simpa using hi),xo] at h2;cases e:vs[i]? with
   | none=>rw[e] at h2;cases h2
   | some a=>rw[e] at h2;cases h2;rfl
  obtain⟨u,hu,rv⟩:=r.get ha;have hp:ps[i]?=some y:=by
   rw[<-S.pre,jl1 ⋯];exact h1
  have ndP:ps.Nodup:=by rw[<-S.pre];exact S.nd.sublist (List.take_sublist _ _)
  refine⟨u,rv,?_⟩;rcases S.par y (qv hp) with k | k
  ·exact .inl ⟨k,WW ndP hp hu k⟩
  ·obtain⟨c,e⟩:=Z4 (n:=s.heap.objs.size+1) k;refine .inr ⟨.inl k,c,e,?_⟩;have q:=x.cell y c e;rw[WY ndP hp hu (by show scope.names.lookup y≠_;rw[k];decide)] at q;exact q
 ·exact e0.hok.fresh (Nat.le_of_lt (x.above y c (ji7 h)))
 ·unfold start;show _=N.length;rw[ze,js,jb9];lia
theorem yI{CX:CXT}{P:Program}{w:World}{mg:Str->Option Value}{base:Heap}{k:Nat}{f:Addr}{name qual:Str}{params:Arguments}{body:List Stmt}{scope:Scope}{dV kV doc pm cdv ct oc:Value}{an od:Option Addr}
 {osl:Array (Option Value)}{N ps:List Str}{sp:Sp}(lk:K.lookup f=some ⟨oc,od,.func (PySem.W.fnOf name qual params body scope dV kV doc pm an cdv ct),osl⟩)(hcd:PySem.W.codeIn K cdv qual=true)(S:DG N ps scope)
 (len:∀vs H Q E,sp vs H Q E->vs.length=ps.length)
 (hbody:∀(A:Around) (outer:List Env) (s:Shared) (H:Hp) (vs:List V) (Q:VK) (E:XK),Dy k (A.deeper (envOfC qual scope s.heap.objs.size f cdv))->sp vs H Q E->
  ∃t,PSs (VG CX P w K mg base N qual scope f cdv A outer s H E) body t/\t { nx:=fun _ H'=>Q .non H',rt:=Q } (start N vs) H):
 Ex P w K mg base CX (k+1) f (PySem.W.fnOf name qual params body scope dV kV doc pm an cdv ct) ps sp:=by
 refine⟨len,fun A outer s H args us vs Q E hr e0 hb r hsp=>?_⟩;have hl:=len _ _ _ _ hsp;have KX:K.In s.heap:=e0.mod.kin.keeps fun b o e=>(e0.bs b o e).1;have lim:s.heap.NoLimit:=e0.mod.nolimit.keeps fun b o e=>(e0.bs b o e).1;have hkind:∀y∈ps.zip us,scope.names.lookup y.1=some .local\/(scope.names.lookup y.1=some .cell/\((cellsFrom (s.heap.objs.size+1) scope.names []).lookup y.1).isSome=true):=fun⟨n,v⟩ hy=>by
  rcases S.par n (jv2 hy).1 with q | q
  ·exact .inl q
  ·exact .inr ⟨q,PySem.W.cellsFrom_some _ _ _ (.inl q)⟩
 refine codeAny_call_function hr.depth (KX _ _ lk) rfl S.co S.gen rfl (PySem.W.codeRec_of KX hcd) (hb _ _ _ _ ?_);refine wpAny_newFunctionEnv_cells S.kind hkind fun env he s1 x=>?_;subst he;refine⟨lim.keeps x.toInCall.keep,codeAny_func ?_⟩;obtain⟨t,ht,hq⟩:=hbody A outer s H vs Q E (hr.deeper _) hsp;have I:Inv (VG CX P w K mg base N qual scope f cdv A outer s H E) [] (start N vs) H s1:=jy S hr.hd e0 hl r x;refine ja7 (ht s1 (start N vs) H _ I hq) (fun fl s' hs=>?_) fun e s' hs=>hs;have fin:∀{Z':St} {H':Hp} {v:V} {u:Value},Inv (VG CX P w K mg base N qual scope f cdv A outer s H E) [] Z' H' s'->RelV v u->Q v H'->CE outer P w H s Q u s':=
  fun{Z' H' v u} J rv q=>⟨v,H',J.os,J.bare,J.base,J.hok,rv,q⟩
 cases fl with
 | ret u=>
  obtain⟨v,Z',H',J,rv,q⟩:=hs;exact fin J rv q
 | next=>
  obtain⟨Z',H',J,q⟩:=hs;exact fin (v:=V.non) (u:=Value.none) J rfl q
 | brk=>
  obtain⟨_,_,_,q⟩:=hs;exact False.elim q
 | cont=>
  obtain⟨_,_,_,q⟩:=hs;exact False.elim q
section
variable{X:Cx}{x:Str}{p pos:Pos}{e:Expr}{es:List Expr}{t:TA}{id T:String}{r:List V->Hp->VK->Prop}
def tCB(r:List V->Hp->VK->Prop)(t:TA):TE:=fun Z H Q=>t Z H fun vs H1=>r vs H1 Q
theorem BW(hc:Hv X (.builtin id) r)(hg:Gl X x)(hm:X.mg x=none)(hv:bootBuiltins x=some (.builtin id))(ha:PA X (e::es) t)(hn:x≠"__name__":=by decide)(hdb:(x==("__debug__":Str))=false:=by decide)
 (he:‹starEach (e::es) X.env=(false,eval e X.env)::starEach es X.env›)(hpl:‹(backTo pos (starEach es X.env)).any (·.1)=false›):PE X (.Call (.Name x p) (e::es) [] pos) (tCB r t):=by
 intro pins s Z H Q I h;refine jc5 (Hs I hg hm hv ?_ hn hdb);exact PyProof.Rows.callWith_builtin1 (thn (ha (pos:=pos) pins s Z H _ I h) fun us s1 ⟨vs,H1,I1,r1,q1⟩=>hc pins s1 Z H1 vs us Q I1 r1 q1) he hpl
theorem BZ(hc:Hv X (.type T) r)(hg:Gl X x)(hm:X.mg x=none)(hv:bootBuiltins x=some (.type T))(ha:PA X (e::es) t)(hn:x≠"__name__":=by decide)(hdb:(x==("__debug__":Str))=false:=by decide)
 (he:‹starEach (e::es) X.env=(false,eval e X.env)::starEach es X.env›)(hpl:‹(backTo pos (starEach es X.env)).any (·.1)=false›):PE X (.Call (.Name x p) (e::es) [] pos) (tCB r t):=by
 intro pins s Z H Q I h;refine jc5 (Hs I hg hm hv ?_ hn hdb);exact vb (thn (ha (pos:=pos) pins s Z H _ I h) fun us s1 ⟨vs,H1,I1,r1,q1⟩=>hc pins s1 Z H1 vs us Q I1 r1 q1) he hpl
end
end L2
namespace HT
open PySem PyProof.Rows
section
open PySem.SeqAt
open PySem.AutoSeq1 (wpAny_loadPart')
open PySem.MeetsSeq PySem.MeetsSeq2 PySem.MeetsSeq3
end
section
variable{prog:Program}{w:World}{A:Around}{E:Value->Shared->Prop}{s:Shared}
noncomputable def sIx(n d:Nat):Option Int->Nat
 | none=>d
 | some v=>if v<0 then (v+(n:Int)).toNat else min v.toNat n
theorem sIx_none(n d:Nat):sIx n d none=d:=rfl
theorem sIx_nat(n d k:Nat):sIx n d (some (k:Int))=min k n:=by
 show(if (k:Int)<0 then ((k:Int)+(n:Int)).toNat else min (k:Int).toNat n)=min k n;rw[xy ⋯,zw]
end
end HT
namespace L2
open PySem PySem.Spec PyProof.Rows
noncomputable abbrev TO:=St->Hp->(Option Int->Hp->Prop)->Prop
def PO(X:Cx)(e:Option Expr)(t:TO):Prop:=
 ∀ ⦃pins:List (Addr×Obj)⦄ (s:Shared) (Z:St) (H:Hp) (Q:Option Int->Hp->Prop),Inv X pins Z H s->t Z H Q->
  wpAny (model X.prog X.w) X.A (evalPart e X.env) (fun u s'=>∃o H',Inv X pins Z H' s'/\IsPart u o/\Q o H') X.xe s
def eG:TO:=fun _ H Q=>Q none H
def xN(t:TE):TO:=fun Z H Q=>t Z H fun x H1=>∃i,x=.int i/\Q (some i) H1
theorem intsAre_of{ns:List Int}:∀{us:List Value},Vals (ns.map V.int) us->IntsAre us ns:=by
 induction ns with
 | nil=>intro us r;rw[jl2] at r;cases r;exact .nil
 | cons n ns ih=>
  intro us r;rw[zv] at r;cases r with
  | cons r1 r2=>
   obtain⟨t,e⟩:=r1;subst e;exact .cons n t (ih r2)
section
variable{X:Cx}{e:Expr}{te:TE}{lo hi:Option Expr}{tl th:TO}{pos p2:Pos}
theorem Eb:PO X none eG:=by
 intro pins s Z H Q I h;rw[evalPart_none];exact xz ⟨none,H,I,.none,h⟩
theorem DR(h:PE X e te):PO X (some e) (xN te):=by
 intro pins s Z H Q I hw;rw[evalPart_some];refine thn (h s Z H _ I hw) fun u s1 hZ=>?_;obtain⟨x,H1,I1,r1,q1⟩:=hZ;obtain⟨i,rfl,q⟩:=q1;obtain⟨t,rfl⟩:=r1;exact⟨some i,H1,I1,.int i t,q⟩
def SlR(X:Cx)(r:V->Option Int->Option Int->Hp->VK->Prop):Prop:=
 ∀(pins:List (Addr×Obj)) (s:Shared) (Z:St) (H:Hp) (x:V) (v vl vu:Value) (lo hi:Option Int) (sl:Addr) (Q:VK),Inv X pins Z H s->RelV x v->s.heap.IsSliceOf sl vl vu .none->IsPart vl lo->IsPart vu hi->r x lo hi H Q->
  ∃T id,typeLookup (.type T) "__getitem__"=pure (some (.builtin id))/\s.TypeIs v T/\wpAny (model X.prog X.w) X.A (getItem v (.ref sl)) (EP X pins Z Q) X.xe s
def tSl(r:V->Option Int->Option Int->Hp->VK->Prop)(te:TE)(tl th:TO):TE:=fun Z H Q=>te Z H fun x H1=>tl Z H1 fun l H2=>th Z H2 fun u H3=>r x l u H3 Q
theorem Cu{r:V->Option Int->Option Int->Hp->VK->Prop}(hr:SlR X r)(he:PE X e te)(hl:PO X lo tl)(hu:PO X hi th):PE X (.Subscript e (.Slice lo hi none p2) pos) (tSl r te tl th):=by
 intro pins s Z H Q I h;refine Subscript_ (thn (he s Z H _ I h) fun v s1 hZ=>?_);obtain⟨x,H1,I1,r1,q1⟩:=hZ;refine wpAny_Slice (thn (hl s1 Z H1 _ I1 q1) fun vl s2 ⟨l,H2,I2,pl,q2⟩=>thn (hu s2 Z H2 _ I2 q2) fun vu s3 hZ=>?_);obtain⟨u,H3,I3,pu,q3⟩:=hZ;rw[evalPart_none];refine xz ?_;have I4:Inv X pins Z H3 { s3 with heap:=s3.heap.push { cls:=.type "slice",data:=.fields #[vl,vu,.none] } }:=I3.kept (t':=s3.toks) fun b ob q=>qc _ q;obtain⟨T,id,hT,ht,hg⟩:=hr pins { s3 with heap:=s3.heap.push { cls:=.type "slice",data:=.fields #[vl,vu,.none] } } Z H3 x v vl vu l u s3.heap.objs.size Q I4 r1 (Heap.IsSliceOf.new ..) pl pu q3;show wpAny (model X.prog X.w) X.A (subscriptTail e (.Slice lo hi none p2) v (.ref s3.heap.objs.size)) (EP X pins Z Q) X.xe { s3 with heap:=s3.heap.push { cls:=.type "slice",data:=.fields #[vl,vu,.none] } };exact tail_any (ops:=[.ref s3.heap.objs.size,v]) ht hT hg (by with_unfolding_all rfl)
noncomputable def Ij(xs:List V)(lo hi:Option Int):List V:=(xs.drop (HT.sIx xs.length 0 lo)).take (HT.sIx xs.length xs.length hi-HT.sIx xs.length 0 lo)
theorem Zy(xs:List V)(lo hi:Option Int):(Ij xs lo hi).length<=xs.length:=by
 unfold Ij;rw[je0,jb3];lia
end
noncomputable def ixN(n:Nat)(i:Int):Option Nat:=if 0<=i then (if i<n then some i.toNat else none) else if -(n:Int)<=i then some (i+n).toNat else none
noncomputable def atI{α:Type}(xs:List α)(i:Int):Option α:=(ixN xs.length i).bind fun j=>xs[j]?
theorem gM{n:Nat}{i:Int}{j:Nat}(h:ixN n i=some j):seqIndex? i n=some j/\j<n/\ -(n:Int)<=i/\i<n:=by
 unfold ixN at h;by_cases h0:0<=i
 ·rw[xp h0] at h;by_cases h1:i<n
  ·rw[xp h1] at h;have e:i.toNat=j:=uk h;exact⟨by rw[seqIndex_of h0 h1,e],⋯,⋯,h1⟩
  ·rw[xy h1] at h;cases h
 ·rw[xy h0] at h;by_cases h1: -(n:Int)<=i
  ·rw[xp h1] at h;have e:(i+n).toNat=j:=uk h;exact⟨by rw[seqIndex_neg ⋯ h1,e],⋯,h1,⋯⟩
  ·rw[xy h1] at h;cases h
theorem YM{α:Type}{xs:List α}{i:Int}{v:α}(h:atI xs i=some v):∃j,seqIndex? i xs.length=some j/\xs[j]?=some v/\j<xs.length/\ -(xs.length:Int)<=i/\i<xs.length:=by
 unfold atI at h;cases e:ixN xs.length i with
 | none=>rw[e] at h;cases h
 | some j=>
  rw[e] at h;obtain⟨h1,h2,h3,h4⟩:=gM e;exact⟨j,h1,h,h2,h3,h4⟩
theorem Dw{α:Type}{xs:List α}{j:Nat}{v:α}(h:xs[j]?=some v):atI xs (j:Int)=some v:=by
 have hj:j<xs.length:=(zk.mp h).1;have e:ixN xs.length (j:Int)=some j:=by
  unfold ixN;rw[xp ⋯,xp ⋯];simp
 unfold atI;rw[e];exact h
def wu(b:Expr):Prop:=∀o i,subscripted b false o i=operate [o,i] (getItem o i)
def IxR(X:Cx)(r:R2):Prop:=
 ∀(value slice:Expr) (pins:List (Addr×Obj)) (s:Shared) (Z:St) (H:Hp) (x y:V) (v u:Value) (Q:VK),Inv X pins Z H s->RelV x v->RelV y u->r x y H Q->
  subscripted slice false v u=operate [v,u] (getItem v u)->wpAny (model X.prog X.w) X.A (subscriptTail value slice v u) (EP X pins Z Q) X.xe s
def MtR(X:Cx)(id:String)(r:V->List V->Hp->VK->Prop):Prop:=
 ∀(pins:List (Addr×Obj)) (s:Shared) (Z:St) (H:Hp) (x:V) (xs:List V) (v:Value) (us:List Value) (Q:VK),Inv X pins Z H s->RelV x v->Vals xs us->r x xs H Q->
  wpAny (model X.prog X.w) X.A (call (.builtin id) (v::us)) (EP X pins Z Q) X.xe s
section
variable{X:Cx}{a b:Expr}{ta tb:TE}{pos:Pos}
theorem Eu{r:R2}(hr:IxR X r)(ha:PE X a ta)(hb:PE X b tb)(hs:wu b:=by exact fun _ _=>rfl):PE X (.Subscript a b pos) (tOp r ta tb):=by
 intro pins s Z H Q I h;exact Subscript_ (ABT ha hb I h fun v u s2 x y H2 I2 rx ry q=>hr a b pins s2 Z H2 x y v u Q I2 rx ry q (hs _ _))
def um(K:Fr):R2:=fun x y H Q=>∃p xs i v,x=.ref p/\y=.int i/\SqL K H p xs/\atI xs i=some v/\Q v H
def uh(K:Fr):R2:=fun x y H Q=>∃p xs i v,x=.ref p/\y=.int i/\SqT K H p xs/\atI xs i=some v/\Q v H
def ADz:R2:=fun x y H Q=>∃z i c,x=.str z/\y=.int i/\z.length<=sizeLine/\atI z.cps.toList i=some c/\Q (.str ⟨#[c]⟩) H
theorem Gv:IxR X (um X.K):=by
 intro value slice pins s Z H x y v u Q I rx ry h hs;obtain⟨p,xs,i,z,rfl,rfl,hq,he,q⟩:=h;cases rx;obtain⟨t,rfl⟩:=ry;obtain⟨its,r,pl,hz⟩:=I.list hq;obtain⟨j,h1,h2,h3,h4,h5⟩:=YM he;obtain⟨w,ew,rw'⟩:=r.get h2;have hl:=r.length;have hn:=Lp;have fin:EP X pins Z Q w s:=⟨z,H,I,rw',q⟩;by_cases h0:0<=i
 ·have hj:i.toNat=j:=by
   rw[seqIndex_of h0 h5] at h1;exact uk h1
  exact item_listR pl.isList h0 ⋯ (by rw[hj];simpa using ew) fin hs
 ·have hj:(i+(its.toArray.size:Int)).toNat=j:=by
   rw[seqIndex_neg ⋯ h4] at h1;rw[xc,<-hl];exact uk h1
  exact subscriptTail_builtinR (x:=w) pl.isList.typeIs slot_list_getitem.lookup
   (wpAny_getItem_list_neg (Q:=fun r s'=>r=w/\EP X pins Z Q r s') pl.isList ⋯ (by rw[xc]<;>lia) ⋯ (by rw[hj];simpa using ew) ⟨rfl,fin⟩) hs
theorem Lr:IxR X (uh X.K):=by
 intro value slice pins s Z H x y v u Q I rx ry h hs;obtain⟨p,xs,i,z,rfl,rfl,hq,he,q⟩:=h;cases rx;obtain⟨t,rfl⟩:=ry;obtain⟨its,r,pl,hz⟩:=I.tuple hq;obtain⟨j,h1,h2,h3,h4,h5⟩:=YM he;obtain⟨w,ew,rw'⟩:=r.get h2;have hl:=r.length;have hn:=Lp;have fin:EP X pins Z Q w s:=⟨z,H,I,rw',q⟩;exact subscriptTail_builtinR (x:=w) pl.typeIs slot_tuple_getitem.lookup
  (getItem_tuple (j:=j) (Q:=fun r s'=>r=w/\EP X pins Z Q r s') pl ⋯ ⋯ (by rw[xc,<-hl];exact h1) (by simpa using ew) ⟨rfl,fin⟩) hs
theorem pZ:IxR X ADz:=by
 intro value slice pins s Z H x y v u Q I rx ry h hs;obtain⟨z,i,c,rfl,rfl,hz,he,q⟩:=h;obtain⟨t,rfl⟩:=rx;obtain⟨t',rfl⟩:=ry;obtain⟨j,h1,h2,h3,h4,h5⟩:=YM he;have hl:z.cps.toList.length=z.length:=by simp[Str.length]
 rw[hl] at h1 h4 h5;have hn:=Lp;exact tail_any (typeIs_str s z t) slot_str_getitem.lookup (getItem_str (c:=c) (by
  have e1:decide (i< -(2^63:Int))=false:=decide_eq_false ⋯;have e2:decide (i>=2^63)=false:=decide_eq_false ⋯;rw[e1,e2,jt9]) (by rw[h1];simpa using h2) ⟨.str ⟨#[c]⟩,H,I.tok _,⟨_,rfl⟩,q⟩) hs
theorem cT(its:List Value)(n j:Nat)(u:Value):Obj.mapSeq (·.setIfInBounds j u) { cls:=.type "list",data:=.seq its.toArray n }={ cls:=.type "list",data:=.seq (its.set j u).toArray n }:=by
 simp[Obj.mapSeq]
theorem Inv.lst{pins:List (Addr×Obj)}{Z:St}{H:Hp}{s:Shared}{p:Addr}{xs:List V}(I:Inv X pins Z H s)(h:H p=some (.lst xs)):
 ∃(its:List Value) (n:Nat),Vals xs its/\s.heap.get? p=some { cls:=.type "list",data:=.seq its.toArray n }/\xs.length<=sizeLine:=by
 obtain⟨z,its,n,r,e⟩:=I.hok p _ h;exact⟨its,n,r,e,z⟩
theorem Inv.lstUpd{pins:List (Addr×Obj)}{Z:St}{H:Hp}{s:Shared}{p:Addr}{xs ys:List V}{its its':List Value}{n n':Nat}{f:Obj->Obj}(I:Inv X pins Z H s)(h:H p=some (.lst xs))
 (ho:s.heap.get? p=some { cls:=.type "list",data:=.seq its.toArray n })(hf:f { cls:=.type "list",data:=.seq its.toArray n }={ cls:=.type "list",data:=.seq its'.toArray n' })(r:Vals ys its')(hz:ys.length<=sizeLine)(t:Nat):
 Inv X pins Z (upd H p (.lst ys)) { s with heap:=s.heap.update p f,toks:=t }:=by
 have e:(s.heap.update p f).get? p=some { cls:=.type "list",data:=.seq its'.toArray n' }:=by
  rw[jf6 f ho (by rw[hf]<;>rfl),hf]
 refine I.write (x:=p) (e:=p) (by rw[h];trivial) (.inl rfl) (fun b u hb q=>(ja8 _ _ (Ne.symm hb)).trans q) ⟨_,e⟩ ?_;exact⟨hz,its',n',r,e⟩
def xZ:V->V->V->Hp->(Hp->Prop)->Prop:=fun o i v H Q=>∃p xs k j,o=.ref p/\i=.int k/\H p=some (.lst xs)/\ixN xs.length k=some j/\Q (upd H p (.lst (xs.set j v)))
theorem set_list:ADY X xZ:=by
 intro pins s Z H o i v ov iv u Q I ro ri rv h;obtain⟨p,xs,k,j,rfl,rfl,hp,hj,q⟩:=h;cases ro;obtain⟨t,rfl⟩:=ri;obtain⟨its,n,r,ho,hz⟩:=I.lst hp;obtain⟨h1,h2,h3,h4⟩:=gM hj;have hl:=r.length;have hn:=Lp;have I':Inv X pins Z (upd H p (.lst (xs.set j v))) { s with heap:=s.heap.update p (Obj.mapSeq (·.setIfInBounds j u)) }:=
  I.lstUpd hp ho (cT its n j u) (r.set rv j) (by rw[List.length_set];exact hz) s.toks
 by_cases h0:0<=k
 ·have hk:k.toNat=j:=by
   rw[seqIndex_of h0 h4] at h1;exact uk h1
  exact PySem.W.ki_setAt ho h0 ⋯ (by rw[xc,<-hl];exact h4) (by rw[hk];exact⟨_,I',q⟩)
 ·have hk:(k+(its.toArray.size:Int)).toNat=j:=by
   rw[seqIndex_neg ⋯ h3] at h1;rw[xc,<-hl];exact uk h1
  exact PySem.W.ki_setBack ho ⋯ (by rw[xc,<-hl];exact h3) ⋯ (by rw[hk];exact⟨_,I',q⟩)
theorem W2(lo hi:Option Int)(n:Nat):(sliceBounds lo hi none n).1=((HT.sIx n 0 lo:Nat):Int)/\(sliceBounds lo hi none n).2.1=((HT.sIx n n hi:Nat):Int)/\(sliceBounds lo hi none n).2.2=1:=by
 refine⟨?_,?_,rfl⟩
 ·cases lo with
  | none=>simp[sliceBounds,HT.sIx]
  | some i=>
   simp only[sliceBounds,HT.sIx,Option.getD_none,show(1:Int)>0 by decide,if_true];by_cases h:i<0
   ·simp only[h,if_true]<;>lia
   ·simp only[h,if_false]<;>lia
 ·cases hi with
  | none=>simp[sliceBounds,HT.sIx]
  | some i=>
   simp only[sliceBounds,HT.sIx,Option.getD_none,show(1:Int)>0 by decide,if_true];by_cases h:i<0
   ·simp only[h,if_true]<;>lia
   ·simp only[h,if_false]<;>lia
theorem Ur(its:List Value)(lo hi:Option Int):slicePick its.toArray lo hi none=((its.drop (HT.sIx its.length 0 lo)).take (HT.sIx its.length its.length hi-HT.sIx its.length 0 lo)).toArray:=by
 obtain⟨h1,h2,h3⟩:=W2 lo hi its.toArray.size;unfold slicePick;rw[h1,h2,h3];simp only[sliceRange_one,pick_run,xc]<;>rfl
def ACi(K:Fr):V->Option Int->Option Int->Hp->VK->Prop:=fun x lo hi H Q=>∃a xs,x=.ref a/\SqL K H a xs/\∀p,H p=none->Q (.ref p) (upd H p (.lst (Ij xs lo hi)))
theorem FJ:SlR X (ACi X.K):=by
 intro pins s Z H x v vl vu lo hi sl Q I rx hs pl pu h;obtain⟨a,xs,rfl,hx,q⟩:=h;cases rx;obtain⟨its,r,ht,hz⟩:=I.list hx;have hlen:=r.length;refine⟨"list",_,slot_list_getitem.lookup,ht.isList.typeIs,?_⟩;refine wpAny_getItem_list_slice ht.isList hs pl pu .none (by simp) ?_ (by rw[xc]<;>lia);rw[Ur,<-hlen];refine⟨.ref s.heap.objs.size,_,I.laid (t':=s.toks) (o:=.lst (Ij xs lo hi)) (fun b ob q=>qc _ q) (qo _) ?_,rfl,q _ (I.hok.fresh (qo _))⟩;exact⟨zo (Zy xs lo hi) hz,_,0,(r.drop (HT.sIx xs.length 0 lo)).take (HT.sIx xs.length xs.length hi-HT.sIx xs.length 0 lo),xa _ rfl⟩
noncomputable def Js:V->Bool
 | .non=>true
 | .bl _=>true
 | .int _=>true
 | .str _=>true
 | _=>false
noncomputable def eqV:V->V->Bool
 | .non,.non=>true
 | .bl a,.bl b=>a==b
 | .bl a,.int b=>(if a then 1 else 0)==b
 | .int a,.bl b=>a==(if b then 1 else 0)
 | .int a,.int b=>a==b
 | .str a,.str b=>a==b
 | _,_=>false
theorem qR{A:Around}{s:Shared}{y x:V}{u v:Value}(ry:RelV y u)(rx:RelV x v)(fy:Js y=true)(fx:Js x=true):SeqAt.EqAt A s u v (eqV y x):=by
 cases y with
 | non=>
  cases ry;cases x with
  | non=>cases rx;exact SeqAt.EqAt.same _
  | bl b=>cases rx;exact SeqAt.EqAt.none_bool b
  | int b=>obtain⟨t,rfl⟩:=rx;exact SeqAt.EqAt.none_int b t
  | str b=>obtain⟨t,rfl⟩:=rx;exact SeqAt.EqAt.none_str b t
  | _=>exact absurd (show false=true from fx) zi
 | bl a=>
  cases ry;cases x with
  | non=>cases rx;exact SeqAt.EqAt.bool_none a
  | bl b=>cases rx;exact SeqAt.EqAt.bool_bool a b
  | int b=>obtain⟨t,rfl⟩:=rx;exact SeqAt.EqAt.bool_int a b t
  | str b=>obtain⟨t,rfl⟩:=rx;exact SeqAt.EqAt.bool_str a b t
  | _=>exact absurd (show false=true from fx) zi
 | int a=>
  obtain⟨t',rfl⟩:=ry;cases x with
  | non=>cases rx;exact SeqAt.EqAt.int_none a t'
  | bl b=>cases rx;exact SeqAt.EqAt.int_bool a t' b
  | int b=>obtain⟨t,rfl⟩:=rx;exact SeqAt.EqAt.int_int a t' b t
  | str b=>obtain⟨t,rfl⟩:=rx;exact SeqAt.EqAt.int_str a t' b t
  | _=>exact absurd (show false=true from fx) zi
 | str a=>
  obtain⟨t',rfl⟩:=ry;cases x with
  | non=>cases rx;exact SeqAt.EqAt.str_none a t'
  | bl b=>cases rx;exact SeqAt.EqAt.str_bool a t' b
  | int b=>obtain⟨t,rfl⟩:=rx;exact SeqAt.EqAt.str_int a t' b t
  | str b=>obtain⟨t,rfl⟩:=rx;exact SeqAt.EqAt.str_str a t' b t
  | _=>exact absurd (show false=true from fx) zi
 | _=>exact absurd (show false=true from fy) zi
noncomputable def eqU(x:V)(u:Value):Bool:=match u with
 | .none=>eqV .non x
 | .bool b=>eqV (.bl b) x
 | .int i _=>eqV (.int i) x
 | .str z _=>eqV (.str z) x
 | _=>false
theorem qQ{x y:V}{u:Value}(r:RelV y u)(f:Js y=true):eqU x u=eqV y x:=by
 cases y with
 | non=>cases r;rfl
 | bl b=>cases r;rfl
 | int i=>obtain⟨t,rfl⟩:=r;rfl
 | str z=>obtain⟨t,rfl⟩:=r;rfl
 | _=>exact absurd (show false=true from f) zi
theorem YQ{x:V}:∀{xs:List V} {us:List Value},Vals xs us->xs.all Js=true->us.any (eqU x)=xs.any fun y=>eqV y x
 | _,_,.nil,_=>rfl
 | y::xs,u::us,.cons r t,f=>by
  rw[jm0,yy] at f;rw[jm1,jm1,qQ r f.1,YQ t f.2]
theorem Sw{A:Around}{s:Shared}{x:V}{v:Value}(rx:RelV x v)(fx:Js x=true):∀{xs:List V} {us:List Value},Vals xs us->xs.all Js=true->∀u∈us,SeqAt.EqAt A s u v (eqU x u)
 | _,_,.nil,_=>fun u hu=>by cases hu
 | y::xs,u::us,.cons r t,f=>fun u' hu=>by
  rw[jm0,yy] at f;rcases zh.mp hu with rfl | hu
  ·rw[qQ r f.1];exact qR r rx f.1 fx
  ·exact Sw rx fx t f.2 u' hu
noncomputable def inV(x:V)(xs:List V):Bool:=xs.any fun y=>eqV y x
def rIn(K:Fr)(neg:Bool):R2:=fun x y H Q=>∃p xs,y=.ref p/\(SqL K H p xs\/SqT K H p xs)/\Js x=true/\xs.all Js=true/\Q (.bl (if neg then !inV x xs else inV x xs)) H
theorem Xi:OpR X (compareOp .NotIn) (rIn X.K true):=by
 intro pins s Z H x y v u Q I rx ry h;obtain⟨p,xs,rfl,hq,fx,fs,q⟩:=h;cases ry;rcases hq with hq | hq
 ·obtain⟨its,r,pl,hz⟩:=I.list hq;refine SeqAt.notIn_listAt (eqU x) pl.isList (fun w hw=>Sw rx fx r fs w (by simpa using hw)) ⟨.bl _,H,I,rfl,?_⟩;rw[show its.toArray.any (eqU x)=its.any (eqU x) by simp,YQ r fs];exact q
 ·obtain⟨its,r,pl,hz⟩:=I.tuple hq;refine SeqAt.notIn_tupleAt (eqU x) pl (fun w hw=>Sw rx fx r fs w (by simpa using hw)) ⟨.bl _,H,I,rfl,?_⟩;rw[show its.toArray.any (eqU x)=its.any (eqU x) by simp,YQ r fs];exact q
theorem Bl:Hv X (.builtin "len") (fun xs H Q=>∃p ys,xs=[.ref p]/\(SqL X.K H p ys\/SqT X.K H p ys)/\Q (.int ys.length) H):=by
 intro pins s Z H xs us Q I r h;obtain⟨p,ys,rfl,hq,q⟩:=h;obtain⟨u,rfl,rx⟩:=vals1 r;cases rx;have hn:=Lp;rcases hq with hq | hq
 ·obtain⟨its,r',pl,hz⟩:=I.list hq;have hlen:=r'.length;exact Calls.call_len_list pl.isList (by simp only[xc]<;>lia) ⟨.int ys.length,H,I.tok _,⟨s.toks+1,by rw[xc,hlen]⟩,q⟩
 ·obtain⟨its,r',pl,hz⟩:=I.tuple hq;have hlen:=r'.length;exact len_tuple pl (by simp only[xc]<;>lia) ⟨.int ys.length,H,I.tok _,⟨s.toks+1,by rw[xc,hlen]⟩,q⟩
theorem Eh:Hv X (.builtin "len") (fun xs H Q=>∃z,xs=[.str z]/\z.length<=sizeLine/\Q (.int z.length) H):=by
 intro pins s Z H xs us Q I r h;obtain⟨z,rfl,hz,q⟩:=h;obtain⟨u,rfl,t,rfl⟩:=vals1 r;have hn:=Lp;exact len_str ⋯ ⟨.int z.length,H,I.tok _,⟨_,rfl⟩,q⟩
theorem YB:Hv X (.type "list") (fun xs H Q=>∃p ys,xs=[.ref p]/\(SqL X.K H p ys\/SqT X.K H p ys)/\∀l,H l=none->Q (.ref l) (upd H l (.lst ys))):=by
 intro pins s Z H xs us Q I r h;obtain⟨p,ys,rfl,hq,q⟩:=h;obtain⟨u,rfl,rx⟩:=vals1 r;cases rx;have fin:∀(its:List Value),Vals ys its->ys.length<=sizeLine->∀(h':Heap) (c':Nat),(∀b o',s.heap.get? b=some o'->h'.get? b=some o')->
  h'.get? s.heap.objs.size=some { cls:=.type "list",dict:=none,data:=.seq its.toArray c',slots:= #[] }->EP X pins Z Q (.ref s.heap.objs.size) { s with heap:=h' }:=fun its r' hz h' c' kp e=>
  ⟨.ref s.heap.objs.size,_,I.laid (t':=s.toks) kp (qo _) (show Ep X.prog X.w _ h' _ (.lst ys) from ⟨hz,its,c',r',e⟩),rfl,q _ (I.hok.fresh (qo _))⟩
 rcases hq with hq | hq
 ·obtain⟨its,r',pl,hz⟩:=I.list hq;have hlen:=r'.length;obtain⟨o,ho,hc,n,hd⟩:=pl.isList;exact call_list_seq p (.inl rfl) ho hc hd (fun h' c' kp e=>fin its r' hz h' c' kp e) (by simp only[xc]<;>lia)
 ·obtain⟨its,r',pl,hz⟩:=I.tuple hq;have hlen:=r'.length;obtain⟨o,ho,hc,n,hd⟩:=pl;exact call_list_seq p (.inr rfl) ho hc hd (fun h' c' kp e=>fin its r' hz h' c' kp e) (by simp only[xc]<;>lia)
theorem Il:Hv X (.type "tuple") (fun xs H Q=>∃p ys,xs=[.ref p]/\((SqL X.K H p ys/\∀l,H l=none->Q (.ref l) (upd H l (.tup ys)))\/(SqT X.K H p ys/\Q (.ref p) H))):=by
 intro pins s Z H xs us Q I r h;obtain⟨p,ys,rfl,h⟩:=h;obtain⟨u,rfl,rx⟩:=vals1 r;cases rx;rcases h with ⟨hq,q⟩ | ⟨hq,q⟩
 ·obtain⟨its,r',pl,hz⟩:=I.list hq;have hlen:=r'.length;refine call_tuple_list pl.isList (fun h' kp=>?_) (by simp only[xc]<;>lia);have I1:Inv X pins Z H { s with heap:=h' }:=I.kept (t':=s.toks) kp;have I2:Inv X pins Z (upd H h'.objs.size (.tup ys)) { s with heap:=h'.push { cls:=.type "tuple",data:=.seq its.toArray } }:=
   I1.laid (t':=s.toks) (fun b o e=>qc _ e) (qo _) (show Ep X.prog X.w _ _ _ (.tup ys) from ⟨hz,its,r',IsTup.new _ _⟩)
  exact⟨.ref h'.objs.size,_,I2,rfl,q _ (I1.hok.fresh (qo _))⟩
 ·obtain⟨its,r',pl,hz⟩:=I.tuple hq;exact call_tuple_same pl ⟨.ref p,H,I,rfl,q⟩
def tyV(K:Fr)(T:String)(x:V)(H:Hp):Prop:=match x with
 | .str _=>T="str"
 | .int _=>T="int"
 | .ref p=>(T="list"/\∃xs,SqL K H p xs)\/(T="tuple"/\∃o,K.lookup p=some o/\o.cls=.type "tuple"/\o.dict=none)\/
  (T="dict"/\((∃kvs,H p=some (.dK kvs))\/∃kvs,H p=some (.dT kvs)))\/(T="set"/\∃S n,H p=some (.set S n))
 | _=>False
theorem lw{pins:List (Addr×Obj)}{Z:St}{H:Hp}{s:Shared}{T:String}{x:V}{v:Value}(I:Inv X pins Z H s)(r:RelV x v)(ty:tyV X.K T x H):
 s.TypeIs v T/\∀a,v=.ref a->∃ob,s.heap.get? a=some ob/\ob.dict=none:=by
 cases x with
 | str z=>
  obtain⟨t,rfl⟩:=r;cases (show T="str" from ty);exact⟨typeIs_str s z t,fun _ e=>nomatch e⟩
 | int i=>
  obtain⟨t,rfl⟩:=r;cases (show T="int" from ty);exact⟨typeIs_int s i t,fun _ e=>nomatch e⟩
 | ref p=>
  cases r;rcases ty with ⟨rfl,xs,hq⟩ | ⟨rfl,o,hk,hc,hd⟩ | ⟨rfl,hk⟩ | ⟨rfl,S,n,hk⟩
  ·obtain⟨its,_,pl,_⟩:=I.list hq;refine⟨pl.isList.typeIs,fun a e=>?_⟩;cases e;obtain⟨o,n,e,c,hd,_⟩:=pl;exact⟨o,e,hd⟩
  ·refine⟨⟨o,I.kIn p o hk,hc⟩,fun a e=>?_⟩;cases e;exact⟨o,I.kIn _ o hk,hd⟩
  ·have z:∃o,s.heap.get? p=some o/\o.ExactDict:=by
    rcases hk with ⟨kvs,hk⟩ | ⟨kvs,hk⟩
    ·obtain⟨_,_,_,_,o,_,_,e,ex,_⟩:=I.hok p _ hk;exact⟨o,e,ex⟩
    ·obtain⟨_,_,_,_,o,_,_,e,ex,_⟩:=I.hok p _ hk;exact⟨o,e,ex⟩
   obtain⟨o,e,ex⟩:=z;refine⟨⟨o,e,ex.1⟩,fun a e2=>?_⟩;cases e2;exact⟨o,e,ex.2.1⟩
  ·obtain⟨o,_,_,_,e,ex,_⟩:=I.hok p _ hk;refine⟨⟨o,e,ex.1⟩,fun a e2=>?_⟩;cases e2;exact⟨o,e,ex.2.1⟩
 | _=>exact False.elim ty
def ABw(K:Fr)(T:String)(r:V->List V->Hp->VK->Prop)(to:TE):TE:=fun Z H Q=>to Z H fun x H1=>tyV K T x H1/\r x [] H1 Q
def tBM(K:Fr)(T:String)(r:V->List V->Hp->VK->Prop)(to:TE)(t:TA):TE:=fun Z H Q=>to Z H fun x H1=>tyV K T x H1/\t Z H1 fun xs H2=>r x xs H2 Q
variable{o e:Expr}{es:List Expr}{to:TE}{t:TA}{name:Str}{apos cpos:Pos}{T id:String}{r:V->List V->Hp->VK->Prop}
theorem o8(pa:PlainAttrs T)(slot:Slot T name id)(hty:typeOf (.builtin id)=pure (.type "method_descriptor"))(hm:MtR X id r)(ho:PE X o to)
 (hbase:‹attributeBase o name X.env (eval o X.env)=eval o X.env›)(hline:‹(apos.endLine==cpos.line)=true›):PE X (.Call (.Attribute o name apos) [] [] cpos) (ABw X.K T r to):=by
 intro pins s Z H Q I h;refine wpAny_Call_method0_late hbase hline (thn (ho s Z H _ I h) fun v s1 hZ=>?_);obtain⟨x,H1,I1,r1,ty,q1⟩:=hZ;obtain⟨h1,h2⟩:=lw I1 r1 ty;exact⟨T,id,pa,slot,hty,h1,h2,Calls.callWith_builtin rfl (PySem.evalArgs_none (hm pins s1 Z H1 x [] v [] Q I1 r1 .nil q1))⟩
theorem GR(pa:PlainAttrs T)(slot:Slot T name id)(hty:typeOf (.builtin id)=pure (.type "method_descriptor"))(hm:MtR X id r)(ho:PE X o to)(ha:PA X (e::es) t)
 (hbase:‹attributeBase o name X.env (eval o X.env)=eval o X.env›)
 (hfew:‹((backTo cpos (starEach (e::es) X.env)).all (fun x=>!x.1)&&(backToKw cpos (keywordEach [] X.env)).all (fun x=>x.1.isSome)
  &&decide ((e::es).length+([]:List Keyword).length+(if ([]:List Keyword).isEmpty then 0 else 1)<30))=true›)
 (hline:‹(apos.endLine==cpos.line)=true›)(hs:‹starEach (e::es) X.env=(false,eval e X.env)::starEach es X.env›)(hplain:‹(backTo cpos (starEach es X.env)).any (·.1)=false›):
 PE X (.Call (.Attribute o name apos) (e::es) [] cpos) (tBM X.K T r to t):=by
 intro pins s Z H Q I h;refine wpAny_Call_method_late hbase hfew hline rfl (thn (ho s Z H _ I h) fun v s1 hZ=>?_);obtain⟨x,H1,I1,r1,ty,q1⟩:=hZ;obtain⟨h1,h2⟩:=lw I1 r1 ty;refine⟨T,id,pa,slot,hty,h1,h2,?_⟩;have hA:=ha (pos:=cpos) pins s1 Z H1 _ I1 q1;rw[hs] at hA ⊢;refine Calls.callWith_builtin (by show(false||(backTo cpos (starEach es X.env)).any (·.1))=false;rw[hplain]<;>rfl) (Calls.evalArgs_plain ?_);exact thn hA fun us s2 ⟨vs,H2,I2,r2,q2⟩=>hm pins s2 Z H2 x vs v us Q I2 r1 r2 q2
end
def MtM(X:Cx)(id:String)(r:V->List V->Hp->VK->Prop):Prop:=
 ∀(pins:List (Addr×Obj)) (s:Shared) (Z:St) (H:Hp) (x:V) (xs:List V) (v:Value) (us:List Value) (Q:VK),Inv X pins Z H s->RelV x v->Vals xs us->r x xs H Q->
  wpAny (model X.prog X.w) X.A (call (.builtin id) (v::us)) (EP X pins Z Q) X.xe s
theorem Vals.one{x:V}{us:List Value}(h:Vals [x] us):∃u,us=[u]/\RelV x u:=by cases h with | cons r h=>cases h;exact⟨_,rfl,r⟩
theorem Vals.zero:∀{us:List Value},Vals [] us->us=[]
 | _,.nil=>rfl
theorem Vals.rep{xs:List V}{us:List Value}(h:Vals xs us):∀k:Nat,Vals (List.replicate k xs).flatten (List.replicate k us).flatten
 | 0=>.nil
 | k+1=>by
  rw[ja5,ja5,je8,je8];exact Vals.append h (Vals.rep h k)
theorem foldl_rep(its:List Value):∀(k:Nat) (acc:List Value),
 List.foldl (fun x1 x2=>x1++x2) acc.toArray (List.replicate k its.toArray)=(acc++(List.replicate k its).flatten).toArray
 | 0,acc=>by simp
 | k+1,acc=>by
  have e:acc.toArray++its.toArray=(acc++its).toArray:=by simp
  have e2:(acc++its)++(List.replicate k its).flatten=acc++(List.replicate (k+1) its).flatten:=by
   rw[ja5,je8,Zs]
  rw[<-e2,<-foldl_rep its k (acc++its),<-e,ja5,List.foldl_cons]
section
variable{X:Cx}{pins:List (Addr×Obj)}{Z:St}{H:Hp}{s:Shared}{l b:Addr}{xs ys zs:List V}
theorem Inv.lset{its its':List Value}{n:Nat}{f:Array Value->Array Value}{t':Nat}(I:Inv X pins Z H s)(hH:H l=some (.lst xs))
 (e:s.heap.get? l=some { cls:=.type "list",data:=.seq its.toArray n })(hf:f its.toArray=its'.toArray)(hv:Vals ys its')(hz:ys.length<=sizeLine):
 Inv X pins Z (upd H l (.lst ys)) { s with heap:=s.heap.update l (Obj.mapSeq f),toks:=t' }:=by
 have q:=PySem.IsL.update e f;rw[hf] at q;refine I.write (x:=l) (e:=l) (by rw[hH];exact trivial) (.inl rfl) (fun b' u hb hu=>(ja8 s.heap (Obj.mapSeq f) (Ne.symm hb)).trans hu) ⟨_,q⟩ ?_;exact⟨hz,its',_,hv,q⟩
theorem Inv.lnew{its:List Value}{t':Nat}(I:Inv X pins Z H s)(hv:Vals ys its)(hz:ys.length<=sizeLine):
 Inv X pins Z (upd H s.heap.objs.size (.lst ys)) { s with heap:=s.heap.push { cls:=.type "list",data:=.seq its.toArray },toks:=t' }:=
 I.laid (fun _ _ q=>qc _ q) (qo _) ⟨hz,its,0,hv,xa _ rfl⟩
theorem Inv.fresh(I:Inv X pins Z H s):H s.heap.objs.size=none:=I.hok.fresh (qo _)
theorem Inv.lstM(I:Inv X pins Z H s)(hH:H l=some (.lst xs)):xs.length<=sizeLine/\∃(its:List Value) (n:Nat),Vals xs its/\xs.length=its.length/\s.heap.get? l=some { cls:=.type "list",data:=.seq its.toArray n }:=by
 obtain⟨z,its,n,r,e⟩:=I.hok l _ hH;exact⟨z,its,n,r,r.length,e⟩
theorem Zc{n:Nat}(h:n<=sizeLine):Builtin.List.listTooLong n=false:=by
 unfold Builtin.List.listTooLong;exact decide_eq_false ⋯
end
section
variable{X:Cx}
def Q8:V->List V->Hp->VK->Prop:=fun x vs H Q=>∃l xs y,x=.ref l/\vs=[y]/\H l=some (.lst xs)/\xs.length<sizeLine/\Q .non (upd H l (.lst (xs++[y])))
theorem Kw:MtM X "list.append" Q8:=by
 intro pins s Z H x vs v us Q I rx rv h;obtain⟨l,xs,y,rfl,rfl,hH,hz,q⟩:=h;cases rx;obtain⟨u,rfl,ru⟩:=rv.one;obtain⟨z,its,n,r,hl,e⟩:=I.lstM hH;refine call_meets F.slot_list_append ⟨_,e,rfl⟩ F.entry_list_append (F.args_list_append_2 _ _) (PySem.list_append l its.toArray n u (by rw[xc];lia)) ⟨e,?_⟩;refine⟨.non,_,I.lset (its':=its++[u]) hH e (by simp) (r.append (.cons ru .nil)) ?_,rfl,q⟩;rw[ze,List.length_singleton];lia
def Q7:V->List V->Hp->VK->Prop:=fun x vs H Q=>∃l b xs zs,x=.ref l/\vs=[.ref b]/\H l=some (.lst xs)/\H b=some (.lst zs)/\xs.length+zs.length<=sizeLine/\Q .non (upd H l (.lst (xs++zs)))
theorem Iu:MtM X "list.extend" Q7:=by
 intro pins s Z H x vs v us Q I rx rv h;obtain⟨l,b,xs,zs,rfl,rfl,hH,hB,hz,q⟩:=h;cases rx;obtain⟨u,rfl,ru⟩:=rv.one;cases ru;obtain⟨z,its,n,r,hl,e⟩:=I.lstM hH;obtain⟨z2,its2,n2,r2,hl2,e2⟩:=I.lstM hB;have hsz:its.toArray.size+its2.toArray.size<=sizeLine:=by rw[xc,xc];lia
 have hlong:¬(!its.toArray.isEmpty&&Builtin.List.listTooLong (its.toArray.size+its2.toArray.size))=true:=by
  rw[Zc hsz,Bool.and_false];exact zi
 refine call_meets F.slot_list_extend ⟨_,e,rfl⟩ F.entry_list_extend (F.args_list_extend_2 _ _)
  (AutoSeq1.list_extend_list_list_0 l its.toArray n b its2.toArray n2 hlong (by rw[xc];lia) ⋯) ⟨e,e2,?_⟩
 refine⟨.non,_,I.lset (its':=its++its2) hH e (by simp) (r.append r2) ?_,rfl,q⟩;rw[ze];lia
def ACm:R2:=fun x y H Q=>∃l b xs zs,x=.ref l/\y=.ref b/\H l=some (.lst xs)/\H b=some (.lst zs)/\xs.length+zs.length<=sizeLine/\∀p,H p=none->Q (.ref p) (upd H p (.lst (xs++zs)))
theorem cM:OpR X (binaryOp .Add) ACm:=by
 intro pins s Z H x y v u Q I rx ry h;obtain⟨l,b,xs,zs,rfl,rfl,hH,hB,hz,q⟩:=h;cases rx;cases ry;obtain⟨z,its,n,r,hl,e⟩:=I.lstM hH;obtain⟨z2,its2,n2,r2,hl2,e2⟩:=I.lstM hB;refine PySem.P.add_list e e2 ?_ (by rw[xc,xc];lia);have ea:its.toArray++its2.toArray=(its++its2).toArray:=by simp
 rw[ea];exact⟨.ref _,_,I.lnew (t':=s.toks) (r.append r2) (by rw[ze];lia),rfl,q _ I.fresh⟩
def ACj:R2:=fun x y H Q=>∃l k xs,x=.ref l/\y=.int k/\H l=some (.lst xs)/\ -(2^63)<=k/\k<2^63/\xs.length*k.toNat<=sizeLine/\
 ∀p,H p=none->Q (.ref p) (upd H p (.lst (List.replicate k.toNat xs).flatten))
theorem len_rep{α:Type}(xs:List α)(k:Nat):(List.replicate k xs).flatten.length=k*xs.length:=by
 induction k with
 | zero=>simp
 | succ k ih=>rw[ja5,je8,ze,ih,js5,js1]
theorem cL:OpR X (binaryOp .Mult) ACj:=by
 intro pins s Z H x y v u Q I rx ry h;obtain⟨l,k,xs,rfl,rfl,hH,h1,h2,hz,q⟩:=h;cases rx;obtain⟨t,rfl⟩:=ry;obtain⟨z,its,n,r,hl,e⟩:=I.lstM hH;have hlen:its.toArray.size*k.toNat<=sizeLine:=by rw[xc,<-hl];exact hz
 have hcap:¬its.toArray.size*k.toNat>(2^63-1)/8:=by
  have:(sizeLine:Nat)<=(2^63-1)/8:=nofun;lia
 have hfit:¬(!Builtin.List.listFitsIndex k)=true:=by
  rw[fitsIndex_both h1 h2];exact zi
 have hlong:¬Builtin.List.listTooLong (its.toArray.size*k.toNat)=true:=by
  rw[Zc hlen];exact zi
 have hnew:List.foldl (fun x1 x2=>x1++x2) #[] (List.replicate (if its.toArray.isEmpty=true then 0 else k.toNat) its.toArray)=(List.replicate k.toNat its).flatten.toArray:=by
  have f0:∀m:Nat,List.foldl (fun x1 x2=>x1++x2) #[] (List.replicate m its.toArray)=(List.replicate m its).flatten.toArray:=fun m=>by
   have:=foldl_rep its m [];rw[jh4] at this;exact this
  rw[f0];cases its with
  | nil=>simp
  | cons a r'=>rw[xy (by simp)]
 refine wpAny_binaryOp_repeat_ref (T:="list") (U:="int") nofun ⟨_,e,rfl⟩ (fun s'=>typeIs_int s' k t) noFill_list_mul F.fills_int_mul F.slot_int_rmul repeat_list F.slot_int_index.lookup
  (call_meets F.slot_int_rmul (typeIs_int s k t) F.entry_int_rmul (F.args_int_rmul_2 _ _) (int___rmul___int_list k t l its.toArray n)
   ⟨e,rfl,⟨_,e,rfl⟩,call_meets F.slot_list_mul ⟨_,e,rfl⟩ F.entry_list_mul (F.args_list_mul_2 _ _) (AutoListH.list___mul___list_int_3 l its.toArray n k t hfit hcap hlong) ⟨e,?_⟩⟩)
 rw[hnew];exact⟨.ref _,_,I.lnew (t':=s.toks) (r.rep k.toNat) (by rw[len_rep,jv4];exact hz),rfl,q _ I.fresh⟩
end
section
variable{prog:Program}{w:World}{A:Around}{E:Value->Shared->Prop}{s:Shared}
end
section
variable{X:Cx}
end
end L2
namespace Att
open PySem PySem.W PySem.Calls PyProof.Rows
theorem Ql{P:Params}{h:Heap}:∀(ns:List Int) (vs:List Value),WellAll P h vs (ns.map WData.int)->IntsAre vs ns:=by
 intro ns
 induction ns with
 | nil=>
  intro vs w;rw[jl2] at w;cases w;exact .nil
 | cons n ns ih=>
  intro vs w;rw[zv] at w;cases w with
  | cons a b=>
   cases a;exact .cons _ _ (ih _ b)
theorem jE{l:OpenLaw}{n:Nat}(hn:l.most=some n){P:Params}{h:Heap}{args:List WData}{vals:List Value}
 (hpre:l.row.toRowW.claim.pre args=true)(hwl:WellAll P h vals args):
 ∃a vs ns,vals=[Value.ref a]/\args=[WData.list (ns.map WData.int)]/\h.get? a=some { cls:=.type "list",data:=.seq vs.toArray }/\IntsAre vs ns/\ns.length<=n:=by
 have hsh:WShape.hasAll [] args [.list .int]=true:=(pre_splitW hpre).1;have hc:l.pre.holds [] { args:=args }=true:=(pre_splitW hpre).2;obtain⟨d,r,rfl,h1,h2⟩:=hasAllW_cons hsh;obtain rfl:=hasAllW_nil h2;obtain⟨xs,rfl,h3⟩:=hasW_list h1;obtain⟨ns,rfl⟩:=items_int h3;have hlen:ns.length<=n:=by
  unfold OpenLaw.pre at hc;have h4:(WTm.not (.lt (.lit (.int (n:Int))) (.len (.arg 0)))).holds [] { args:=[.list (ns.map .int)] }=true:=by
   have h4:=(holds_andW hc).1;rw[hn] at h4;exact h4
  have h5:=condW_of h4 (w_not (w_lt w_lit (w_len_list (w_arg rfl))));rw[js] at h5;refine ju6 fun q=>?_;have q':(n:Int)<((ns.length:Nat):Int):=⋯
  first
   | (rw [decide_eq_true q'] at h5;exact absurd h5 nofun)
   | (simp at h5;lia)
 cases hwl with
 | cons w1 w2=>
  cases w2;cases w1 with
  | list ho hall=>exact⟨_,_,ns,rfl,rfl,ho,Ql ns _ hall,hlen⟩
theorem jU(l:OpenLaw)(args:List WData):l.row.toRowW.claim.post args (.bool true) args=true:=
 postW_of (r:=l.row.toRowW) (X:=(true==true))
  (show WShape.has [] (.bool true) .bool=true by first | rfl | decide | simp[WShape.has,WShape.arms,WShape.armsAll])
  (show (WTm.eq .res (.lit (.bool true))).value [] { args:=args,res:=some (.bool true),after:=args }=some (.bool (true==true)) from w_eq_bool (w_res rfl) w_lit) rfl
section
variable{prog:Program}{w:World}{A:Around}{E:Value->Shared->Prop}{s:Shared}{K:Frag}
end
end Att
namespace L2
open PySem PySem.Spec PyProof.Rows
theorem Va:∀{vs:List Value} {ns:List Int},IntsAre vs ns->Vals (ns.map V.int) vs
 | _,_,.nil=>.nil
 | _,_,.cons n t h=>.cons ⟨t,rfl⟩ (Va h)
def Only(H:Hp):Prop:=∀b,H b=none\/∃o xs,H b=some (.frz o (.lst xs))
theorem pQ{P:Program}{w:World}{K:Fr}{mg mb:Str->Option Value}{CX:CXT}{k:Nat}{fa a:Addr}{fd:FuncData}{x:Str}{sp:Sp}{s₁:Shared}{vs:List Value}{ns:List Int}
 (KX:K.In s₁.heap)(hns:s₁.heap.Ns mainGlobals mg)(hb:s₁.heap.Ns builtinsNs mb)(hbb:∀x:Str,x≠"__name__"->mb x=bootBuiltins x)(hlim:s₁.heap.NoLimit)(hg:s₁.gens= #[])
 (ha:s₁.heap.get? a=some { cls:=.type "list",data:=.seq vs.toArray })(hi:IntsAre vs ns)(hl:ns.length<=sizeLine)(hr:Dy k callerA)
 (F:∀base:Heap,K.In base->base.Ns mainGlobals mg->Ex P w K mg base CX k fa fd [x] sp)(hbind:∀(s:Shared) (u:Value),BindsTo s fd ⟨[u],[]⟩ [(x,u)])
 (hsp:∀H:Hp,Only H->SqL K H a (ns.map V.int)->sp [.ref a] H (fun v _=>v=.bl true) fun _ _ _=>False)
 (hCX:∀H e s',CX [] H s₁ (fun _ _ _=>False) e s'->False):
 codeAny (model P w) callerA (.call (.ref fa) ⟨[.ref a],[]⟩) (fun r s'=>r=.ok (.ret (.bool true))/\OldK s₁.heap s'.heap/\s'.os=s₁.os/\AllBare s'.gens) s₁:=by
 have rv:=Va hi;have lenV:=hi.length;have core:∀H:Hp,Only H->SqL K H a (ns.map V.int)->HOk P w H s₁.heap->(∀b,H b≠none->b=a)->(H a≠none->K.lookup a=none)->
  codeAny (model P w) callerA (.call (.ref fa) ⟨[.ref a],[]⟩) (fun r s'=>r=.ok (.ret (.bool true))/\OldK s₁.heap s'.heap/\s'.os=s₁.os/\AllBare s'.gens) s₁:=by
  intro H hO hS hok hA hK;have aa:∀{b:Addr} {o:Obj},s₁.heap.get? b=some o->H b=none->(Xz s₁.heap H).get? b=some o:=fun e n=>qH e n;have noA:∀{b:Addr} {o:Obj} {es:Array DictEntry} {ep:Nat},s₁.heap.get? b=some o->o.data=.dict es ep->H b=none:=fun{b o es ep} e d=>by
   cases q:H b with
   | none=>rfl
   | some u=>
    have e':b=a:=hA b (by rw[q];simp);subst e';rw[ha] at e;cases e;have d':Data.seq vs.toArray _=Data.dict es ep:=d;cases d'
  have nsK:∀{b:Addr} {m:Str->Option Value},s₁.heap.Ns b m->(Xz s₁.heap H).Ns b m:=fun{b m} ⟨o,es,ep,e,d,r⟩=>⟨o,es,ep,aa e (noA e d),d,r⟩;have hKb:K.In (Xz s₁.heap H):=fun b o e=>aa (KX b o e) (by
   cases q:H b with
   | none=>rfl
   | some u=>
    have e':b=a:=hA b (by rw[q];simp);subst e';rw[hK (by rw[q];simp)] at e;cases e)
  have hM:Mod K mg (Xz s₁.heap H):=⟨hKb,nsK hns,⟨mb,nsK hb,hbb⟩,let ⟨mc,h1,h2⟩:=hlim;⟨mc,nsK h1,h2⟩⟩;have e0:dh P w K mg (Xz s₁.heap H) callerA [] s₁ H:=⟨rfl,hM,fun b o e=>u6 e,js2 (j4 _ _),trivial,fun b hb=>absurd (show b∈([]:List Addr) from hb) (by simp),hok,.of_eq hg⟩;refine jo9 ((F _ hKb (nsK hns)).run callerA [] s₁ H ⟨[.ref a],[]⟩ [.ref a] [.ref a] _ _ hr e0 (hbind s₁ (.ref a)) (.cons rfl .nil) (hsp H hO hS)) fun r s' h=>?_;cases r with
  | error e=>exact(hCX H e s' h).elim
  | ok fl=>
   cases fl with
   | next=>exact False.elim h
   | brk=>exact False.elim h
   | cont=>exact False.elim h
   | ret u=>
    obtain⟨v,H',os,bare,un,hok',r',q⟩:=h;have q':v=.bl true:=q;subst q';obtain rfl:u=Value.bool true:=r';refine⟨rfl,OldK.of_keep fun b o e=>?_,os,bare⟩;cases q:H b with
    | none=>exact un.keep b o e q (by intro z;exact absurd (show b∈([]:List Addr) from z) (by simp)) (by simp)
    | some u=>
     rcases hO b with z | ⟨ob,xs,z⟩
     ·rw[q] at z;cases z
     ·have z2:=un.frzs b ob _ z;obtain⟨e1,_⟩:=hok b _ z;obtain⟨e2,_⟩:=hok' b _ z2;rw[e] at e1;cases e1;exact e2
 cases hk:K.lookup a with
 | some o=>
  have e:=KX a o hk;rw[ha] at e;cases e;refine core (fun _=>none) (fun _=>.inl rfl) (.inr ⟨_,vs.toArray,_,hk,rfl,rfl,rfl,by rw[xc,lenV];exact hl,by simpa using rv⟩) (fun b u z=>by have z':(none:Option HO)=some u:=z;cases z') (fun b z=>absurd rfl z) fun z=>absurd rfl z
 | none=>
  refine core (fun b=>if b=a then some (.frz { cls:=.type "list",data:=.seq vs.toArray } (.lst (ns.map V.int))) else none) (fun b=>?_) (.inl (.inr ⟨{ cls:=.type "list",data:=.seq vs.toArray },xp rfl⟩)) (fun b u z=>?_) (fun b z=>?_) fun _=>hk
  ·by_cases hb:b=a
   ·exact .inr ⟨_,_,xp hb⟩
   ·exact .inl (xy hb)
  ·by_cases hb:b=a
   ·have z':=(xp hb).symm.trans z;cases z';subst hb;exact⟨ha,by rw[js];exact hl,vs,_,rv,ha⟩
   ·have z':=(xy hb).symm.trans z;cases z'
  ·by_cases hb:b=a
   ·exact hb
   ·exact absurd (xy hb) z
noncomputable def inClass(s:Stmt)(j:Nat):Stmt:=match s with
 | .ClassDef _ _ _ body _ _ _ _ _ _ _=>body.getD j (.Pass ⟨0,0,0,0⟩)
 | _=>.Pass ⟨0,0,0,0⟩
noncomputable def FQ(s:Stmt):Arguments:=match s with
 | .FunctionDef _ a _ _ _ _ _ _ _ _=>a
 | _=>{ posonlyargs:=[],args:=[],vararg:=none,kwonlyargs:=[],kw_defaults:=[],kwarg:=none,defaults:=[] }
noncomputable def Dm(s:Stmt):List Stmt:=match s with
 | .FunctionDef _ _ b _ _ _ _ _ _ _=>b
 | _=>[]
noncomputable def BX(s:Stmt):Scope:=match s with
 | .FunctionDef _ _ _ _ _ _ sc _ _ _=>sc
 | _=>{ kind:=.function,names:=[],isGenerator:=false,isCoroutine:=false }
abbrev CX0:CXT:=fun _ _ _ _ _ _=>False
abbrev E0:XK:=fun _ _ _=>False
theorem Mr{X:Cx}:Kp CX0 X E0:=fun _ _ _ _ _ _ _ h=>h.elim
structure Fun(K:Fr)(x qual:Str)(st:Stmt)(f:Addr)(fd:FuncData):Prop where
 ex:∃(oc:Value) (od:Option Addr) (kV doc pm:Value) (an:Option Addr) (cdv ct:Value) (osl:Array (Option Value)),
  fd=PySem.W.fnOf x qual (FQ st) (Dm st) (BX st) .none kV doc pm an cdv ct/\K.lookup f=some ⟨oc,od,.func fd,osl⟩/\PySem.W.codeIn K cdv qual=true
 kp:PySem.W.keepIn K (.ref f)=true
section
variable{P:Program}{w:World}{K:Fr}{mg:Str->Option Value}{base:Heap}
theorem Fun.ok{x qual:Str}{st:Stmt}{f:Addr}{fd:FuncData}{N ps:List Str}{k:Nat}{sp:Sp}(F:Fun K x qual st f fd)(S:DG N ps (BX st))(len:∀{vs H Q E},sp vs H Q E->vs.length=ps.length)
 (hbody:∀{cdv:Value} {A:Around} {outer:List Env} {s:Shared} (nd:N.Nodup) (H:Hp) (vs:List V) (Q:VK) (E:XK),Dy k (A.deeper (envOfC qual (BX st) s.heap.objs.size f cdv))->sp vs H Q E->
  ∃t,PSs (VG CX0 P w K mg base N qual (BX st) f cdv A outer s H E).nox (Dm st) t/\t { nx:=fun _ H'=>Q .non H',rt:=Q } (start N vs) H):Ex P w K mg base CX0 (k+1) f fd ps sp:=by
 obtain⟨oc,od,kV,doc,pm,an,cdv,ct,osl,rfl,lk,hcd⟩:=F.ex;refine yI lk hcd S (fun _ _ _ _=>len) fun A outer s H vs Q E hr hsp=>?_;obtain⟨t,h,q⟩:=hbody S.nd H vs Q E hr hsp;exact⟨t,h.nox,q⟩
theorem Fun.binds{x qual:Str}{st:Stmt}{f:Addr}{fd:FuncData}{ps:List Str}(F:Fun K x qual st f fd)
 (h:∀(kV doc pm:Value) (an:Option Addr) (cdv ct:Value) (us:List Value),us.length=ps.length->bindArgs (PySem.W.fnOf x qual (FQ st) (Dm st) (BX st) .none kV doc pm an cdv ct) ⟨us,[]⟩=pure (ps.zip us)):Binds K fd ps []:=by
 obtain⟨oc,od,kV,doc,pm,an,cdv,ct,osl,rfl,lk,hcd⟩:=F.ex;exact .all (h kV doc pm an cdv ct)
theorem qL{x qual:Str}{st:Stmt}{f:Addr}{oc:Value}{od an:Option Addr}{osl:Array (Option Value)}{kV doc pm cdv ct:Value}(l:K.lookup f=some ⟨oc,od,.func (PySem.W.fnOf x qual (FQ st) (Dm st) (BX st) .none kV doc pm an cdv ct),osl⟩)
 (c:PySem.W.codeIn K cdv qual=true)(k:PySem.W.keepIn K (.ref f)=true):Fun K x qual st f (PySem.W.fnOf x qual (FQ st) (Dm st) (BX st) .none kV doc pm an cdv ct):=⟨⟨oc,od,kV,doc,pm,an,cdv,ct,osl,rfl,l,c⟩,k⟩
end
theorem gP{A:Around}{k:Nat}(hr:Dy k A):A.units+1<cLine:=uj (jk8 (by decide:1<=64) _) hr.units
theorem Dz{n:Nat}(h:n<=1000):n<sizeLine:=uj h nofun
section
variable{X:Cx}
theorem pv(i:Nat){x:Str}{pos:Pos}(hN:‹X.N[i]?=some x›)(hv:Vis X.env.scope x:=by first | exact Or.inl rfl | exact Or.inr (Or.inl rfl) | exact Or.inr (Or.inr rfl))(hd:(x==("__debug__":Str))=false:=by decide)
 (hcd:(x==("__classdict__":Str))=false:=by decide):PE X (.Name x pos) (Ie i):=oZ hN hv hd hcd
end
theorem Fz{A B:Prop}(h:B):if false=true then A else B:=by
 rw[xy zi];exact h
theorem Gw{A B:Prop}(h:A):if true=true then A else B:=by
 rw[xp rfl];exact h
theorem HJ{c A B:Prop}[Decidable c](hc:c)(h:B):if (!decide c)=true then A else B:=by
 rw[decide_eq_true hc];exact Fz h
def BR(H H':Hp):Prop:=∀b o,H b=some o->H' b=some o
theorem BR.refl(H:Hp):BR H H:=fun _ _ h=>h
theorem BR.trans{H H1 H2:Hp}(a:BR H H1)(b:BR H1 H2):BR H H2:=fun c o h=>b c o (a c o h)
theorem BR.free{H H':Hp}(e:BR H H'){l:Addr}(h:H' l=Option.none):H l=Option.none:=by
 cases q:H l with
 | none=>rfl
 | some o=>
  rw[e l o q] at h;cases h
theorem BR.seq{K:Fr}{H H':Hp}{a:Addr}{xs:List V}(e:BR H H')(h:SqL K H a xs):SqL K H' a xs:=by
 rcases h with (h | ⟨o,h⟩) | h
 ·exact .inl (.inl (e _ _ h))
 ·exact .inl (.inr ⟨o,e _ _ h⟩)
 ·exact .inr h
end L2
set_option maxHeartbeats 4000000
namespace L2
open PySem PySem.Spec PyProof.Rows
def Bt(k:Nat)(x:Int):Prop:=x.natAbs<2^k
theorem Bt.bits{k:Nat}{x:Int}(h:Bt k x):Builtin.Int.intBits x<=k:=PySem.intBits_le_iff.mpr h
theorem Bt.mono{k m:Nat}{x:Int}(h:Bt k x)(l:k<=m):Bt m x:=xk h (vj nofun l)
theorem Bt.le{k:Nat}{x y:Int}(h:Bt k y)(l:x.natAbs<=y.natAbs):Bt k x:=uj l h
theorem Bt.mul{k m:Nat}{x y:Int}(h:Bt k x)(g:Bt m y):Bt (k+m) (x*y):=by
 unfold Bt at*
 rw[jn8,jq6];exact Nat.mul_lt_mul'' h g
theorem Bt.add{k:Nat}{x y:Int}(h:Bt k x)(g:Bt k y):Bt (k+1) (x+y):=by
 unfold Bt at*
 have:=Int.natAbs_add_le x y;rw[Nat.pow_succ];lia
def iT(i j:Int):Prop:=∃n m:Nat,Bt n i/\Bt m j/\n+m<=134217728
theorem iT.ok{i j:Int}(h:iT i j):IntMulOk i j:=by
 obtain⟨n,m,h1,h2,h3⟩:=h;have a:=h1.bits;have b:=h2.bits;have hs:((Builtin.Int.intBits i+Builtin.Int.intBits j:Nat):Int)<=2^27:=by
  have e:(2:Int)^27=134217728:=nofun;rw[e];lia
 have hb:Builtin.Int.intTooBig ((Builtin.Int.intBits i+Builtin.Int.intBits j:Nat):Int)=false:=decide_eq_false (Int.not_lt.mpr hs);unfold IntMulOk
 first
  | (rw [show (((Builtin.Int.intBits i:Nat):Int)+((Builtin.Int.intBits j:Nat):Int))=((Builtin.Int.intBits i+Builtin.Int.intBits j:Nat):Int) by lia,hb];simp)
  | (rw [hb];simp)
  | (intro z;simp only[yy] at z;simp_all)
variable{H:Hp}{Q:VK}
section
variable{X:Cx}{a b c:Expr}{ta tb tc:TE}{pos:Pos}
theorem Cg:OpR X (binaryOp .Mult) (rI iT fun i j=>.int (i*j)):=opI fun _ _ _ _ _ _ _ hc q=>mul_int q hc.ok
theorem Pb{j:Int}(h:Bt 9000 j):j.natAbs.log2<9000:=by
 by_cases h0:j.natAbs=0
 ·rw[h0];ac_rfl
 ·exact(Nat.log2_lt h0).mpr h
def rm(_ j:Int):Prop:=0<j/\Bt 9000 j
def ADf(_ j:Int):Prop:=j≠0/\Bt 9000 j
theorem Bf:OpR X (binaryOp .FloorDiv) (rI rm fun i j=>.int (i/j)):=opI fun i j _ _ _ _ _ hc q=>by
 have h1:(0:Int)<j:=hc.1;exact floordiv_int ⋯ (by rw[jr5 i ⋯];exact q) (.inl (PyProof.noPylong_of_log2 (Pb hc.2)))
theorem pG:OpR X (binaryOp .FloorDiv) (rI ADf fun i j=>.int (i.fdiv j)):=opI fun i j _ _ _ _ _ hc q=>
 floordiv_int hc.1 q (.inl (PyProof.noPylong_of_log2 (Pb hc.2)))
def AEn(i j:Int):Prop:=0<=j/\∃n:Nat,Bt n i/\(n:Int)+j<=134217728
theorem Mt:OpR X (binaryOp .LShift) (rI AEn fun i j=>.int (i*2^j.toNat)):=opI fun i j _ _ _ _ _ hc q=>by
 obtain⟨h0,n,hn,h1⟩:=hc;have:=hn.bits;refine lshift_int h0 ?_ q;have e:(2:Int)^27=134217728:=nofun;rw[e];lia
def AAG(K:Fr):List V->Hp->VK->Prop:=fun xs H Q=>∃x c t b,xs=[x,.ty c]/\Nk K H x t/\PySem.W.kitOne K t (.type c)=some b/\Q (.bl b) H
theorem Tn:Hv X (.builtin "isinstance") (AAG X.K):=by
 intro pins s Z H xs us Q I r h;obtain⟨x,c,t,b,rfl,ty,e,q⟩:=h;obtain⟨u,w',rfl,r1,r2⟩:=vals2 r;cases (show w'=Value.type c from r2);exact jx I r1 ty e fun tk=>⟨.bl b,H,I.tok tk,rfl,q⟩
noncomputable def Zt:List V->List V->Bool
 | [],[]=>true
 | x::xs,y::ys=>eqV x y&&Zt xs ys
 | _,_=>false
theorem Th:∀{xs ys:List V} {us ws:List Value},Vals xs us->Vals ys ws->xs.all Js=true->ys.all Js=true->
 ∃e:Nat->Bool,(∀(A:Around) (s:Shared) (j:Nat) (h1:j<us.toArray.size) (h2:j<ws.toArray.size),SeqAt.EqAt A s us.toArray[j] ws.toArray[j] (e j))/\
  ((List.range (min us.toArray.size ws.toArray.size)).all e&&us.toArray.size==ws.toArray.size)=Zt xs ys
 | [],[],_,_,.nil,.nil,_,_=>⟨fun _=>true,fun _ _ j h1 _=>absurd h1 (by simp),rfl⟩
 | [],y::ys,_,_,.nil,.cons _ _,_,_=>⟨fun _=>true,fun _ _ j h1 _=>absurd h1 (by simp),by simp[Zt]⟩
 | x::xs,[],_,_,.cons _ _,.nil,_,_=>⟨fun _=>true,fun _ _ j _ h2=>absurd h2 (by simp),by simp[Zt]⟩
 | x::xs,y::ys,u::us,w::ws,.cons r t,.cons r' t',f,f'=>by
  rw[jm0,yy] at f f';obtain⟨e,h1,h2⟩:=Th t t' f.2 f'.2;refine⟨fun j=>match j with | 0=>eqV x y | j+1=>e j,?_,?_⟩
  ·intro A s j k1 k2;cases j with
   | zero=>simpa using qR r r' f.1 f'.1
   | succ j=>
    have k:=h1 A s j (by simpa using k1) (by simpa using k2);simp only[List.getElem_toArray,List.getElem_cons_succ] at k ⊢;exact k
  ·show _=(eqV x y&&Zt xs ys);rw[<-h2];have e1:min (u::us).toArray.size (w::ws).toArray.size=min us.toArray.size ws.toArray.size+1:=by simp
   rw[e1,List.range_succ_eq_map,jm0,jr8,Bool.and_assoc]
   congr 2
   simp
def AEH(K:Fr):R2:=fun x y H Q=>∃a b xs ys,x=.ref a/\y=.ref b/\SqT K H a xs/\SqT K H b ys/\xs.all Js=true/\ys.all Js=true/\Q (.bl (Zt xs ys)) H
theorem AAX(hu:X.A.units<cLine):OpR X (compareOp .Eq) (AEH X.K):=by
 intro pins s Z H x y v u Q I rx ry h;obtain⟨a,b,xs,ys,rfl,rfl,ha,hb,fx,fy,q⟩:=h;cases rx;cases ry;obtain⟨its,r,pl,_⟩:=I.tuple ha;obtain⟨its',r',pl',_⟩:=I.tuple hb;obtain⟨e,h1,h2⟩:=Th r r' fx fy;exact SeqAt.eq_tupleAt (e:=e) pl pl' hu (fun j k1 k2=>h1 _ _ j k1 k2) (by rw[h2];exact⟨.bl _,H,I,rfl,q⟩)
structure Cal(P:Program)(w:World)(K:Fr)(mg:Str->Option Value)(base:Heap)(k:Nat)(x:Str)(ps:List Str)(sp:Sp):Prop where
 ex:∃(f:Addr) (fd:FuncData),Ex P w K mg base CX0 k f fd ps sp/\Binds K fd ps []/\PySem.W.keepIn K (.ref f)=true/\mg x=some (.ref f)
theorem Ag{k:Nat}{x:Str}{ps:List Str}{sp:Sp}{e:Expr}{es:List Expr}{t:TA}{p:Pos}(C:Cal X.prog X.w X.K X.mg X.base k x ps sp)(ha:PA X (e::es) t)(hr:Dy k X.A:=by walk_at"hr")(hg:Gl X x:=by exact rfl)
 (hdb:(x==("__debug__":Str))=false:=by decide)(he:‹starEach (e::es) X.env=(false,eval e X.env)::starEach es X.env›)(hpl:‹(backTo pos (starEach es X.env)).any (·.1)=false›):
 PE X (.Call (.Name x p) (e::es) [] pos) (Vd sp [] E0 t):=by
 obtain⟨f,fd,F,b,kp,m⟩:=C.ex;exact ur F hr hg m kp b .nil Mr ha hdb he hpl
def ABv(t:TS):TS:=fun D Z H=>∃J:St->Hp->Prop,t { D with nx:=J } Z H/\∀Z' H',J Z' H'->D.nx Z' H'
theorem Ff{st:Stmt}{t:TS}(h:PS X st t):PS X st (ABv t):=by
 intro pins s Z H D I hw;obtain⟨J,h1,h2⟩:=hw;refine thn (h s Z H { D with nx:=J } I h1) fun f s1 q=>?_;cases f with
 | next=>
  obtain⟨Z',H',I',q⟩:=q;exact⟨Z',H',I',h2 _ _ q⟩
 | ret v=>exact q
 | brk=>exact q
 | cont=>exact q
theorem FN{t:TS}{D:Ends}{Z:St}(J:St->Hp->Prop)(h1:t { D with nx:=J } Z H)(h2:∀Z' H',J Z' H'->D.nx Z' H'):ABv t D Z H:=⟨J,h1,h2⟩
theorem ACg{g:Int->Int->V}{i j:Int}(h:Q (g i j) H):rI0 g (.int i) (.int j) H Q:=⟨i,j,rfl,rfl,h⟩
theorem Dq{C:Int->Int->Prop}{g:Int->Int->V}{i j:Int}(c:C i j)(h:Q (g i j) H):rI C g (.int i) (.int j) H Q:=⟨i,j,rfl,rfl,c,h⟩
theorem ADw{g:Int->V}{i:Int}(h:Q (g i) H):rU g (.int i) H Q:=⟨i,rfl,h⟩
theorem ACh{x y:V}(s:uP x y=true)(h:Q (.bl (decide (x=y))) H):rEq x y H Q:=⟨s,h⟩
theorem ACe{x y:V}(s:uP x y=true)(h:Q (.bl (!decide (x=y))) H):rNe x y H Q:=⟨s,h⟩
theorem fP{k:Bool}{Q:Bool->Prop}(h:Q k):∃k',V.bl k=.bl k'/\Q k':=⟨k,rfl,h⟩
theorem bh(n:String):RelV (.ty n) (.type n):=rfl
theorem Cz(i:Int)(t:Tok):RelV (.int i) (.int i t):=⟨t,rfl⟩
theorem GP{Z:St}{Q:List V->Hp->Prop}(h:Q [] H):MF Z H Q:=h
theorem JK{K:Fr}{n:Nat}{t:TGs}{a:Addr}{xs:List V}{Z:St}{Q:St->Hp->Prop}(hs:SqT K H a xs)(hl:xs.length=n)(h:t xs Z H Q):qK K n t (.ref a) Z H Q:=⟨a,xs,rfl,hs,hl,h⟩
theorem oJ{t:TG}{u:TGs}{v:V}{r:List V}{Z:St}{Q:St->Hp->Prop}(h:t v Z H fun Z' H'=>u r Z' H' Q):Vz t u (v::r) Z H Q:=⟨v,r,rfl,h⟩
theorem uc{Z:St}{Q:St->Hp->Prop}(h:Q Z H):vf [] Z H Q:=⟨rfl,h⟩
theorem Ay{K:Fr}{p:Addr}{xs:List V}{i:Int}{v:V}(hs:SqT K H p xs)(e:atI xs i=some v)(h:Q v H):uh K (.ref p) (.int i) H Q:=⟨p,xs,i,v,rfl,rfl,hs,e,h⟩
theorem By{K:Fr}{p:Addr}{xs:List V}{i:Int}{v:V}(hs:SqL K H p xs)(e:atI xs i=some v)(h:Q v H):um K (.ref p) (.int i) H Q:=⟨p,xs,i,v,rfl,rfl,hs,e,h⟩
theorem Ry{K:Fr}{x:V}{c:String}{t:Value}{b:Bool}(ty:Nk K H x t)(e:PySem.W.kitOne K t (.type c)=some b)(h:Q (.bl b) H):AAG K [x,.ty c] H Q:=⟨x,c,t,b,rfl,ty,e,h⟩
theorem Hn{c A B:Prop}[Decidable c](hc:c)(h:A):if decide c=true then A else B:=by
 rw[decide_eq_true hc];exact Gw h
theorem CW{c A B:Prop}[Decidable c](hc:¬c)(h:B):if decide c=true then A else B:=by
 rw[decide_eq_false hc];exact Fz h
theorem qC{c A B:Prop}[Decidable c](hc:¬c)(h:A):if (!decide c)=true then A else B:=by
 rw[decide_eq_false hc];exact Gw h
theorem Ca{c A B:Prop}[Decidable c](h1:c->A)(h2:¬c->B):if decide c=true then A else B:=by
 by_cases h:c
 ·exact Hn h (h1 h)
 ·exact CW h (h2 h)
theorem BR.tup{K:Fr}{H':Hp}{a:Addr}{xs:List V}(e:BR H H')(h:SqT K H a xs):SqT K H' a xs:=by
 rcases h with (h | ⟨o,h⟩) | h
 ·exact .inl (.inl (e _ _ h))
 ·exact .inl (.inr ⟨o,e _ _ h⟩)
 ·exact .inr h
theorem Av{p:Addr}(h:H p=none)(o:HO):BR H (upd H p o):=fun b u q=>by rw[BP (Bx q h)];exact q
theorem Dv{i j:Int}(h0:0<j)(h1:j<18446744073709551616):rm i j:=⟨h0,Bt.mono (k:=64) (by unfold Bt;lia) nofun⟩
theorem oW(k:Nat):(0:Int)<1*2^k:=by
 have e:(1:Int)*2^k=((2^k:Nat):Int):=by rw[jh3];simp
 rw[e];have:=kz k;lia
theorem DP(x y:Nat):Builtin.bitAnd (x:Int) (y:Int)=((x &&& y:Nat):Int):=PyProof.Rows.bitAnd_pp (jl9 x) (jl9 y)
theorem Uh(x:Nat):decide ((0:Int)<=Builtin.bitNot (x:Int))=false:=decide_eq_false (by unfold Builtin.bitNot;lia)
theorem G6(x y:Nat):Builtin.bitOr (x:Int) (y:Int)=((x ||| y:Nat):Int):=by
 have e:∀z:Int,Builtin.bitNot (Builtin.bitNot z)=z:=fun z=>by unfold Builtin.bitNot;lia
 unfold Builtin.bitOr Builtin.bitAnd;rw[Uh,Uh];dsimp only;rw[e,e,e,zw,zw]
theorem Lx(x y:Nat):Builtin.bitXor (x:Int) (y:Int)=((x ^^^ y:Nat):Int):=by
 show Builtin.bitOr (x:Int) (y:Int)-Builtin.bitAnd (x:Int) (y:Int)=_;rw[G6,DP];have h:x ||| y=(x ^^^ y)+(x &&& y):=by
  have a:(x ^^^ y) &&& (x &&& y)=0:=by
   refine vi fun i=>?_;rw[jb0,jm7,jb0,jf5];cases x.testBit i<;>cases y.testBit i<;>rfl
  have b:x ||| y=(x ^^^ y) ||| (x &&& y):=by
   refine vi fun i=>?_;rw[jd4,jd4,jm7,jb0];cases x.testBit i<;>cases y.testBit i<;>rfl
  have c:=PyProof.Rows.bitOr_and ((x ^^^ y:Nat):Int) ((x &&& y:Nat):Int);rw[G6,DP,a,<-b] at c;lia
 lia
end
end L2
namespace Att
open PySem PySem.W PySem.Calls PyProof.Rows
theorem O9:∀{ns:List Int} {n:Int},n∈ns->Builtin.Int.intBits n<=WData.weightAll (ns.map WData.int)
 | m::ns,n,h=>by
  rw[zv];show _<=WData.weight (.int m)+1+WData.weightAll (ns.map WData.int);rcases zh.mp h with rfl | h
  ·have e:WData.weight (.int n)=Builtin.Int.intBits n:=by first | rfl | (unfold Builtin.Int.intBits;rfl) | simp[WData.weight,Builtin.Int.intBits]
   lia
  ·have:=O9 h;lia
theorem aR{ns:List Int}(h:WData.layableAll [WData.list (ns.map WData.int)]=true):∀n∈ns,L2.Bt 1048576 n:=fun n hn=>by
 have h1:WData.layable (WData.list (ns.map WData.int))=true:=(Bool.and_eq_true_iff.mp h).1;have h2:WData.weight (WData.list (ns.map WData.int))<=2^20:=jn6 (Bool.and_eq_true_iff.mp h1).2;have h3:=O9 hn;have e:WData.weight (WData.list (ns.map WData.int))=WData.weightAll (ns.map WData.int):=by first | rfl | simp[WData.weight]
 refine PySem.intBits_le_iff.mp ?_;lia
theorem attach_callB{l:OpenLaw}{n:Nat}{q:Program}{loose:List Str}{XP:(Str->Option Value)->Heap->Prop}{YP:World->Heap->Prop}{d:DefRec}
 (hn:l.most=some n)(hdf:d.params.defaults=[])
 (call:∀(w:World) (s₀ s₁:Shared) (mg mb:Str->Option Value) (fa:Addr) (o:Obj) (pm cd doc:Value) (a:Addr) (vs:List Value) (ns:List Int),
  Ground q loose [] XP w s₀ mg mb s₁.heap->YP w s₁.heap->
  s₁.heap.get? fa=some o->o.data=.func (docDef d.name d.params d.body d.scope pm cd doc)->s₁.heap.CodeRec cd d.name->mg d.name=some (.ref fa)->
  s₁.heap.get? a=some { cls:=.type "list",data:=.seq vs.toArray }->IntsAre vs ns->ns.length<=n->(∀n∈ns,L2.Bt 1048576 n)->s₁.gens= #[]->
  codeAny (model l.prog w) callerA (.call (.ref fa) ⟨[.ref a],[]⟩) (fun r s'=>r=.ok (.ret (.bool true))/\OldK s₁.heap s'.heap/\s'.os=s₁.os/\AllBare s'.gens) s₁):
 WalkO q loose XP YP l.row.toRowW d [] (fun f vs=>PySem.call f vs):=by
 intro w s₀ s₁ mg mb G Y fa o pm cd doc dV kV ho hd hcd hD hmg hg args vals as hpre hlay hrd hwl hlo;obtain rfl:dV=.none:=Dflts.none hD hdf;obtain rfl:kV=.none:=Dflts.noKw hD;obtain⟨a,vs,ns,rfl,rfl,hobj,hints,hlen⟩:=jE hn hpre hwl;refine enter_call (jo9 (call w s₀ s₁ mg mb fa o pm cd doc a vs ns G Y ho (fd_plain hd) hcd hmg hobj hints hlen (aR hlay) hg) fun r s' hq=>?_);obtain⟨rfl,h2,h3,h4⟩:=hq;exact⟨.inl ⟨.bool true,.bool true,[],rfl,fun _=>rfl,.bool true,jU l _,fun _=>⟨List.Pairwise.nil,fun _ hm=>(nomatch hm)⟩⟩,h2,h3,h4⟩
end Att
namespace L2
open PySem PySem.Spec PyProof.Rows
def eZ(K:Fr):Sp:=fun vs H Q _=>∃(a:Addr) (ns:List Int),vs=[.ref a]/\SqL K H a (ns.map V.int)/\ns.length<=63/\(∀n∈ns,Bt 1048576 n)/\∀H',Q (.bl true) H'
theorem lY{l:PySem.W.OpenLaw}{k:Nat}{q:Program}{loose:List Str}{XP:(Str->Option Value)->Heap->Prop}{YP:World->Heap->Prop}{d:DefRec}{K:Params->Fr}
 (hn:l.most=some 63)(hdf:d.params.defaults=[])(hr:Dy k callerA)
 (hY:∀(w:World) (h:Heap),YP w h->(K w.params).In h)
 (F:∀(w:World) (mg:Str->Option Value) (fa:Addr) (h:Heap),(K w.params).In h->h.Ns mainGlobals mg->mg d.name=some (.ref fa)->
  ∃fd:FuncData,(∀(s:Shared) (u:Value),BindsTo s fd ⟨[u],[]⟩ [("_law_script",u)])/\
   ∀base:Heap,(K w.params).In base->base.Ns mainGlobals mg->Ex l.prog w (K w.params) mg base CX0 k fa fd ["_law_script"] (eZ (K w.params))):
 PySem.W.WalkO q loose XP YP l.row.toRowW d [] (fun f vs=>PySem.call f vs):=by
 refine Att.attach_callB hn hdf fun w s₀ s₁ mg mb fa o pm cd doc a vs ns G Y ho hd hcd hmg hobj hints hlen hbits hg=>?_;have KX:=hY w _ Y;obtain⟨fd,hb,hF⟩:=F w mg fa _ KX G.T.g hmg;exact pQ KX G.T.g G.T.b G.T.builtins G.T.nolimit hg hobj hints (zo hlen nofun) hr hF hb (fun H hO hS=>⟨a,ns,rfl,hS,hlen,hbits,fun _=>rfl⟩) fun H e s'=>fun z=>z
noncomputable def JX(X:Cx)(M:List Str)(x:Str)(scope:Scope)(cl:List (Str×Addr))(C:Addr)(s₀:Shared)(H₀:Hp)(fp:List Addr):Cx:=
 { X with N:=x::M,s₀:=s₀,H₀:=H₀,env:=compEnvC scope cl C X.env,outer:=X.stack,ex:=fp,fn:=fun _=>false,pn:=[],xe:=fun _ _=>False }
noncomputable def De(X:Cx)(M:List Str)(xs:List Str)(scope:Scope)(cl:List (Str×Addr))(C:Addr)(s₀:Shared)(H₀:Hp)(fp:List Addr):Cx:=
 { X with N:=xs++M,s₀:=s₀,H₀:=H₀,env:=compEnvC scope cl C X.env,outer:=X.stack,ex:=fp,fn:=fun _=>false,pn:=[],xe:=fun _ _=>False }
structure Np(X:Cx)(M:List Str)(xs:List Str)(scope:Scope)(cl:List (Str×Addr)):Prop where
 clos:closureFor scope X.env=pure cl
 cell:∀y∈scope.names,y.2≠.cell
 kind:scope.kind=.function
 names:∀y∈scope.names,y.2=.local->scope.names.lookup y.1=some .local
 xl:∀x∈xs,scope.names.lookup x=some .local
 nd:(xs++M).Nodup
 len:M.length=X.N.length
 sub:∀y c,cl.lookup y=some c->X.env.cells.lookup y=some c
 has:∀y,((relabel scope X.env).names.lookup y=some .cell\/(relabel scope X.env).names.lookup y=some .free)->∃c,cl.lookup y=some c
 vis:∀(i:Nat) (y:Str),M[i]?=some y->Vis (relabel scope X.env) y->X.N[i]?=some y/\((relabel scope X.env).names.lookup y=some .cell\/(relabel scope X.env).names.lookup y=some .free)/\(X.env.scope.names.lookup y=some .cell\/X.env.scope.names.lookup y=some .free)
abbrev Ul(X:Cx)(M:List Str)(x:Str)(scope:Scope)(cl:List (Str×Addr)):Prop:=Np X M [x] scope cl
def dX(X:Cx)(ifs:List Expr)(t:TT):Prop:=
 ∀(pins:List (Addr×Obj)) (s:Shared) (Z:St) (H:Hp) (Q:Bool->Hp->Prop),Inv X pins Z H s->t Z H Q->
  wpAny (model X.prog X.w) X.A (forIn ifs true fun c r=>if r=true then do let ok <-isTrue c X.env (eval c X.env);pure (ForInStep.yield ok) else pure (ForInStep.yield r)) (TP X pins Z Q) X.xe s
def eE:TT:=fun _ H Q=>Q true H
variable{K:Fr}{Z:St}{H:Hp}{xs:List V}{scope:Scope}{elt iter:Expr}{pos:Pos}{tt:TT}{te:TE}{x:Str}{wi:TI}{Q:VK}{ta:TA}
section
variable{X:Cx}
theorem Ec:dX X [] eE:=fun pins s Z H Q I h=>by
 rw[js9];exact xz ⟨H,I,h⟩
theorem SJ{c:Expr}{t:TT}(hc:PT X c t):dX X [c] t:=fun pins s Z H Q I h=>by
 rw[jm2];refine jv ?_;rw[xp rfl];refine jv (thn (hc s Z H Q I h) fun b s1 q=>xz ?_);dsimp only;rw[js9];exact xz q
def Yl(wi:TI)(tt:TT)(te:TE):TE:=fun Z H Q=>wi Z H fun J H1=>∀D,H1 D=none->∃W:Nat->Nat->List V->Hp->Prop,(∃m,W 0 m [] (upd H1 D (.lst [])))/\
 ∀i m ys H2,W i m ys H2->H2 D=some (.lst ys)/\((J.stop i H2/\Q (.ref D) H2)\/(J.go i H2/\ys.length<sizeLine/\∃m',m'<m/\∀x H3,J.yld i H2 x H3->
  tt (some x::Z) H3 fun b H4=>if b=true then te (some x::Z) H4 fun y H5=>H5 D=some (.lst ys)/\W (i+1) m' (ys++[y]) (upd H5 D (.lst (ys++[y]))) else W (i+1) m' ys H4))
def iR(tt:TT)(te:TE)(Z:St)(Q:VK):It->Hp->Prop:=fun J H1=>∀D,H1 D=none->∃W:Nat->Nat->List V->Hp->Prop,(∃m,W 0 m [] (upd H1 D (.lst [])))/\
 ∀i m ys H2,W i m ys H2->H2 D=some (.lst ys)/\((J.stop i H2/\Q (.ref D) H2)\/(J.go i H2/\ys.length<sizeLine/\∃m',m'<m/\∀x H3,J.yld i H2 x H3->
  tt (some x::Z) H3 fun b H4=>if b=true then te (some x::Z) H4 fun y H5=>H5 D=some (.lst ys)/\W (i+1) m' (ys++[y]) (upd H5 D (.lst (ys++[y]))) else W (i+1) m' ys H4))
theorem qi{M:List Str}{pins:List (Addr×Obj)}{s:Shared}{xs:List Str}{cl:List (Str×Addr)}{C:Addr}{fp:List Addr}(I:Inv X pins Z H s)(ok:Np X M xs scope cl)(hC:s.heap.objs.size<=C)
 (hf:∀b∈fp,Kr X pins H b)(hb:∀b∈fp,b<s.heap.objs.size):(De X M xs scope cl C s H fp).Ok where
 mod:=I.ok.mod
 kind:=ok.kind
 glob:=I.ok.glob
 blt:=I.ok.blt
 above:=hC
 inj:=fun y z c h1 h2=>I.ok.inj y z c (ok.sub y c h1) (ok.sub z c h2)
 has:=ok.has
 cab:=fun y c h=>by cases h
 hd:=I.ok.hd
 frames:=I.ok.frames
 stk:=.inl rfl
 exf:=fun b h=>⟨kg (xk (hb b h) hC),fun y c e=>(hf b h).2.2.2.2.1 y c (ok.sub y c e)⟩
 bs:=I.bs
 bsz:=zo I.ok.bsz I.sz
 noex:=fun b o e h=>by
  rcases(hf b h).2.2.2.1 with z | z
  ·exact I.ok.noex b o e z
  ·exact absurd (xk (xh (I.ok.bs b o e).1) z) (jg0 _)
 exfs:=fun b h z=>by
  rcases zh.mp (I.stkSub b z) with e | e
  ·exact(hf b h).2.1 e
  ·exact(hf b h).2.2.1 e
 funs:=I.stack
 frf:=I.stkFree
def Uk(k:Nat)(g:TG)(tt:TT)(te:TE)(Z:St)(Q:VK):It->Hp->Prop:=fun J H1=>∀D,H1 D=none->∃W:Nat->Nat->List V->Hp->Prop,(∃m,W 0 m [] (upd H1 D (.lst [])))/\
 ∀i m ys H2,W i m ys H2->H2 D=some (.lst ys)/\((J.stop i H2/\Q (.ref D) H2)\/(J.go i H2/\ys.length<sizeLine/\∃m',m'<m/\∀x H3,J.yld i H2 x H3->∀ρ:St,ρ.length=k->
  g x (ρ++Z) H3 fun σ2 H4=>∃ρ2:St,ρ2.length=k/\σ2=ρ2++Z/\tt σ2 H4 fun b H5=>if b=true then te σ2 H5 fun y H6=>H6 D=some (.lst ys)/\W (i+1) m' (ys++[y]) (upd H6 D (.lst (ys++[y]))) else W (i+1) m' ys H5))
def mV(k:Nat)(wi:TI)(g:TG)(tt:TT)(te:TE):TE:=fun Z H Q=>wi Z H (Uk k g tt te Z Q)
section
variable{prog:Program}{w:World}{A:Around}{R:Result->Shared->Prop}
abbrev NB(prog:Program)(w:World)(A:Around)(env:Env)(R:Result->Shared->Prop):Value->Shared->Prop:=notedBy (model prog w) A env fun e s'=>R (.error e) s'
theorem dH{s:Shared}{tg:Expr}{ifs:List Expr}{it acc:Value}{env:Env}(I:Nat->Shared->Prop)
 (turn:∀n s,I n s->wpAny (model prog w) A (pyNext it)
  (fun r s1=>match r with
   | none=>R (.ok .next) s1
   | some v=>wpAny (model prog w) A (letOwnedTupleGo tg it v)
    (fun _ s2=>wpAny (model prog w) A (assign tg env v)
     (fun _ s3=>wpAny (model prog w) A (forIn ifs true fun c r=>if r=true then (isTrue c env (eval c env) >>= fun ok=>pure (ForInStep.yield ok)) else pure (ForInStep.yield r))
      (fun b s4=>if b=true then wpAny (model prog w) A (eval elt env)
       (fun x s5=>wpAny (model prog w) A (call (.builtin "list.append") [acc,x]) (fun _ s6=>∃m,m<n/\I m s6) (NB prog w A env R) s5) (NB prog w A env R) s4
       else ∃m,m<n/\I m s4) (NB prog w A env R) s3) (NB prog w A env R) s2) (NB prog w A env R) s1) (NB prog w A env R) s)
 (n:Nat)(h:I n s):codeAny (model prog w) A (.compLoop (.ListComp elt [⟨tg,iter,ifs,0⟩] scope pos) 0 it acc env) R s:=by
 refine codeAny_loop rfl I (fun n s hI=>?_) n h;refine(show wpAny _ A ((compTurn (.ListComp elt [⟨tg,iter,ifs,0⟩] scope pos) 0 it acc env).onRaise _) _ _ s from wpAny_noted ?_);rw[compTurn_list];refine jv (jp8 (jv (ja7 (turn n s hI) (fun r s1 h1=>?_) fun _ _ z=>z)));cases r with
 | none=>exact xz h1
 | some v=>
  refine jv (ja7 h1 (fun _ s2 h2=>?_) fun _ _ z=>z);refine jv (ja7 h2 (fun _ s3 h3=>jv (ja7 h3 (fun b s4 h4=>?_) fun _ _ z=>z)) fun _ _ z=>z);cases b with
  | false=>exact xz ⟨rfl,h4⟩
  | true=>
   refine jv (jv (ja7 h4 (fun x s5 h5=>?_) fun _ _ z=>z));exact jv (ja7 h5 (fun _ s6 h6=>xz (xz ⟨rfl,h6⟩)) fun _ _ z=>z)
end
theorem Ti{M:List Str}{tg:Expr}{xs:List Str}{ifs:List Expr}{cl:List (Str×Addr)}{g:TG}(hc:X.calm=true)(ok:Np X M xs scope cl)
 (ht:∀C s₀ H₀ fp,dX (De X M xs scope cl C s₀ H₀ fp) ifs tt)(hg:∀C s₀ H₀ fp,PG (De X M xs scope cl C s₀ H₀ fp) tg g)(he:∀C s₀ H₀ fp,PE (De X M xs scope cl C s₀ H₀ fp) elt te)
 {pins:List (Addr×Obj)}{Z:St}{H2:Hp}{s2:Shared}{it:Addr}{fp:List Addr}{tn:Nat->Heap->Prop}{J:It}{Q:VK}(I2:Inv X pins Z H2 s2)(T:Turn X.prog X.w X.K tg J fp it tn)(st2:tn 0 s2.heap)(f2:∀b∈fp,Kr X pins H2 b)
 (hW:Uk xs.length g tt te Z Q J H2)(post:Value->Addr->Result->Shared->Prop)
 (fin:∀D C H3 s4,Inv X pins Z H3 s4->(∃m,s4.heap.Ns C m)->Kr X pins H3 C->Q (.ref D) H3->post (.ref D) C (.ok .next) s4):
 wpAny (model X.prog X.w) X.A (newList []) (fun acc s₃=>wpAny (model X.prog X.w) X.A (newFunctionEnv scope X.env.globals cl [] X.env.qual none .none (some X.env)) (fun cenv s₄=>
  codeAny (model X.prog X.w) X.A (.compStart (.ListComp elt [⟨tg,iter,ifs,0⟩] scope pos) 0 (.ref it) acc { cenv with scope:=relabel scope X.env }) (post acc cenv.locals) s₄) X.xe s₃) X.xe s2:=by
 refine jn7 (wpAny_newFunctionEnv ok.cell (by intro y hy;simp at hy) (fun h₁ hns₁ hsb₁=>?_) ok.kind);dsimp only at hns₁ hsb₁ ⊢;generalize hH2:s2.heap.push { cls:=.type "list",dict:=none,data:=.seq ([]:List Value).toArray }=G2 at hns₁ hsb₁ ⊢;have hC:G2.objs.size=s2.heap.objs.size+1:=by rw[<-hH2,jj3]
 have hDC:s2.heap.objs.size≠G2.objs.size:=by rw[hC];exact kg (jp3 _)
 have hCle:s2.heap.objs.size<=G2.objs.size:=by rw[hC];exact Nat.le_succ _
 have below:∀b,b<s2.heap.objs.size->b≠G2.objs.size/\b≠s2.heap.objs.size:=fun b hb=>⟨by rw[hC];exact kg (Nat.lt_succ_of_lt hb),kg hb⟩;have old:∀b o,s2.heap.get? b=some o->h₁.get? b=some o:=fun b o e=>hsb₁.extBut b o (below b (xh e)).1 (qc _ (hH2 ▸ qc _ e));have hacc:h₁.get? s2.heap.objs.size=some { cls:=.type "list",data:=.seq ([]:List Value).toArray }:=hsb₁.extBut _ _ hDC (qc _ (hH2 ▸ xa _ rfl));have fpb:∀b∈fp,b<s2.heap.objs.size:=fun b hb=>by
  obtain⟨o,e,_⟩:=T.obj _ _ st2 b hb;exact xh e
 have hD0:H2 s2.heap.objs.size=none:=I2.hok.fresh (qo _);have hC0:H2 G2.objs.size=none:=I2.hok.fresh hCle;generalize hDD:s2.heap.objs.size=D at*
 generalize hCC:G2.objs.size=C at*
 obtain⟨W,⟨m0,w0⟩,turn⟩:=hW D hD0;have okX:(De X M xs scope cl C s2 H2 fp).Ok:=qi I2 ok (by rw[hDD];exact hCle) f2 (by rw[hDD];exact fpb);have lenN:(List.replicate xs.length none++Z:St).length=(De X M xs scope cl C s2 H2 fp).N.length:=by
  show(List.replicate xs.length none++Z).length=(xs++M).length;rw[ze,ze,jb9,I2.len,ok.len]
 have locs:∀(h':Heap) (m:Str->Option Value),(∀y c,X.env.cells.lookup y=some c->∀v,s2.heap.IsCell c v->h'.IsCell c v)->
  ∀(j:Nat) (y:Str) (v:V),(xs++M)[j]?=some y->(List.replicate xs.length none++Z:St)[j]?=some (some v)->Vis (relabel scope X.env) y->∃u,RelV v u/\Look (compEnvC scope cl C X.env) h' m y u:=by
  intro h' m hcell j y v e1 e2 e3;rcases Nat.lt_or_ge j xs.length with jl | jl
  ·rw[jg7 (by rw[jb9];exact jl),List.getElem?_replicate,xp jl] at e2;cases e2
  ·obtain⟨i,rfl⟩:∃i,j=xs.length+i:=⟨j-xs.length,⋯⟩;have e0:M[i]?=some y:=by
    rw[jf1 (jb5 _ _),Nat.add_sub_cancel_left] at e1;exact e1
   have e2':Z[i]?=some (some v):=by
    rw[jf1 (by rw[jb9];exact jb5 _ _),jb9,Nat.add_sub_cancel_left] at e2;exact e2
   obtain⟨e1',k1,k2⟩:=ok.vis i y e0 e3;obtain⟨m2,_,hl⟩:=I2.loc;obtain⟨u,r,l⟩:=hl i y v e1' e2' (k2.elim (fun z=>.inr (.inl z)) fun z=>.inr (.inr z));obtain⟨c',hc'⟩:=ok.has y k1;rcases l with ⟨z,_⟩ | ⟨_,c,hcc,z⟩
   ·have z':X.env.scope.names.lookup y=some .local:=z;rcases k2 with q | q<;>(rw [q] at z';cases z')
   ·have q:=ok.sub y c' hc';rw[hcc] at q;cases q;exact⟨u,r,.inr ⟨k1,c',hc',hcell y c' hcc _ z⟩⟩
 have I0:Inv (De X M xs scope cl C s2 H2 fp) [] (List.replicate xs.length none++Z) (upd H2 D (.lst [])) { s2 with heap:=h₁,toks:=s2.toks+([]:List (Str×Value)).length }:=by
  refine⟨okX,rfl,I2.bare,?_,⟨_,hns₁,locs h₁ _ (fun y c e v z=>?_)⟩,fun y c e=>?_,?_,fun y c e=>?_,fun p hp=>?_,?_,lenN⟩
  ·exact Un.laid old (js2 hDD) hD0
  ·obtain⟨o,ho,hd⟩:=z;exact⟨o,old c o ho,hd⟩
  ·obtain⟨v,o,ho,hd⟩:=I2.cell y c (ok.sub y c e);exact⟨v,o,old c o ho,hd⟩
  ·show upd H2 D (.lst []) C=none;rw[BP (Ne.symm hDC)];exact hC0
  ·have hn:=I2.freeC y c (ok.sub y c e);obtain⟨v,o,ho,hd⟩:=I2.cell y c (ok.sub y c e);rw[BP (fun z=>by have:=xh ho;rw[hDD,z] at this;exact jg0 _ this)];exact hn
  ·exact absurd hp (by show p∉([]++[]:List (Addr×Obj));simp)
  ·refine I2.hok.laid old (js2 hDD) ⟨ka _,[],_,.nil,hacc⟩
 have fpk:∀{H':Hp},(∀b∈fp,H' b=none)->∀b∈fp,Kr (De X M xs scope cl C s2 H2 fp) [] H' b:=fun hn b hb=>by
  refine⟨hn b hb,(below b (fpb b hb)).1,okX.exfs b hb,.inl hb,fun y c e=>(f2 b hb).2.2.2.2.1 y c (ok.sub y c e),fun p hp=>?_⟩;exact absurd hp (by show p∉([]++[]:List (Addr×Obj));simp)
 have loop:∀s₃:Shared,s₃={ s2 with heap:=h₁,toks:=s2.toks+([]:List (Str×Value)).length }->
  codeAny (model X.prog X.w) X.A (.compLoop (.ListComp elt [⟨tg,iter,ifs,0⟩] scope pos) 0 (.ref it) (.ref D) (compEnvC scope cl C X.env))
   (post (.ref D) C) s₃:=by
  rintro s₃ rfl;refine dH (fun n s'=>∃i ys w' H',w'.length=xs.length/\Inv (De X M xs scope cl C s2 H2 fp) [] (w'++Z) H' s'/\tn i s'.heap/\(∀b∈fp,H' b=none)/\W i n ys H') ?_ m0
   ⟨0,[],List.replicate xs.length none,_,jb9,I0,T.keep _ _ _ st2 (fun b _ o e=>old b o e),fun b hb=>by rw[BP (below b (fpb b hb)).2];exact(f2 b hb).1,w0⟩
  rintro n s3 ⟨i,ys,w3,H3,l3,I3,st3,fr3,wt⟩;obtain⟨hD3,hh⟩:=turn i n ys H3 wt;rcases hh with ⟨stop,q⟩ | ⟨go,hlen,m',hm,step⟩
  ·refine thn (T.done (De X M xs scope cl C s2 H2 fp) rfl rfl rfl hc i [] s3 (w3++Z) H3 _ I3 (fpk fr3) st3 stop) fun r s4 ⟨hr,I4⟩=>?_;subst hr;obtain⟨m4,hn4,_⟩:=id I4.loc;have hC4:H3 C=none:=I4.free;exact fin D C H3 s4 (I2.call' (ch:=fp) I4.os I4.base I4.hok I4.bare fun b hb=>⟨(f2 b hb).2.2.2.1,(f2 b hb).2.1,(f2 b hb).2.2.2.2.1,(f2 b hb).2.2.2.2.2⟩) ⟨m4,hn4⟩ (I2.fpOk (by rw[hDD];exact hCle) hC4) q
  ·refine ja7 (T.item (De X M xs scope cl C s2 H2 fp) rfl rfl rfl hc i [] s3 (w3++Z) H3 (fun _ _=>False) I3 (fpk fr3) st3 go) (fun r s4 h4=>?_) (fun _ _ z=>z.elim);obtain⟨u,hr,h4⟩:=h4;subst hr;refine ja7 h4 (fun _ s4 h4=>?_) (fun _ _ z=>z.elim);obtain⟨x',H5,I5,r5,y5,st5,fr5⟩:=h4;have I5':=I5.pinned (fpk fr5) (T.obj _ _ st5);refine ja7 (hg C s2 H2 fp s4 _ H5 x' u _ I5' r5 (step x' H5 y5 w3 l3)) (fun _ s6 h6=>?_) (fun _ _ z=>z.elim);obtain⟨σ6,H6,I6,w6,l6,rfl,q6⟩:=h6;have back:∀{s7:Shared} {H7:Hp} {w7:St},Inv (De X M xs scope cl C s2 H2 fp) ([]++R9 fp s4.heap) (w7++Z) H7 s7->tn (i+1) s7.heap/\(∀b∈fp,H7 b=none)/\Inv (De X M xs scope cl C s2 H2 fp) [] (w7++Z) H7 s7:=fun{s7 H7 w7} I7=>by
    refine⟨T.keep _ _ _ st5 fun b hb o e=>(I7.pin (b,o) (yi _ (yi _ (JT hb e)))).1,fun b hb=>?_,I7.unpinned⟩;obtain⟨o,e,d⟩:=T.obj _ _ st5 b hb;exact(I7.pin (b,o) (yi _ (yi _ (JT hb e)))).2.1
   refine ja7 (ht C s2 H2 fp _ s6 _ H6 _ I6 q6) (fun ok' s7 h7=>?_) (fun _ _ z=>z.elim);obtain⟨H7,I7,q7⟩:=h7;cases ok' with
   | false=>
    have q7':W (i+1) m' ys H7:=by simpa using q7
    rw[xy zi];obtain⟨b1,b2,b3⟩:=back I7;exact⟨m',hm,i+1,ys,_,H7,l6,b3,b1,b2,q7'⟩
   | true=>
    rw[xp rfl] at q7 ⊢;refine ja7 (he C s2 H2 fp s7 _ H7 _ I7 q7) (fun y s8 h8=>?_) (fun _ _ z=>z.elim);obtain⟨v8,H8,I8,r8,hD8,w8⟩:=h8;refine ja7 (Kw (X:=De X M xs scope cl C s2 H2 fp) _ s8 _ H8 (.ref D) [v8] (.ref D) [y] (fun _ H9=>H9=upd H8 D (.lst (ys++[v8]))) I8 rfl (.cons r8 .nil) ⟨D,ys,v8,rfl,rfl,hD8,hlen,rfl⟩) (fun _ s9 h9=>?_) (fun _ _ z=>z.elim);obtain⟨v9,H9,I9,_,e9⟩:=h9;subst e9;obtain⟨b1,b2,b3⟩:=back I9;exact⟨m',hm,i+1,_,_,_,l6,b3,b1,b2,w8⟩
 exact codeAny_compStart_list (loop _ rfl) (T.self _ 0 _ _ _ (T.keep _ _ _ st2 (fun b _ o e=>old b o e)) (loop _ rfl))
theorem V9{M:List Str}{px:Pos}{ifs:List Expr}{cl:List (Str×Addr)}(hc:X.calm=true)(ok:Ul X M x scope cl)
 (ht:∀C s₀ H₀ fp,dX (JX X M x scope cl C s₀ H₀ fp) ifs tt)(he:∀C s₀ H₀ fp,PE (JX X M x scope cl C s₀ H₀ fp) elt te)
 {pins:List (Addr×Obj)}{Z:St}{H2:Hp}{s2:Shared}{it:Addr}{fp:List Addr}{tn:Nat->Heap->Prop}{J:It}{Q:VK}(I2:Inv X pins Z H2 s2)(T:Turn X.prog X.w X.K (.Name x px) J fp it tn)(st2:tn 0 s2.heap)(f2:∀b∈fp,Kr X pins H2 b)
 (hW:iR tt te Z Q J H2)(post:Value->Addr->Result->Shared->Prop)
 (fin:∀D C H3 s4,Inv X pins Z H3 s4->(∃m,s4.heap.Ns C m)->Kr X pins H3 C->Q (.ref D) H3->post (.ref D) C (.ok .next) s4):
 wpAny (model X.prog X.w) X.A (newList []) (fun acc s₃=>wpAny (model X.prog X.w) X.A (newFunctionEnv scope X.env.globals cl [] X.env.qual none .none (some X.env)) (fun cenv s₄=>
  codeAny (model X.prog X.w) X.A (.compStart (.ListComp elt [⟨.Name x px,iter,ifs,0⟩] scope pos) 0 (.ref it) acc { cenv with scope:=relabel scope X.env }) (post acc cenv.locals) s₄) X.xe s₃) X.xe s2:=
 Ti (g:=Ht 0) hc ok ht (fun C s₀ H₀ fp=>CZ ok.nd rfl (.inl (lookup_relabel_local (ok.xl _ (.head _)))) (.inr (lookup_relabel_local (ok.xl _ (.head _))))) he I2 T st2 f2 (fun D hD=>by
  obtain⟨W,w0,turn⟩:=hW D hD;refine⟨W,w0,fun i m ys H3 wt=>?_⟩;obtain⟨hD3,hh⟩:=turn i m ys H3 wt;refine⟨hD3,hh.imp id fun h=>?_⟩;obtain⟨go,hlen,m',hm,step⟩:=h;refine⟨go,hlen,m',hm,fun x' H5 y5 ρ hρ=>?_⟩
  match ρ,hρ with
  | [a],_=>exact⟨[some x'],rfl,rfl,step x' H5 y5⟩) post fin
theorem Fi{M:List Str}{px:Pos}{ifs:List Expr}{cl:List (Str×Addr)}(hc:X.calm=true)(ok:Ul X M x scope cl)(hi:PI X (.Name x px) iter wi)
 (ht:∀C s₀ H₀ fp,dX (JX X M x scope cl C s₀ H₀ fp) ifs tt)(he:∀C s₀ H₀ fp,PE (JX X M x scope cl C s₀ H₀ fp) elt te)
 (hs:∀x,foldedSetIterable iter X.env x=pure x:=by intro _;rfl):
 PE X (.ListComp elt [⟨.Name x px,iter,ifs,0⟩] scope pos) (Yl wi tt te):=by
 intro pins s Z H Q I h;rw[eval_ListComp];refine jl6 (use:=none) rfl hs ok.clos ok.kind ok.names (thn (hi s Z H _ I h) fun xv s1 h1=>thn h1 fun itv s2 h2=>?_);obtain⟨it,fp,tn,J,H2,e,I2,T,st2,f2,hW⟩:=h2;subst e;refine V9 hc ok ht he I2 T st2 f2 hW (compPost (model X.prog X.w) X.A X.xe none (EP X pins Z Q)) fun D C H3 s4 I4 hm fC q=>?_;obtain⟨m,hn⟩:=hm;exact⟨m,hn,fun h' hsb=>⟨.ref D,H3,I4.turned (t':=s4.toks) (fun b o hb e=>hsb.extBut b o hb e) fC.1 fC.2.1 fC.2.2.2.1 fC.2.2.2.2.1 fC.2.2.2.2.2,rfl,q⟩⟩
theorem cB{M:List Str}{y:Str}{px py spos:Pos}{ifs:List Expr}{cl:List (Str×Addr)}{i:Nat}(hN:X.N.Nodup)(hiy:X.N[i]?=some y)(hy:Loc X.env.scope y)
 (hc:X.calm=true)(ok:Ul X M x scope cl)(hi:PI X (.Name x px) iter wi)
 (ht:∀C s₀ H₀ fp,dX (JX X M x scope cl C s₀ H₀ fp) ifs tt)(he:∀C s₀ H₀ fp,PE (JX X M x scope cl C s₀ H₀ fp) elt te)
 (hsw:swapsWith (.ListComp elt [⟨.Name x px,iter,ifs,0⟩] scope pos) (some (.Name y py)) spos.line X.env=pure true:=by with_unfolding_all rfl)
 (hf:X.fn y=true\/X.env.scope.names.lookup y=some .local:=by first | exact .inl rfl | exact .inr rfl | assumption)
 (hs:∀x,foldedSetIterable iter X.env x=pure x:=by intro _;rfl):
 PS X (.Assign [.Name y py] (.ListComp elt [⟨.Name x px,iter,ifs,0⟩] scope pos) spos) (ie (Yl wi tt te) (Ht i)):=by
 intro pins s Z H D I h;rw[exec_Assign_Name_used _ _ _ _ hsw];refine jv (jp8 (jv ?_));show wpAny _ X.A (do let _ <-comprehension (.ListComp elt [⟨.Name x px,iter,ifs,0⟩] scope pos) scope X.env _ (newList []) false (eval iter X.env) (some (assign (.Name y py) X.env))) _ _ s;refine jv (ja7 (jl6 (use:=some (assign (.Name y py) X.env)) (Q:=fun _ s'=>SP X pins D .next s') rfl hs ok.clos ok.kind ok.names
  (thn (hi s Z H _ I h) fun xv s1 h1=>thn h1 fun itv s2 h2=>?_)) (fun _ s' hq=>xz (xz hq)) fun _ _ e=>e)
 obtain⟨it,fp,tn,J,H2,e,I2,T,st2,f2,hW⟩:=h2;subst e;refine V9 (Q:=fun x H1=>Ht i x Z H1 D.nx) hc ok ht he I2 T st2 f2 hW (compPost (model X.prog X.w) X.A X.xe (some (assign (.Name y py) X.env)) (fun _ s'=>SP X pins D .next s')) fun Dd C H3 s4 I4 hm fC q=>?_
 obtain⟨m,hn⟩:=hm;show wpAny _ X.A (assign (.Name y py) X.env (.ref Dd)) _ _ _;refine jt7 (N5 I4 hN hiy hy (v:=.ref Dd) rfl (fun s5 I5 hsb=>?_) hf);obtain⟨a,sb,ha⟩:=hsb;have hCa:C≠a:=by
  rcases ha with rfl | ha
  ·exact fC.2.1
  ·exact(fC.2.2.2.2.1 _ _ ha).symm
 exact⟨m,hn.sameBut sb hCa,fun h' hsb'=>⟨_,H3,I5.turned (t':=s5.toks) (fun b o hb e=>hsb'.extBut b o hb e) fC.1 fC.2.1 fC.2.2.2.1 fC.2.2.2.2.1 fC.2.2.2.2.2,q⟩⟩
theorem Yc:∀{bs:List Bool} {us:List Value},Vals (bs.map V.bl) us->us=bs.map Value.bool
 | [],_,.nil=>rfl
 | b::bs,u::us,.cons r t=>by
  cases (show u=Value.bool b from r);rw[Yc t];rfl
theorem bx(bs:List Bool):((List.range bs.length).all fun i=>(bs[i]?).getD true)=bs.all id:=by
 induction bs with
 | nil=>rfl
 | cons b bs ih=>
  rw[qr,List.range_succ_eq_map,jm0,jr8,jm0,<-ih];rfl
theorem vX{s:Shared}{h':Heap}{o:Obj}(hk:∀b x,b∉[s.heap.objs.size]->(s.heap.push o).get? b=some x->h'.get? b=some x):∀b x,s.heap.get? b=some x->h'.get? b=some x:=
 fun b x e=>hk b x (fun hm=>by rw[xb.mp hm] at e;exact jg0 _ (xh e)) (qc _ e)
theorem Tp(hc:X.calm=true):Hv X (.builtin "all") (fun xs H Q=>∃(p:Addr) (bs:List Bool),xs=[.ref p]/\SqL X.K H p (bs.map V.bl)/\Q (.bl (bs.all id)) H):=by
 intro pins s Z H xs us Q I r h;obtain⟨p,bs,rfl,hq,q⟩:=h;obtain⟨u,rfl,ru⟩:=vals1 r;cases (show u=Value.ref p from ru);obtain⟨its,rv,pl,_⟩:=I.list hq;obtain rfl:=Yc rv;have hl:=pl.isList;have hlt:p<s.heap.objs.size:=by obtain⟨_,e,_⟩:=id hl;exact xh e
 refine call_all_walk (jt8 hl ?_);refine⟨s.heap.objs.size,[s.heap.objs.size,p],[s.heap.objs.size],(bs.map Value.bool).toArray.size,_,_,fun i=>(bs[i]?).getD true,rfl,Walks.list (A:=X.A.in1) (I.ok.hd hc) _ p (kg hlt) (bs.map Value.bool).toArray,
  ⟨⟨_,xa _ rfl,rfl,rfl⟩,hl.push _⟩,fun i v s' Q' E' hP hQ=>?_,fun h' tk hk=>?_⟩
 ·have hP':(bs.map Value.bool)[i]?=some v:=by simpa using hP
  rw[xo] at hP';cases e:bs[i]? with
  | none=>rw[e] at hP';cases hP'
  | some b=>
   rw[e] at hP';cases hP';simp only[e,Option.getD_some] at hQ;exact jc1 hQ
 ·have e:((List.range (bs.map Value.bool).toArray.size).all fun i=>(bs[i]?).getD true)=bs.all id:=by
   rw[xc,js];exact bx bs
  rw[e];exact⟨.bl _,H,I.kept (vX hk),rfl,q⟩
theorem lookup_mem{κ β:Type}[BEq κ][LawfulBEq κ]{k:κ}{v:β}:∀{l:List (κ×β)},l.lookup k=some v->(k,v)∈l
 | (a,b)::r,h=>by
  rw[List.lookup_cons] at h;cases e:k==a with
  | true=>
   rw[e] at h;cases h;rw[eq_of_beq e];exact qf
  | false=>
   rw[e] at h;exact qk _ (lookup_mem h)
theorem VB{env:Env}(h:∀y∈scope.names,y.2≠.free):(relabel scope env).names=scope.names:=
 map_eq_self fun x hx=>by
  obtain⟨n,k⟩:=x;have:(k==NameKind.free)=false:=by simpa using h _ hx
  simp[this]
theorem Gj(N:List Str)(hN:X.N=N)(hf:∀y∈scope.names,y.2≠.free/\y.2≠.cell)(hk:scope.kind=.function)(hn:∀y∈scope.names,y.2=.local->scope.names.lookup y.1=some .local)
 (hx:scope.names.lookup x=some .local)(nd:(x::N).Nodup)(vis:∀y∈N,scope.names.lookup y≠some .local):Ul X N x scope []:=by
 have e:=VB (env:=X.env) fun y hy=>(hf y hy).1;refine⟨closureFor_none fun y hy=>(hf y hy).1,fun y hy=>(hf y hy).2,hk,hn,fun y h=>xb.mp h ▸ hx,nd,by rw[hN],fun y c h=>(by cases h),fun y h=>?_,fun i y hy h=>?_⟩
 ·rw[e] at h;rcases h with h | h
  ·exact absurd rfl (hf _ (lookup_mem h)).2
  ·exact absurd rfl (hf _ (lookup_mem h)).1
 ·rcases h with h | h | h
  ·rw[e] at h;exact absurd h (vis y (qv hy))
  ·rw[e] at h;exact absurd rfl (hf _ (lookup_mem h)).2
  ·rw[e] at h;exact absurd rfl (hf _ (lookup_mem h)).1
structure Walk(J:It)(ok:Hp->Prop)(xs:List V):Prop where
 go:∀i H,ok H->i<xs.length->J.go i H
 yld:∀i H x H',ok H->J.yld i H x H'->i<xs.length->H'=H/\xs[i]?=some x
 stop:∀i H,ok H->xs.length<=i->J.stop i H
theorem Nu{a:Addr}:Walk (Itl K a) (fun H=>SqL K H a xs) xs:=
 ⟨fun i H h hi=>⟨xs,xs[i],h,by simp[hi]⟩,fun i H x H' h y hi=>⟨y.1,y.2 xs h⟩,fun i H h hi=>⟨xs,h,hi⟩⟩
theorem lX{a:Addr}:Walk (Itt K a) (fun H=>SqT K H a xs) xs:=
 ⟨fun i H h hi=>⟨xs,xs[i],h,by simp[hi]⟩,fun i H x H' h y hi=>⟨y.1,y.2 xs h⟩,fun i H h hi=>⟨xs,h,hi⟩⟩
theorem aZ{lo:Int}{n:Nat}:Walk (Itr lo n) (fun _=>True) ((List.range n).map fun i=>V.int (lo+(i:Nat))):=
 ⟨fun i H _ hi=>(by show i<n;simpa using hi),fun i H x H' _ y hi=>⟨y.1,by
  have hi':i<n:=by simpa using hi
  rw[y.2];simp[hi']⟩,fun i H _ hi=>(by show n<=i;simpa using hi)⟩
theorem iB{J:It}{ok:Hp->Prop}(Wk:Walk J ok xs)(hz:xs.length<sizeLine)(hok:∀D ys,H D=none->ok (upd H D (.lst ys)))(p:V->Bool)(f:V->V)
 (ht:∀x∈xs,∀D ys (Q':Bool->Hp->Prop),H D=none->Q' (p x) (upd H D (.lst ys))->tt (some x::Z) (upd H D (.lst ys)) Q')
 (he:∀x∈xs,p x=true->∀D ys (Q':VK),H D=none->Q' (f x) (upd H D (.lst ys))->te (some x::Z) (upd H D (.lst ys)) Q')
 (h:∀D,H D=none->Q (.ref D) (upd H D (.lst ((xs.filter p).map f)))):
 ∀D,H D=none->∃W:Nat->Nat->List V->Hp->Prop,(∃m,W 0 m [] (upd H D (.lst [])))/\
  ∀i m ys H2,W i m ys H2->H2 D=some (.lst ys)/\((J.stop i H2/\Q (.ref D) H2)\/(J.go i H2/\ys.length<sizeLine/\∃m',m'<m/\∀x H3,J.yld i H2 x H3->
   tt (some x::Z) H3 fun b H4=>if b=true then te (some x::Z) H4 fun y H5=>H5 D=some (.lst ys)/\W (i+1) m' (ys++[y]) (upd H5 D (.lst (ys++[y]))) else W (i+1) m' ys H4)):=by
 intro D hD;refine⟨fun i m ys H2=>i<=xs.length/\m=xs.length-i/\ys=((xs.take i).filter p).map f/\H2=upd H D (.lst ys),⟨_,ka _,rfl,by simp,rfl⟩,?_⟩;rintro i m ys H2 ⟨hi,rfl,hys,rfl⟩;refine⟨Ao,?_⟩;by_cases hlt:i<xs.length
 ·have hl:ys.length<=i:=by
   rw[hys,js];exact zo (jo4 _ _) (by rw[je0];lia)
  refine .inr ⟨Wk.go i _ (hok D ys hD) hlt,⋯,xs.length-(i+1),⋯,fun x H3 hy=>?_⟩;obtain⟨e3,ex⟩:=Wk.yld i _ x H3 (hok D ys hD) hy hlt;subst e3;have hm:x∈xs:=qv ex;have et:xs.take (i+1)=xs.take i++[x]:=by rw[ky,ex];rfl
  refine ht x hm D ys _ hD ?_;cases hp:p x with
  | false=>
   rw[xy zi];refine⟨hlt,rfl,?_,rfl⟩;rw[et,jr9,hys];simp[hp]
  | true=>
   rw[xp rfl];refine he x hm hp D ys _ hD ⟨Ao,hlt,rfl,?_,by rw[sJ]⟩;rw[et,jr9,hys];simp[hp]
 ·have e:i=xs.length:=⋯
  subst e;refine .inl ⟨Wk.stop _ _ (hok D ys hD) (qo _),?_⟩;rw[hys,jb4];exact h D hD
theorem Xa{R:It->Hp->Prop}(h:ta Z H fun vs H1=>∃j:Int,vs=[.int j]/\ -(2^62)<=j/\j<2^62/\R (Itr 0 j.toNat) H1):yF ta Z H R:=h
theorem fM{R:It->Hp->Prop}(h:ta Z H fun vs H1=>∃i j:Int,vs=[.int i,.int j]/\(-(2^62)<=i/\i<2^62/\ -(2^62)<=j/\j<2^62)/\R (Itr i (j-i).toNat) H1):yE ta Z H R:=h
theorem Fx(h:wi Z H (iR tt te Z Q)):Yl wi tt te Z H Q:=h
theorem IW{J:It}{ok:Hp->Prop}(Wk:Walk J ok xs)(hz:xs.length<sizeLine)(hok:∀D ys,H D=none->ok (upd H D (.lst ys)))(p:V->Bool)(f:V->V)
 (ht:∀x∈xs,∀D ys (Q':Bool->Hp->Prop),H D=none->Q' (p x) (upd H D (.lst ys))->tt (some x::Z) (upd H D (.lst ys)) Q')
 (he:∀x∈xs,p x=true->∀D ys (Q':VK),H D=none->Q' (f x) (upd H D (.lst ys))->te (some x::Z) (upd H D (.lst ys)) Q')
 (h:∀D,H D=none->Q (.ref D) (upd H D (.lst ((xs.filter p).map f)))):iR tt te Z Q J H:=iB Wk hz hok p f ht he h
theorem dI{i:Nat}{a:Addr}(ei:Z[i]?=some (some (.ref a)))(hS:SqT K H a xs)(hz:xs.length<sizeLine)(p:V->Bool)(f:V->V)
 (ht:∀x∈xs,∀D ys (Q':Bool->Hp->Prop),H D=none->Q' (p x) (upd H D (.lst ys))->tt (some x::Z) (upd H D (.lst ys)) Q')
 (he:∀x∈xs,p x=true->∀D ys (Q':VK),H D=none->Q' (f x) (upd H D (.lst ys))->te (some x::Z) (upd H D (.lst ys)) Q')
 (h:∀D,H D=none->Q (.ref D) (upd H D (.lst ((xs.filter p).map f)))):Yl (vZ K (Ie i)) tt te Z H Q:=
 by unfold Yl vZ;exact J3 ei ⟨a,rfl,⟨_,hS⟩,iB lX hz (fun D ys hD=>(Av hD _).tup hS) p f ht he h⟩
theorem JG{Q:Bool->Hp->Prop}(h:Q true H):eE Z H Q:=h
theorem Ik{cl:List (Str×Addr)}(xs M N:List Str)(hl:M.length=N.length)(hN:X.N=N)(clos:closureFor scope X.env=pure cl)(hc:(scope.names.all fun y=>y.2 != .cell)=true)(hk:scope.kind=.function)
 (hn:(scope.names.all fun y=>y.2 != .local||scope.names.lookup y.1==some .local)=true)(hx:(xs.all fun x=>scope.names.lookup x==some .local)=true)(nd:(xs++M).Nodup)
 (hs:∀p∈cl,X.env.cells.lookup p.1=some p.2)
 (hh:((relabel scope X.env).names.all fun p=>(p.2 != .cell&&p.2 != .free)||(cl.lookup p.1).isSome)=true)
 (hv:((M.zip N).all fun q=>match (relabel scope X.env).names.lookup q.1 with
  | some .local=>false
  | some .cell=>q.1==q.2&&(X.env.scope.names.lookup q.1==some .cell||X.env.scope.names.lookup q.1==some .free)
  | some .free=>q.1==q.2&&(X.env.scope.names.lookup q.1==some .cell||X.env.scope.names.lookup q.1==some .free)
  | _=>true)=true):Np X M xs scope cl:=by
 refine⟨clos,fun y hy=>?_,hk,fun y hy hl=>?_,(fun x hm=>by simpa using jb2.mp hx x hm),nd,by rw[hN];exact hl,fun y c h=>hs _ (lookup_mem h),fun y h=>?_,fun i y hy h=>?_⟩
 ·have:=jb2.mp hc y hy;simpa using this
 ·have:=jb2.mp hn y hy;simpa [hl] using this
 ·rcases h with h | h
  ·have:=jb2.mp hh _ (lookup_mem h);exact jh5.mp (by simpa using this)
  ·have:=jb2.mp hh _ (lookup_mem h);exact jh5.mp (by simpa using this)
 ·have hi:i<N.length:=by
   have:=(zk.mp hy).1;lia
  have hz:(y,N[i])∈M.zip N:=by
   have:(M.zip N)[i]?=some (y,N[i]):=List.getElem?_zip_eq_some.mpr ⟨hy,by simp[hi]⟩;exact qv this
  have z:=jb2.mp hv _ hz;have fin:y=N[i]->X.N[i]?=some y:=fun e=>by rw[hN,e];simp[hi]
  rcases h with h | h | h
  ·dsimp only at z;rw[h] at z;cases z
  ·dsimp only at z;rw[h] at z;simp only[yy,jc0,jh0] at z;exact⟨fin z.1,.inl h,z.2⟩
  ·dsimp only at z;rw[h] at z;simp only[yy,jc0,jh0] at z;exact⟨fin z.1,.inr h,z.2⟩
theorem Eg{cl:List (Str×Addr)}(M N:List Str)(hl:M.length=N.length)(hN:X.N=N)(clos:closureFor scope X.env=pure cl)(hc:(scope.names.all fun y=>y.2 != .cell)=true)(hk:scope.kind=.function)
 (hn:(scope.names.all fun y=>y.2 != .local||scope.names.lookup y.1==some .local)=true)(hx:scope.names.lookup x=some .local)(nd:(x::M).Nodup)
 (hs:∀p∈cl,X.env.cells.lookup p.1=some p.2)
 (hh:((relabel scope X.env).names.all fun p=>(p.2 != .cell&&p.2 != .free)||(cl.lookup p.1).isSome)=true)
 (hv:((M.zip N).all fun q=>match (relabel scope X.env).names.lookup q.1 with
  | some .local=>false
  | some .cell=>q.1==q.2&&(X.env.scope.names.lookup q.1==some .cell||X.env.scope.names.lookup q.1==some .free)
  | some .free=>q.1==q.2&&(X.env.scope.names.lookup q.1==some .cell||X.env.scope.names.lookup q.1==some .free)
  | _=>true)=true):Ul X M x scope cl:=Ik [x] M N hl hN clos hc hk hn (by simp[hx]) nd hs hh hv
noncomputable def lM(lo c:Int)(n:Nat):It:=⟨fun i _=>i<n,fun i H x H'=>H'=H/\x=.int (lo+i*c),fun i _=>n<=i⟩
theorem Yg{P:Program}{w:World}{tg:Expr}(it:Addr)(lo c:Int)(n:Nat):Turn P w K tg (lM lo c n) [it] it (fun i h=>IsRangeIter h it (lo+(i:Nat)*c) ((n:Int)-(i:Nat)) c) where
 mem:=by simp
 obj:=fun i h st b hb=>by
  have e:b=it:=by simpa using hb
  subst e;exact⟨_,st,fun v z=>by
   have z':Data.fields _=Data.cell v:=z;cases z'⟩
 keep:=fun i h h' st k=>k it (by simp) _ st
 item:=by
  intro X hP hw hK hc i pins s Z H E I hf st hg;subst hP hw hK;obtain⟨f0,f1,f2,f3,f4,f5⟩:=hf it (by simp);have W:=Walks.range (prog:=X.prog) (w:=X.w) (I.ok.hd hc) it lo c n;refine W.item i s _ _ hg st fun v h' tk hv st' kk=>?_;obtain⟨t,rfl⟩:=hv;have I1:Inv X pins Z H { s with heap:=h',toks:=tk }:=I.turned (fun b o hb e=>kk b o (by simpa using hb) e) f0 f1 f3 f4 f5;exact⟨_,rfl,Zk (s:={ s with heap:=h',toks:=tk }) (n:="range_iterator") st' rfl rfl nofun ⟨.int (lo+i*c),H,I1,⟨t,rfl⟩,⟨rfl,rfl⟩,st',fun b hb=>(hf b hb).1⟩⟩
 done:=by
  intro X hP hw hK hc i pins s Z H E I hf st hg;subst hP hw hK;obtain⟨f0,f1,f2,f3,f4,f5⟩:=hf it (by simp);exact wpAny_pyNext_range_end (I.ok.hd hc) st (by have:n<=i:=hg;lia) fun h' eb=>⟨rfl,I.turned (t':=s.toks) (fun b o hb e=>eb b o hb e) f0 f1 f3 f4 f5⟩
 self:=fun _ _ _ _ _ st h=>wpAny_pyIter_rangeiter st h
def yD(ta:TA):TI:=fun Z H R=>ta Z H fun vs H1=>∃i j c:Int,vs=[.int i,.int j,.int c]/\0<c/\c<1073741824/\Builtin.Range.small i j c=true/\∃n:Nat,(n:Int)=Builtin.Range.rangeSize i j c/\R (lM i c n) H1
theorem Vl{tg:Expr}{a b d:Expr}{p:Pos}(hg:Gl X "range")(hm:X.mg "range"=none)(ha:PA X [a,b,d] ta)(hs:‹starEach [a,b,d] X.env=(false,eval a X.env)::starEach [b,d] X.env›)
 (hpl:‹(backTo pos (starEach [b,d] X.env)).any (·.1)=false›):PI X tg (.Call (.Name "range" p) [a,b,d] [] pos) (yD ta):=by
 intro pins s Z H R I h;refine Call_ (Hs I hg hm boot_range (vb (thn (ha (pos:=pos) pins s Z H _ I h) fun us s1 hZ=>?_) hs hpl));obtain⟨vs,H1,I1,r1,q1⟩:=hZ;obtain⟨lo,hi,c,e,c0,c1,sm,n,hn,q⟩:=q1;subst e;cases r1 with
 | cons r rr=>
  cases rr with
  | cons r' rr=>
   cases rr with
   | cons r'' rr=>
    cases rr;obtain⟨t,rfl⟩:=r;obtain⟨t',rfl⟩:=r';obtain⟨t'',rfl⟩:=r'';refine PySem.call_range_3 ⋯ ?_ (Or.inl (PyProof.noPylong_small ⋯));refine wpAny_pyIter_range (IsRange.new ..) sm ?_;have I2:Inv X pins Z H1 { s1 with heap:=s1.heap.push { cls:=.type "range",data:=.fields #[.int lo t,.int hi t',.int c t''] },toks:=s1.toks }:=I1.kept fun b o e=>qc _ e;refine⟨(s1.heap.push { cls:=.type "range",data:=.fields #[.int lo t,.int hi t',.int c t''] }).objs.size,[(s1.heap.push { cls:=.type "range",data:=.fields #[.int lo t,.int hi t',.int c t''] }).objs.size],_,_,H1,rfl,
     I2.kept (t':=s1.toks) fun b o e=>qc _ e,Yg _ lo c n,?_,fun b hb=>?_,q⟩
    ·have e1:lo+((0:Nat):Int)*c=lo:=by simp
     have e2:(n:Int)-((0:Nat):Int)=Builtin.Range.rangeSize lo hi c:=by rw[<-hn];simp
     show IsRangeIter _ _ (lo+((0:Nat):Int)*c) ((n:Int)-((0:Nat):Int)) c;rw[e1,e2];exact xa _ rfl
    ·have e:b=(s1.heap.push { cls:=.type "range",data:=.fields #[.int lo t,.int hi t',.int c t''] }).objs.size:=by simpa using hb
     subst e;exact I2.fpOk (qo _) (I2.hok.fresh (qo _))
theorem fL{R:It->Hp->Prop}(h:ta Z H fun vs H1=>∃i j c:Int,vs=[.int i,.int j,.int c]/\0<c/\c<1073741824/\Builtin.Range.small i j c=true/\∃n:Nat,(n:Int)=Builtin.Range.rangeSize i j c/\R (lM i c n) H1):yD ta Z H R:=h
theorem qY{a b:Int}:decide (V.int a=V.int b)=decide (a=b):=by
 rw[ko];simp
theorem Ld{i j c:Int}(i0:0<=i)(i1:i<4294967296)(j0:0<=j)(j1:j<4294967296)(c0:0<c)(c1:c<4294967296):Builtin.Range.small i j c=true:=by
 have e:Builtin.Range.rangeSize i j c=if i<j then (j-i-1)/c+1 else 0:=by
  unfold Builtin.Range.rangeSize;rw[xp c0]
 have b1:∀x:Int,0<=x->x/c<=x:=fun x hx=>jf3 _ hx;have b2:∀x:Int,0<=x->0<=x/c:=fun x hx=>jh1 hx (by omega);unfold Builtin.Range.small;rw[e];simp only[Builtin.Range.rangeFitsLong,yy,jh0,decide_eq_true_eq,jc0,xp c0];split
 ·have:=b1 (j-i-1) (by omega);have:=b2 (j-i-1) (by omega);omega
 ·omega
theorem Vh{i:Nat}{t:TA}{l:Addr}(e:Z[i]?=some (some (.ref l)))(h:H l=some (.lst xs))
 (g:t Z H fun ys H2=>Q8 (.ref l) ys H2 Q):tBM K "list" Q8 (Ie i) t Z H Q:=by unfold tBM;exact J3 e ⟨.inl ⟨rfl,_,SqL.of h⟩,g⟩
theorem oO{l:Addr}{y:V}(h:H l=some (.lst xs))(hz:xs.length<sizeLine)(q:Q .non (upd H l (.lst (xs++[y])))):Q8 (.ref l) [y] H Q:=⟨l,xs,y,rfl,rfl,h,hz,q⟩
theorem R0{g:TG}{tb:TS}{D:Ends}(h:wi Z H fun J H1=>∃W:Nat->Nat->St->Hp->Prop,(∃m,W 0 m Z H1)/\∀i m Z H,W i m Z H->
 (J.stop i H/\D.nx Z H)\/(J.go i H/\∃N:St->Hp->Prop,(∀Z' H',N Z' H'->∃m',m'<m/\W (i+1) m' Z' H')/\∀x H',J.yld i H x H'->g x Z H' fun σ2 H2=>tb { D with nx:=N,ct:=N,bk:=D.nx } σ2 H2)):ABu wi g tb D Z H:=h
theorem K8{tl:TE}{R:It->Hp->Prop}(h:tl Z H fun x H1=>∃a,x=.ref a/\(∃xs,SqL K H1 a xs)/\R (Itl K a) H1):yG K tl Z H R:=h
theorem xY{tl:TE}{R:It->Hp->Prop}(h:tl Z H fun x H1=>∃a,x=.ref a/\(∃xs,SqT K H1 a xs)/\R (Itt K a) H1):vZ K tl Z H R:=h
theorem wG{a b:Nat}:decide (V.int (a:Int)=V.int (b:Int))=decide (a=b):=by
 rw[ko,decide_eq_true_eq,decide_eq_true_eq,V.int.injEq];lia
theorem iW{l f:Nat}:V.int ((l:Int)%(f:Int))=V.int 0<->f∣l:=by
 rw[<-Zp,V.int.injEq,Nat.dvd_iff_mod_eq_zero];lia
theorem Fp{H':Hp}{l:Addr}{o:HO}(h:H l=none)(s:BR H H'):BR H (upd H' l o):=fun b u e=>by
 rw[BP (Bx e h)];exact s b u e
end
def AEc(h:Heap)(e:Addr)(cls:Value)(dd:Option Addr)(head:Value):Prop:=∃vs sl,h.get? e=some ⟨cls,dd,.fields vs,sl⟩/\vs[1]?=some head
def XTr(h base:Heap)(e:Addr)(cls:Value)(dd:Option Addr)(fl:Value):Prop:=∃T,AEc h e cls dd (.ref T)/\base.get? T=none/\T≠e/\∃oT ts,h.get? T=some oT/\oT.data=.fields ts/\ts[3]?=some fl
structure Sea(base:Heap)(l:List Env)(e:Addr)(h:Heap):Prop where
 stays:base.StaysIn h
 new:base.get? e=none
 frames:h.FunFrames base l
section
variable{M:Model}{A:Around}{E:Value->Shared->Prop}{s:Shared}{base:Heap}{env:Env}{outer l:List Env}{L e:Addr}{cls:Value}{dd:Option Addr}
end
def Old(fs:List Addr)(H:Hp)(h B:Heap):Prop:=∀b u,h.get? b=some u->b∉fs->∃u',B.get? b=some u'/\(H b=none->u'=u)
def Tra(H:Hp)(h B:Heap):Prop:=∀b o,H b=some o->∃u,h.get? b=some u/\B.get? b=some u
section
variable{P:Program}{w:World}{fs:List Addr}{H H':Hp}{h h1 h2 B:Heap}
end
def CX1(P:Program)(w:World):CXT:=fun outer H s E e s'=>∃(ea:Addr) (cls:Value) (dx:Option Addr) (B:Heap) (H':Hp),e=.ref ea/\s'.os=s.os/\AllBare s'.gens/\Un (frs outer) [] H H' s.heap s'.heap/\
 HOk P w H' s'.heap/\Sea B outer ea s'.heap/\XTr s'.heap B ea cls dx .none/\Old (frs outer) H s.heap B/\Tra H' s'.heap B/\E cls dx H'
section
variable{X:Cx}{pins:List (Addr×Obj)}{Z:St}{H H':Hp}{s:Shared}
end
section
variable{P:Program}{w:World}{K:Fr}{mg:Str->Option Value}{base:Heap}
end
structure AEm(P:Program)(w:World)(K:Fr)(mg:Str->Option Value)(base:Heap)(k:Nat)(x:Str)(ps:List Str)(sp:Sp):Prop where
 ex:∃(f:Addr) (fd:FuncData),Ex P w K mg base (CX1 P w) k f fd ps sp/\Binds K fd ps []/\PySem.W.keepIn K (.ref f)=true/\mg x=some (.ref f)
section
variable{X:Cx}{EE:Value->Option Addr->St->Hp->Prop}
end
noncomputable def ABf(a:Addr)(cls:Value)(dx:Option Addr):HO:=.ext fun h=>∃vs sl,h.get? a=some ⟨cls,dx,.fields vs,sl⟩
section
variable{X:Cx}{pins:List (Addr×Obj)}{Z:St}{H:Hp}{s:Shared}{ea:Addr}{cls:Value}{dx:Option Addr}
end
section
variable{X:Cx}{pins:List (Addr×Obj)}{Z:St}{H:Hp}{s:Shared}
end
section
variable{X:Cx}
end
section
variable{prog:Program}{w:World}{A:Around}{E:Value->Shared->Prop}{s:Shared}{K:Fr}{x D:Addr}{ox:Obj}{odo:Option Obj}{name:Str}
structure ABZ(K:Fr)(D:Addr):Prop where
 ga:PySem.W.findIn K (.ref D) "__getattribute__"=some (some (.builtin "BaseException.__getattribute__"))
 gk:PySem.W.findIn K (.ref D) "__getattr__"=some none
 be:PySem.W.mroIn K D (.type "BaseException")=some true
 ob:PySem.W.mroIn K D (.type "object")=some true
 ca:PySem.W.findIn K (.ref D) "__class__"=some (some (.builtin "object.__class__"))
 cl:(PySem.W.clsIn K D).isSome=true
 sp:PySem.W.specialIn K (.builtin "object.__class__") "__get__"=some (some (.builtin "getset_descriptor.__get__"))
 tk:PySem.W.takesIn K (.builtin "object.__class__")=some true
end
section
variable{X:Cx}
end
structure Wc(k:Nat)(A:Around):Prop where
 dp:A.depth+3*k+5<recursionLimit
 un:A.units+16*k+200<cLine
 gd:A.guards=some []
theorem Dy.toN{k:Nat}{A:Around}(r:Dy k A):Wc k A:=⟨r.dp,r.un,r.gd⟩
section
variable{P:Program}{w:World}{K:Fr}{mg:Str->Option Value}{base:Heap}
end
section
variable{X:Cx}
end
theorem G9(a:Addr):RelV (.ref a) (.ref a):=rfl
variable{sp:Sp}
section
variable{X:Cx}
end
section
variable{prog:Program}{w:World}{A:Around}{E:Value->Shared->Prop}{h:Heap}{g:Array GenState}{d:Drawn}{t:Nat}{os:OsState}{K:Fr}{f:Addr}
variable{nm q:Str}{C N:Addr}{bs bm:List Value}{hdct:Bool}{sn:List Str}{sub:List Value}{ab:Bool}{col:Option Bool}{dd:Option Addr}{k0 k1 k2 k3 k5:Option Value}
end
section
variable{prog:Program}{w:World}{A:Around}{E:Value->Shared->Prop}{h:Heap}{g:Array GenState}{d:Drawn}{t:Nat}{os:OsState}{K:Fr}{e:Addr}
variable{nm q:Str}{C N:Addr}{bs bm:List Value}{hdct:Bool}{sn:List Str}{sub:List Value}{ab:Bool}{col:Option Bool}{dd:Option Addr}{k0 k1 k2 k3 k5:Option Value}{newId:String}
variable{x CF:Addr}{cd:ClassData}{name:Str}{v:Value}{vs:Array Value}{sl:Array (Option Value)}
end
section
variable{K:Fr}{C CF:Addr}{h:Heap}
end
section
variable{X:Cx}{pins:List (Addr×Obj)}{Z:St}{H:Hp}{s:Shared}{h':Heap}
variable{o value:Expr}{f:Str}{pos pos':Pos}{ta tv:TE}
end
section
variable{M:Model}{A:Around}{E:Value->Shared->Prop}
end
section
variable{X:Cx}{EE:Value->Option Addr->St->Hp->Prop}
end
noncomputable def DY(i:Int):Str:=Str.ofString (toString i)
noncomputable def shI(is:List Int):Str:=tupleText (is.map DY)
inductive rY(K:Fr)(H:Hp):V->Str->Prop
 | int {i:Int}:i.natAbs.log2<1920->rY K H (.int i) (DY i)
 | str {z:Str}:z.length<=sizeLine->rY K H (.str z) z
 | tup {a:Addr} {is:List Int}:SqT K H a (is.map V.int)->(∀i∈is,i.natAbs.log2<1920)->(shI is).length<=sizeLine->rY K H (.ref a) (shI is)
theorem shownAll_ints:∀is:List Int,PyData.shownAll (is.map PyData.int)=is.map DY
 | []=>by simp[PyData.shownAll]
 | i::is=>by simp only[zv,PyData.shownAll,PyData.shown,shownAll_ints is];rfl
theorem showableAll_ints:∀is:List Int,(∀i∈is,i.natAbs.log2<1920)->PyData.showableAll (is.map PyData.int)=true
 | [],_=>by simp[PyData.showableAll]
 | i::is,h=>by
  simp only[zv,PyData.showableAll,PyData.showable,showableAll_ints is fun j hj=>h j (qk _ hj),Bool.and_true,decide_eq_true_eq];exact h i (qf ..)
theorem Jr:∀is:List Int,PyData.hasDictAll (is.map PyData.int)=false
 | []=>by simp[PyData.hasDictAll]
 | i::is=>by simp only[zv,PyData.hasDictAll,PyData.hasDict,Jr is,Bool.or_self]
theorem depthAll_ints:∀is:List Int,PyData.depthAll (is.map PyData.int)<=1
 | []=>by simp[PyData.depthAll]
 | i::is=>by
  have:=depthAll_ints is;simp only[zv,PyData.depthAll,PyData.depth];lia
theorem readsAll_ints{h:Heap}:∀{is:List Int} {us:List Value},Vals (is.map V.int) us->ReadsAll h us (is.map PyData.int) []
 | [],_,.nil=>.nil
 | i::is,_,.cons r t=>by
  obtain⟨tk,rfl⟩:=(show ∃tk,_=Value.int i tk from r);exact .cons (as:=[]) (bs:=[]) (.int i tk) (readsAll_ints t)
section
variable{X:Cx}{pins:List (Addr×Obj)}{Z:St}{H:Hp}{s:Shared}
theorem AAx{k:Nat}{x:V}{u:Value}{y:Str}(hr:Wc k X.A)(I:Inv X pins Z H s)(r:RelV x u)(f:rY X.K H x y)(q:Q (.str y) H):wpAny (model X.prog X.w) X.A (formatField u Str.empty) (EP X pins Z Q) X.xe s:=by
 cases f with
 | int h=>
  obtain⟨t,rfl⟩:=(show ∃t,u=Value.int _ t from r);exact wpAny_formatField_int h ⟨.str (DY _),H,I.tok _,⟨_,rfl⟩,q⟩
 | str h=>
  obtain⟨t,rfl⟩:=(show ∃t,u=Value.str y t from r);exact wpAny_formatField_str ⟨.str y,H,I,⟨_,rfl⟩,q⟩ ⟨.str y,H,I.tok _,⟨_,rfl⟩,q⟩ h
 | @tup a is hs hi hz=>
  cases (show u=Value.ref a from r);obtain⟨its,vr,⟨o,ho,hc,n,hd⟩,hl⟩:=I.tuple hs;have rd:Reads s.heap (.ref a) (.tuple (is.map PyData.int)) []:=.tuple ho hc hd (readsAll_ints vr);have e:(PyData.tuple (is.map PyData.int)).shown=shI is:=by simp only[PyData.shown,shownAll_ints];rfl
  have hdp:(PyData.tuple (is.map PyData.int)).depth<=3:=by
   have:=depthAll_ints is;simp only[PyData.depth];lia
  refine formatField_of_reads rd (by simp only[PyData.showable];exact showableAll_ints is hi) (PyData.noDict_hsm (by simp only[PyData.hasDict];exact Jr is)) hr.gd (by have:=hr.un;lia) (fun _ _ z=>z) (fun h' u tk hk=>?_) (by rw[e];exact hz);rw[e];exact⟨.str (shI is),H,I.kept hk,⟨_,rfl⟩,q⟩
end
def mQ(K:Fr)(tv:TE):TE:=fun Z H Q=>tv Z H fun x H1=>∃y,rY K H1 x y/\Q (.str y) H1
noncomputable abbrev TJ:=Str->St->Hp->VK->Prop
def PJ(X:Cx)(es:List Expr)(t:TJ):Prop:=∀ ⦃pins:List (Addr×Obj)⦄ (s:Shared) (Z:St) (H:Hp) (out:Str) (Q:VK),Inv X pins Z H s->t out Z H Q->wpAny (model X.prog X.w) X.A (joinParts out (evalEach es X.env)) (EP X pins Z Q) X.xe s
def ADH:TJ:=fun out _ H Q=>out.length<=sizeLine/\Q (.str out) H
def Vv(te:TE)(t:TJ):TJ:=fun out Z H Q=>te Z H fun x H1=>∃y,x=.str y/\(out++y).length<=sizeLine/\t (out++y) Z H1 Q
def xP(t:TJ):TE:=fun Z H Q=>t Str.empty Z H Q
section
variable{X:Cx}{k:Nat}{e e₂:Expr}{es:List Expr}{te:TE}{t:TJ}{pos:Pos}
theorem JR(hr:Wc k X.A)(h:PE X e te):PE X (.FormattedValue e (-1) none pos) (mQ X.K te):=by
 intro pins s Z H Q I hw;refine FormattedValue_plain (thn (h s Z H _ I hw) fun u s1 hZ=>?_);obtain⟨x,H1,I1,r,y,f,q⟩:=hZ;exact AAx hr I1 r f q
theorem Lf:PJ X [] ADH:=fun pins s Z H out Q I h=>joinParts_nil ⟨.str out,H,I.tok _,⟨_,rfl⟩,h.2⟩ h.1
theorem DW(h1:PE X e te)(h2:PJ X es t):PJ X (e::es) (Vv te t):=by
 intro pins s Z H out Q I h;show wpAny _ _ (joinParts out (eval e X.env::evalEach es X.env)) _ _ _;refine joinParts_cons (thn (h1 s Z H _ I h) fun u s1 hZ=>?_);obtain⟨x,H1,I1,r,y,ex,hz,q⟩:=hZ;subst ex;obtain⟨tk,rfl⟩:=(show ∃tk,u=Value.str y tk from r);exact⟨hz,h2 s1 Z H1 (out++y) Q I1 q⟩
theorem JQ(h:PJ X (e::e₂::es) t):PE X (.JoinedStr (e::e₂::es) pos) (xP t):=fun pins s Z H Q I hw=>JoinedStr_many (h s Z H Str.empty Q I hw)
end
def xK(K:Fr)(ta:TE)(f:Str):TE:=fun Z H Q=>ta Z H fun x H1=>∃a C d fs v,x=.ref a/\H1 a=some (ABf a (.ref C) (some d))/\H1 d=some (.xd fs)/\ABZ K C/\PySem.W.hasDictIn K C=true/\PySem.W.findIn K (.ref C) f=some none/\fs.lookup f=some v/\Q v H1
section
variable{X:Cx}{e:Expr}{f:Str}{pos:Pos}{ta:TE}
end
section
variable{X:Cx}{EE:Value->Option Addr->St->Hp->Prop}
structure lO(P:Program)(w:World)(K:Fr)(mg:Str->Option Value)(base:Heap)(CX:CXT)(k:Nat)(C:Addr)(m:Str)(ps:List Str)(sp:Sp):Prop where
 ex:∃(f:Addr) (fd:FuncData),Ex P w K mg base CX k f fd ps sp/\Binds K fd ps []/\Meth K C m f
structure lQ(P:Program)(w:World)(K:Fr)(mg:Str->Option Value)(base:Heap)(CX:CXT)(k:Nat)(x:Str)(C:Addr)(ps:List Str)(sp:Sp):Prop where
 ex:∃(f:Addr) (fd:FuncData),Ex P w K mg base CX k f fd ps sp/\Binds K fd ps []/\Mk K C f/\mg x=some (.ref C)
variable{C:Addr}{m x:Str}{k:Nat}{ps:List Str}{sp:Sp}{o e:Expr}{es:List Expr}{ta:TE}{t:TA}{apos pos p:Pos}
theorem DX{pl:Sem Bool}(O:lO X.prog X.w X.K X.mg X.base CX0 k C m ps sp)(c:Cls X.K C)(he:PE X o ta)(ha:PA X (e::es) t)(hr:Dy k X.A:=by walk_at"hr")
 (hst:‹starEach (e::es) X.env=(false,eval e X.env)::starEach es X.env›)(hpl:‹(backTo pos (starEach es X.env)).any (·.1)=false›)
 (ht:‹eval (.Call (.Attribute o m apos) (e::es) [] pos) X.env=(do
  let ov <-eval o X.env
  standAt apos.atName
  let (f,first) <-holding [ov] (getMethod ov m pl)
  callWith pos f first (backTo pos (starEach (e::es) X.env)) (backToKw pos (keywordEach [] X.env)))›):
 PE X (.Call (.Attribute o m apos) (e::es) [] pos) (Yk C m sp [] E0 ta t):=by
 obtain⟨f,fd,F,hb,M⟩:=O.ex;exact uq (pl:=pl) he c M F hr hb .nil Mr ha hst hpl ht
theorem Cv{pl:Sem Bool}(O:lO X.prog X.w X.K X.mg X.base CX0 k C m ps sp)(c:Cls X.K C)(he:PE X o ta)(hr:Dy k X.A:=by walk_at"hr")
 (ht:‹eval (.Call (.Attribute o m apos) [] [] pos) X.env=(do
  let ov <-eval o X.env
  standAt apos.atName
  let (f,first) <-holding [ov] (getMethod ov m pl)
  callWith pos f first (backTo pos (starEach [] X.env)) (backToKw pos (keywordEach [] X.env)))›):
 PE X (.Call (.Attribute o m apos) [] [] pos) (Yk C m sp [] E0 ta MF):=by
 obtain⟨f,fd,F,hb,M⟩:=O.ex;exact oh (pl:=pl) he c M F hr hb .nil Mr ht
theorem GQ(O:lQ X.prog X.w X.K X.mg X.base CX0 k x C ps sp)(ha:PA X (e::es) t)(hr:Dy (k+1) X.A:=by walk_at"hr")(hg:Gl X x:=by exact rfl)
 (hdb:(x==("__debug__":Str))=false:=by decide)(he:‹starEach (e::es) X.env=(false,eval e X.env)::starEach es X.env›)(hpl:‹(backTo pos (starEach es X.env)).any (·.1)=false›):
 PE X (.Call (.Name x p) (e::es) [] pos) (Vc C sp [] E0 t):=by
 obtain⟨f,fd,F,hb,M,hm⟩:=O.ex;exact fX M F hr hg hm hb .nil Mr ha hdb he hpl
end
theorem KY{i:Int}(h:i.natAbs.log2<1920):(DY i).length<=1921:=by
 have e:=int_text_length_le (k:=1920) nofun h;unfold DY;rw[PySem.ofString_length];lia
theorem fits{s:Str}{n:Nat}(h:s.length<=n)(hn:n<=100000):s.length<=sizeLine:=zo h (zo hn nofun)
theorem JH{out:Str}(h:out.length<=sizeLine)(q:Q (.str out) H):ADH out Z H Q:=⟨h,q⟩
theorem Jm{t:TJ}{out:Str}(n:Nat)(hn:out.length<=n)(hz:n+x.length<=100000)(h:(out++x).length<=n+x.length->t (out++x) Z H Q):Vv (tC (.str x)) t out Z H Q:=by
 have e:(out++x).length<=n+x.length:=by rw[strLen_append];lia
 exact⟨x,rfl,fits e hz,h e⟩
theorem PP{j:Nat}{i:Int}{t:TJ}{out:Str}(n:Nat)(hn:out.length<=n)(hz:n+1921<=100000)(hv:Z[j]?=some (some (.int i)))(hi:i.natAbs.log2<1920)(h:(out++DY i).length<=n+1921->t (out++DY i) Z H Q):
 Vv (mQ K (Ie j)) t out Z H Q:=by
 have e:(out++DY i).length<=n+1921:=by have:=KY hi;rw[strLen_append];lia
 unfold Vv mQ;exact J3 hv ⟨DY i,.int hi,DY i,rfl,fits e hz,h e⟩
theorem ACf{j:Nat}{z:Str}{t:TJ}{out:Str}(n m:Nat)(hn:out.length<=n)(hm:z.length<=m)(hz:n+m<=100000)(hv:Z[j]?=some (some (.str z)))(h:(out++z).length<=n+m->t (out++z) Z H Q):
 Vv (mQ K (Ie j)) t out Z H Q:=by
 have e:(out++z).length<=n+m:=by rw[strLen_append];lia
 unfold Vv mQ;exact J3 hv ⟨z,.str (fits hm ⋯),z,rfl,fits e hz,h e⟩
section
variable{X:Cx}
theorem Rz{t:TT}{ta tb:TE}(h:t Z H fun c H1=>if c=true then ta Z H1 Q else tb Z H1 Q):tIf t ta tb Z H Q:=h
def ADx(K:Fr):List V->Hp->VK->Prop:=fun xs H Q=>∃(p:Addr) (ns:List Int),xs=[.ref p]/\SqL K H p (ns.map V.int)/\Q (.int ns.sum) H
theorem M7(hc:X.calm=true):Hv X (.builtin "sum") (ADx X.K):=by
 intro pins s Z H xs us Q I r h;obtain⟨p,ns,rfl,hq,q⟩:=h;obtain⟨u,rfl,ru⟩:=vals1 r;cases (show u=Value.ref p from ru);obtain⟨its,rv,pl,_⟩:=I.list hq;have hi:=intsAre_of rv;obtain⟨xs,hx⟩:=hi.allInts.items;have hl':s.heap.IsList p (intItems xs):=hx ▸ pl.isList;refine sum_intListG (I.ok.hd hc) hl' fun h' tk t' hk=>?_;have e1:ns=xs.toList.map (·.1):=by
  rw[<-nums_intItems,<-hx];exact(show numsOf its.toArray.toList=ns from hi.numsOf).symm
 have e2:preSum (numAt xs) xs.size=ns.sum:=by
  rw[preSum_eq,va (by simp),e1]
 rw[e2];exact⟨.int ns.sum,H,I.kept hk,⟨_,rfl⟩,q⟩
def ACk(K:Fr):List V->Hp->VK->Prop:=fun xs H Q=>∃(p:Addr) (ns:List Int),xs=[.ref p]/\SqL K H p (ns.map V.int)/\ns≠[]/\∀m,m∈ns->(∀a∈ns,m<=a)->Q (.int m) H
def ACl(K:Fr):List V->Hp->VK->Prop:=fun xs H Q=>∃(p:Addr) (ns:List Int),xs=[.ref p]/\SqL K H p (ns.map V.int)/\ns≠[]/\∀m,m∈ns->(∀a∈ns,a<=m)->Q (.int m) H
theorem lD(hc:X.calm=true):Hv X (.builtin "min") (ACk X.K):=by
 intro pins s Z H xs us Q I r h;obtain⟨p,ns,rfl,hq,hne,q⟩:=h;obtain⟨u,rfl,ru⟩:=vals1 r;cases (show u=Value.ref p from ru);obtain⟨its,rv,pl,_⟩:=I.list hq;have hi:=intsAre_of rv;obtain⟨xs,e⟩:=hi.allInts.items;have hns:ns=xs.toList.map (·.1):=by
  rw[<-nums_intItems,<-e];exact(show numsOf its.toArray.toList=ns from hi.numsOf).symm
 have hsz:0<xs.size:=by
  have h3:=List.length_pos_iff.mpr hne;rw[hns,js,kr] at h3;exact h3
 have hl':s.heap.IsList p (intItems xs):=e ▸ pl.isList;refine min_intList (I.ok.hd hc) hl' hsz fun v h' tk hv hk=>?_;obtain⟨t,rfl⟩:=intItems_at hv;obtain⟨h1,h2⟩:=argBest_lt (numAt xs) (xs.size-1);refine⟨.int _,H,I.kept hk,⟨_,rfl⟩,q _ ?_ fun a ha=>?_⟩
 ·rw[hns,numAt_eq];exact getD_mem (by rw[js,kr];lia)
 ·rw[hns] at ha;obtain⟨j,hj,rfl⟩:=mem_getD ha;rw[js,kr] at hj;rw[<-numAt_eq];exact h2 j ⋯
theorem lE(hc:X.calm=true):Hv X (.builtin "max") (ACl X.K):=by
 intro pins s Z H xs us Q I r h;obtain⟨p,ns,rfl,hq,hne,q⟩:=h;obtain⟨u,rfl,ru⟩:=vals1 r;cases (show u=Value.ref p from ru);obtain⟨its,rv,pl,_⟩:=I.list hq;have hi:=intsAre_of rv;obtain⟨xs,e⟩:=hi.allInts.items;have hns:ns=xs.toList.map (·.1):=by
  rw[<-nums_intItems,<-e];exact(show numsOf its.toArray.toList=ns from hi.numsOf).symm
 have hsz:0<xs.size:=by
  have h3:=List.length_pos_iff.mpr hne;rw[hns,js,kr] at h3;exact h3
 have hl':s.heap.IsList p (intItems xs):=e ▸ pl.isList;refine max_intList (I.ok.hd hc) hl' hsz fun v h' tk hv hk=>?_;obtain⟨t,rfl⟩:=intItems_at hv;obtain⟨h1,h2⟩:=argBest_gt (numAt xs) (xs.size-1);refine⟨.int _,H,I.kept hk,⟨_,rfl⟩,q _ ?_ fun a ha=>?_⟩
 ·rw[hns,numAt_eq];exact getD_mem (by rw[js,kr];lia)
 ·rw[hns] at ha;obtain⟨j,hj,rfl⟩:=mem_getD ha;rw[js,kr] at hj;rw[<-numAt_eq];exact h2 j ⋯
end
section
variable{X:Cx}{M:List Str}{x:Str}{scope:Scope}{cl:List (Str×Addr)}{C:Addr}{s₀:Shared}{H₀:Hp}{fp:List Addr}
theorem ju:IxR (JX X M x scope cl C s₀ H₀ fp) (um X.K):=Gv
theorem HH:IxR (JX X M x scope cl C s₀ H₀ fp) (uh X.K):=Lr
end
section
variable{X:Cx}{tg:Expr}
def AAv(ta:TA):TI:=fun Z H R=>ta Z H fun vs H1=>∃i j:Int,vs=[.int i,.int j]/\R (Itr i (j-i).toNat) H1
theorem oF{R:It->Hp->Prop}(h:ta Z H fun vs H1=>∃i j:Int,vs=[.int i,.int j]/\R (Itr i (j-i).toNat) H1):AAv ta Z H R:=h
end
section
variable{X:Cx}
def xg:V->List V->Hp->VK->Prop:=fun x vs H Q=>∃n:Int,x=.int n/\vs=[]/\Q (.int ((Builtin.Int.intBits n:Nat):Int)) H
theorem gC:MtR X "int.bit_length" xg:=by
 intro pins s Z H x vs v us Q I rx rv h;obtain⟨n,rfl,rfl,q⟩:=h;obtain⟨t,rfl⟩:=rx;cases rv.zero;exact call_int_bit_length ⟨.int _,H,I.tok _,⟨_,rfl⟩,q⟩
end
theorem oN{n:Int}(h:Q (.int ((Builtin.Int.intBits n:Nat):Int)) H):tyV K "int" (.int n) H/\xg (.int n) [] H Q:=⟨rfl,n,rfl,rfl,h⟩
theorem Jo{T:String}{r:V->List V->Hp->VK->Prop}{to:TE}{t:TA}(h:to Z H fun x H1=>tyV K T x H1/\t Z H1 fun xs H2=>r x xs H2 Q):tBM K T r to t Z H Q:=h
theorem Og{i:Nat}{t:TA}{l:Addr}(e:Z[i]?=some (some (.ref l)))(h:H l=some (.lst xs))
 (g:t Z H fun ys H2=>Q7 (.ref l) ys H2 Q):tBM K "list" Q7 (Ie i) t Z H Q:=by unfold tBM;exact J3 e ⟨.inl ⟨rfl,_,SqL.of h⟩,g⟩
theorem Ph{b:Nat}(h:b≠0):Builtin.Int.intBits (b:Int)=b.log2+1:=by
 unfold Builtin.Int.intBits;rw[xy (by simp;lia),jl8]
theorem dW{b:Nat}(h:b≠0):Builtin.bitAnd (b:Int) (-(b:Int))=(b:Int)-((b &&& (b-1):Nat):Int):=by
 unfold Builtin.bitAnd;rw[decide_eq_true (jl9 b),decide_eq_false ⋯];show(b:Int)-(((b:Int).toNat &&& (Builtin.bitNot (-(b:Int))).toNat:Nat):Int)=_;unfold Builtin.bitNot;rw[zw,show(-(-(b:Int))-1).toNat=b-1 by lia]
theorem vY{m k:Nat}(h:k<m):ixN m (k:Int)=some k:=by
 unfold ixN;rw[xp ⋯,xp ⋯,zw]
theorem fK{p:Addr}{k:Nat}{v:V}{Q:Hp->Prop}(h:H p=some (.lst xs))(hk:k<xs.length)(q:Q (upd H p (.lst (xs.set k v)))):xZ (.ref p) (.int (k:Int)) v H Q:=
 ⟨p,xs,k,k,rfl,rfl,h,vY hk,q⟩
theorem bj{l:Addr}{k:Int}(h:H l=some (.lst xs))(h0:0<=k)(h1:k<2^60)(hz:xs.length*k.toNat<=sizeLine)(q:∀p,H p=none->Q (.ref p) (upd H p (.lst (List.replicate k.toNat xs).flatten))):ACj (.ref l) (.int k) H Q:=
 ⟨l,k,xs,rfl,rfl,h,⋯,⋯,hz,q⟩
theorem zy{l b:Addr}{zs:List V}(h:H l=some (.lst xs))(g:H b=some (.lst zs))(hz:xs.length+zs.length<=sizeLine)(q:∀p,H p=none->Q (.ref p) (upd H p (.lst (xs++zs)))):ACm (.ref l) (.ref b) H Q:=
 ⟨l,b,xs,zs,rfl,rfl,h,g,hz,q⟩
theorem TF{lo c:Int}{n:Nat}{g:TG}{tb:TS}{D:Ends}(Pv:Nat->St->Hp->Prop)(h0:Pv 0 Z H)
 (hs:∀i Z H,i<n->Pv i Z H->g (.int (lo+i*c)) Z H fun σ2 H2=>tb { D with nx:=Pv (i+1),ct:=Pv (i+1),bk:=D.nx } σ2 H2)(hd:∀Z H,Pv n Z H->D.nx Z H):
 ∃W:Nat->Nat->St->Hp->Prop,(∃m,W 0 m Z H)/\∀i m Z H,W i m Z H->
  ((lM lo c n).stop i H/\D.nx Z H)\/((lM lo c n).go i H/\∃N:St->Hp->Prop,(∀Z' H',N Z' H'->∃m',m'<m/\W (i+1) m' Z' H')/\∀x H',(lM lo c n).yld i H x H'->g x Z H' fun σ2 H2=>tb { D with nx:=N,ct:=N,bk:=D.nx } σ2 H2):=by
 refine⟨fun i m Z H=>m=n-i/\i<=n/\Pv i Z H,⟨n,by simp,ka _,h0⟩,?_⟩;rintro i m Z H ⟨rfl,hi,p⟩;by_cases hlt:i<n
 ·refine .inr ⟨hlt,Pv (i+1),fun Z' H' p'=>⟨n-(i+1),⋯,rfl,hlt,p'⟩,fun x H' y=>?_⟩;obtain⟨e,y⟩:=y;subst e y;exact hs i Z _ hlt p
 ·have e:i=n:=⋯
  subst e;exact .inl ⟨qo _,hd Z H p⟩
theorem JL{i j c:Int}(c0:0<c):Builtin.Range.rangeSize i j c=if i<j then (j-i-1)/c+1 else 0:=by
 unfold Builtin.Range.rangeSize;rw[xp c0]
def xM(ta:TE):TT:=fun Z H Q=>ta Z H fun x H'=>∃i:Int,x=.int i/\Q (i != 0) H'
theorem uZ{i:Int}{Q:Bool->Hp->Prop}(h:Q (i != 0) H):∃j:Int,V.int i=.int j/\Q (j != 0) H:=⟨i,rfl,h⟩
theorem AAP{X:Cx}{a:Expr}{ta:TE}(ha:PE X a ta)(he:∀whole,isTrue a X.env whole=(do let v <-whole;standAt a.pos;holding [v] (truthy v))):PT X a (xM ta):=by
 intro pins s Z H Q I h;refine isTrue_plain (thn (ha s Z H _ I h) fun v s1 hZ=>?_) (he _);obtain⟨x,H1,I1,r1,q1⟩:=hZ;obtain⟨i,rfl,q⟩:=q1;exact yh pins s1 Z H1 _ v Q I1 r1 ⟨_,rfl,q⟩
section
variable{X:Cx}{M:List Str}{x:Str}{scope:Scope}{cl:List (Str×Addr)}{C:Addr}{s₀:Shared}{H₀:Hp}{fp:List Addr}
theorem Tj:Hv (JX X M x scope cl C s₀ H₀ fp) (.builtin "len") (fun xs H Q=>∃p ys,xs=[.ref p]/\(SqL X.K H p ys\/SqT X.K H p ys)/\Q (.int ys.length) H):=Bl
end
theorem ABU{xs:List Int}{k:Nat}{x:Int}(h:xs[k]?=some x):(xs.map V.int)[k]?=some (V.int x):=by rw[xo,h];rfl
theorem Gg{a:Addr}{lo hi:Option Int}(h:SqL K H a xs)(q:∀p,H p=none->Q (.ref p) (upd H p (.lst (Ij xs lo hi)))):ACi K (.ref a) lo hi H Q:=⟨a,xs,rfl,h,q⟩
theorem kh(xs:List Int)(k:Nat):Ij (xs.map V.int) (some (k:Int)) none=(xs.drop k).map V.int:=by
 unfold Ij;rw[HT.sIx_nat,HT.sIx_none,js,List.map_drop];by_cases h:k<=xs.length
 ·rw[jm6 h,va (by rw[jb3,js];lia)]
 ·rw[ju7 ⋯,uu (by rw[js];lia),uu (by rw[js];lia),List.take_nil]
theorem zx{i:Int}{P:Int->Prop}(h:P i):∃j,V.int i=.int j/\P j:=⟨i,rfl,h⟩
section
variable{X:Cx}
def tLR(ta:TA):TE:=fun Z H Q=>ta Z H fun vs H1=>∃(i j c:Int) (n:Nat),(vs=[.int i,.int j,.int c]\/(vs=[.int i,.int j]/\c=1))/\0<c/\c<1073741824/\Builtin.Range.small i j c=true/\Builtin.Range.rangeSize i j c=(n:Int)/\n<=1000000/\
 ∀l,H1 l=none->Q (.ref l) (upd H1 l (.lst ((List.range n).map fun(k:Nat)=>V.int (i+(k:Int)*c))))
theorem Hq{lo c:Int}:∀(acc:List Value) (k:Nat),(∀(j:Nat) (v:Value),acc[j]?=some v->∃t,v=.int (lo+((k+j:Nat):Int)*c) t)->Vals ((List.range' k acc.length).map fun(i:Nat)=>V.int (lo+(i:Int)*c)) acc
 | [],k,_=>.nil
 | v::acc,k,h=>by
  rw[qr,ju5,zv];refine .cons ?_ (Hq acc (k+1) fun j u hu=>?_)
  ·obtain⟨t,ht⟩:=h 0 v (by simp);exact⟨t,by rw[ht];simp⟩
  ·obtain⟨t,ht⟩:=h (j+1) u (by simpa using hu);exact⟨t,by rw[ht,show k+(j+1)=k+1+j by lia]⟩
theorem LC{pins:List (Addr×Obj)}{s:Shared}{r:Addr}{i j c:Int}{t u v:Tok}{n:Nat}(hc:X.calm=true)(I:Inv X pins Z H s)(hr:IsRange s.heap r i j c t u v)(sm:Builtin.Range.small i j c=true)(hn:Builtin.Range.rangeSize i j c=(n:Int))(hz:n<=1000000)
 (q:∀l,H l=none->Q (.ref l) (upd H l (.lst ((List.range n).map fun(k:Nat)=>V.int (i+(k:Int)*c))))):wpAny (model X.prog X.w) X.A (call (.type "list") [.ref r]) (EP X pins Z Q) X.xe s:=by
 refine call_list_range (I.ok.hd hc) hr sm hn ⋯ fun h' tk acc' c' hk hS' hacc=>?_;have ha:acc'.toList.length=n:=by simpa using hacc.1
 refine⟨.ref _,_,I.laid (a:=s.heap.objs.size) (o:=.lst ((List.range n).map fun(k:Nat)=>V.int (i+(k:Int)*c))) hk (qo _) ⟨?_,acc'.toList,c',?_,by simpa using hS'⟩,rfl,q _ I.fresh⟩
 ·rw[js,vt,sizeLine_eq];lia
 ·have:=Hq (lo:=i) (c:=c) acc'.toList 0 fun j v hv=>by rw[jo7];exact hacc.2 j v (by simpa using hv)
  rw[ha,<-List.range_eq_range'] at this;exact this
theorem cH{a b d:Expr}{p p2 pos2:Pos}(hc:X.calm=true)(hgl:Gl X "list")(hml:X.mg "list"=none)(hgr:Gl X "range")(hmr:X.mg "range"=none)(ha:PA X [a,b,d] ta)
 (hs:‹starEach [a,b,d] X.env=(false,eval a X.env)::starEach [b,d] X.env›)(hpl:‹(backTo pos2 (starEach [b,d] X.env)).any (·.1)=false›)
 (hs1:‹starEach [.Call (.Name "range" p2) [a,b,d] [] pos2] X.env=(false,eval (.Call (.Name "range" p2) [a,b,d] [] pos2) X.env)::starEach [] X.env›):
 PE X (.Call (.Name "list" p) [.Call (.Name "range" p2) [a,b,d] [] pos2] [] pos) (tLR ta):=by
 intro pins s Z H Q I h;refine jc5 (Hs I hgl hml boot_list ?_ nofun nofun);refine vb ?_ hs1 rfl;rw[hs1];show wpAny _ _ (spliced ((false,eval _ X.env)::backTo pos (starEach [] X.env))) _ _ s;refine Calls.spliced_cons ?_;refine Call_ (Hs I hgr hmr boot_range (vb (thn (ha (pos:=pos2) pins s Z H _ I h) fun us s1 hZ=>?_) hs hpl));obtain⟨vs,H1,I1,r1,q1⟩:=hZ;obtain⟨i,j,c,n,e,c0,c1,sm,hn,hz,q⟩:=q1;rcases e with e | ⟨e,rfl⟩
 ·subst e;cases r1 with
  | cons r rr=>
   cases rr with
   | cons r' rr=>
    cases rr with
    | cons r'' rr=>
     cases rr;obtain⟨t,rfl⟩:=r;obtain⟨t',rfl⟩:=r';obtain⟨t'',rfl⟩:=r'';refine PySem.call_range_3 ⋯ ?_ (Or.inl (PyProof.noPylong_small ⋯));refine Calls.spliced_nil ?_;have I2:Inv X pins Z H1 { s1 with heap:=s1.heap.push { cls:=.type "range",data:=.fields #[.int i t,.int j t',.int c t''] },toks:=s1.toks }:=I1.kept fun b o e=>qc _ e;exact LC hc I2 (IsRange.new ..) sm hn hz q
 ·subst e;cases r1 with
  | cons r rr=>
   cases rr with
   | cons r' rr=>
    cases rr;obtain⟨t,rfl⟩:=r;obtain⟨t',rfl⟩:=r';refine call_range_2 ?_;refine Calls.spliced_nil ?_;have I2:Inv X pins Z H1 { s1 with heap:=s1.heap.push { cls:=.type "range",data:=.fields #[.int i t,.int j t',.int 1 s1.toks] },toks:=s1.toks+1 }:=I1.kept fun b o e=>qc _ e;exact LC hc I2 (IsRange.new ..) sm hn hz q
end
theorem Kc{J:It}{ok:Hp->Prop}(Wk:Walk J ok xs)(hz:xs.length<sizeLine)(Pv:Addr->Nat->List V->Hp->Prop)
 (h0:∀D,H D=none->Pv D 0 [] (upd H D (.lst [])))
 (hD:∀D i ys H2,H D=none->Pv D i ys H2->H2 D=some (.lst ys)/\ys.length<=i/\ok H2)
 (hs:∀D i x ys H2,H D=none->xs[i]?=some x->Pv D i ys H2->tt (some x::Z) H2 fun b H4=>if b=true then te (some x::Z) H4 fun y H5=>H5 D=some (.lst ys)/\Pv D (i+1) (ys++[y]) (upd H5 D (.lst (ys++[y]))) else Pv D (i+1) ys H4)
 (h:∀D ys H2,H D=none->Pv D xs.length ys H2->Q (.ref D) H2):iR tt te Z Q J H:=by
 intro D hD0;refine⟨fun i m ys H2=>i<=xs.length/\m=xs.length-i/\Pv D i ys H2,⟨_,ka _,rfl,h0 D hD0⟩,?_⟩;rintro i m ys H2 ⟨hi,rfl,p⟩;obtain⟨d1,d2,d3⟩:=hD D i ys H2 hD0 p;refine⟨d1,?_⟩;by_cases hlt:i<xs.length
 ·refine .inr ⟨Wk.go i _ d3 hlt,⋯,xs.length-(i+1),⋯,fun x H3 hy=>?_⟩;obtain⟨e3,ex⟩:=Wk.yld i _ x H3 d3 hy hlt;subst e3;have:=hs D i x ys H3 hD0 ex p;refine cast ?_ this
  congr 1
  funext b H4
  cases b with
  | false=>simp only[Bool.false_eq_true,if_false];exact propext ⟨fun z=>⟨hlt,trivial,z⟩,fun z=>z.2.2⟩
  | true=>
   simp only[if_true]
   congr 1
   funext y H5
   exact propext ⟨fun z=>⟨z.1,hlt,trivial,z.2⟩,fun z=>⟨z.1,z.2.2.2⟩⟩
 ·have e:i=xs.length:=⋯
  subst e;exact .inl ⟨Wk.stop _ _ d3 (qo _),h D ys H2 hD0 p⟩
section
variable{X:Cx}
end
theorem ZQ{k:Nat}{g:TG}(h:wi Z H (Uk k g tt te Z Q)):mV k wi g tt te Z H Q:=h
section
variable{X:Cx}{M xs:List Str}{scope:Scope}{cl:List (Str×Addr)}{C:Addr}{s₀:Shared}{H₀:Hp}{fp:List Addr}
theorem ZV{es:List Expr}{k:Nat}{t:TGs}{n:Nat}(hc:X.calm=true)(h:PGs (De X M xs scope cl C s₀ H₀ fp) es t)
 (hn:‹(assignEach es (De X M xs scope cl C s₀ H₀ fp).env).length=n›)(hst:‹(assignEach es (De X M xs scope cl C s₀ H₀ fp).env).findIdx? (·.1)=none›):PG (De X M xs scope cl C s₀ H₀ fp) (.Tuple es k pos) (qK X.K n t):=
 J5 hc h hn hst
end
structure Kq(K:Fr)(x qual:Str)(st:Stmt)(f:Addr)(fd:FuncData)(ds:Array Value):Prop where
 ex:∃(oc:Value) (od:Option Addr) (T:Addr) (to:Obj) (tn:Nat) (kV doc pm:Value) (an:Option Addr) (cdv ct:Value) (osl:Array (Option Value)),
  fd=PySem.W.fnOf x qual (FQ st) (Dm st) (BX st) (.ref T) kV doc pm an cdv ct/\K.lookup f=some ⟨oc,od,.func fd,osl⟩/\PySem.W.codeIn K cdv qual=true/\K.lookup T=some to/\to.data=.seq ds tn
 kp:PySem.W.keepIn K (.ref f)=true
section
variable{P:Program}{w:World}{K:Fr}{mg:Str->Option Value}{base:Heap}{x qual:Str}{st:Stmt}{f:Addr}{fd:FuncData}{N ps:List Str}{k:Nat}{sp:Sp}{ds:Array Value}
theorem Kq.ok(F:Kq K x qual st f fd ds)(S:DG N ps (BX st))(len:∀{vs H Q E},sp vs H Q E->vs.length=ps.length)
 (hbody:∀{cdv:Value} {A:Around} {outer:List Env} {s:Shared} (nd:N.Nodup) (H:Hp) (vs:List V) (Q:VK) (E:XK),Dy k (A.deeper (envOfC qual (BX st) s.heap.objs.size f cdv))->sp vs H Q E->
  ∃t,PSs (VG CX0 P w K mg base N qual (BX st) f cdv A outer s H E).nox (Dm st) t/\t { nx:=fun _ H'=>Q .non H',rt:=Q } (start N vs) H):Ex P w K mg base CX0 (k+1) f fd ps sp:=by
 obtain⟨oc,od,T,to,tn,kV,doc,pm,an,cdv,ct,osl,rfl,lk,hcd,_⟩:=F.ex;refine yI lk hcd S (fun _ _ _ _=>len) fun A outer s H vs Q E hr hsp=>?_;obtain⟨t,h,q⟩:=hbody S.nd H vs Q E hr hsp;exact⟨t,h.nox,q⟩
theorem Kq.bindsD{dv:List Value}(n:Nat)(hn:n+dv.length=ps.length)(F:Kq K x qual st f fd ds)
 (h:∀(T:Addr) (kV doc pm:Value) (an:Option Addr) (cdv ct:Value) (us:List Value),us.length=n->
  ∃k:Option (Array Value)->Sem (List (Str×Value)),bindArgs (PySem.W.fnOf x qual (FQ st) (Dm st) (BX st) (.ref T) kV doc pm an cdv ct) ⟨us,[]⟩=seqItems? (.ref T) >>= k/\k (some ds)=pure (ps.zip (us++dv))):Binds K fd ps dv:=by
 obtain⟨oc,od,T,to,tn,kV,doc,pm,an,cdv,ct,osl,rfl,lk,hcd,ht,hs⟩:=F.ex;intro s us KX hl;obtain⟨k,h1,h2⟩:=h T kV doc pm an cdv ct us (by rw[ze] at hl;lia);exact PySem.W.binds_K KX rfl ht hs h1 h2
theorem X4{oc:Value}{od an:Option Addr}{osl:Array (Option Value)}{kV doc pm cdv ct:Value}{T:Addr}{to:Obj}{tn:Nat}(l:K.lookup f=some ⟨oc,od,.func (PySem.W.fnOf x qual (FQ st) (Dm st) (BX st) (.ref T) kV doc pm an cdv ct),osl⟩)
 (c:PySem.W.codeIn K cdv qual=true)(k:PySem.W.keepIn K (.ref f)=true)(t:K.lookup T=some to)(d:to.data=.seq ds tn):Kq K x qual st f (PySem.W.fnOf x qual (FQ st) (Dm st) (BX st) (.ref T) kV doc pm an cdv ct) ds:=
 ⟨⟨oc,od,T,to,tn,kV,doc,pm,an,cdv,ct,osl,rfl,l,c,t,d⟩,k⟩
end
structure Bs(P:Program)(w:World)(K:Fr)(mg:Str->Option Value)(base:Heap)(CX:CXT)(k:Nat)(x:Str)(ps:List Str)(dvs:List V)(sp:Sp):Prop where
 ex:∃(f:Addr) (fd:FuncData) (ds:List Value),Ex P w K mg base CX k f fd ps sp/\Binds K fd ps ds/\Vals dvs ds/\PySem.W.keepIn K (.ref f)=true/\mg x=some (.ref f)
structure rZ(P:Program)(w:World)(K:Fr)(mg:Str->Option Value)(base:Heap)(CX:CXT)(k:Nat)(x:Str)(C:Addr)(ps:List Str)(dvs:List V)(sp:Sp):Prop where
 ex:∃(f:Addr) (fd:FuncData) (ds:List Value),Ex P w K mg base CX k f fd ps sp/\Binds K fd ps ds/\Vals dvs ds/\Mk K C f/\mg x=some (.ref C)
section
variable{X:Cx}{EE:Value->Option Addr->St->Hp->Prop}{C:Addr}{m x:Str}{k:Nat}{ps:List Str}{dvs:List V}{sp:Sp}{o e:Expr}{es:List Expr}{ta:TE}{t:TA}{apos pos p:Pos}
theorem AAT(O:rZ X.prog X.w X.K X.mg X.base CX0 k x C ps dvs sp)(hr:Dy (k+1) X.A)(hg:Gl X x)(ha:PA X (e::es) t)
 (hdb:(x==("__debug__":Str))=false:=by decide)(he:‹starEach (e::es) X.env=(false,eval e X.env)::starEach es X.env›)(hpl:‹(backTo pos (starEach es X.env)).any (·.1)=false›):
 PE X (.Call (.Name x p) (e::es) [] pos) (Vc C sp dvs E0 t):=by
 obtain⟨f,fd,ds,F,hb,hv,M,hm⟩:=O.ex;exact fX M F hr hg hm hb hv Mr ha hdb he hpl
end
section
variable{X:Cx}
end
section
variable{X:Cx}{pins:List (Addr×Obj)}{Z:St}{H:Hp}{s:Shared}
end
structure Hz(P:Program)(w:World)(K:Fr)(mg:Str->Option Value)(base:Heap)(CX:CXT)(k:Nat)(m:Str)(ps:List Str)(L:List (Addr×Sp)):Prop where
 ex:∀p∈L,Cls K p.1/\∃(f:Addr) (fd:FuncData),Ex P w K mg base CX k f fd ps p.2/\Binds K fd ps []/\Meth K p.1 m f
theorem Hz.nil{P:Program}{w:World}{mg:Str->Option Value}{base:Heap}{CX:CXT}{k:Nat}{m:Str}{ps:List Str}:Hz P w K mg base CX k m ps []:=⟨fun p hp=>(nomatch hp)⟩
theorem Ex.up{P:Program}{w:World}{mg:Str->Option Value}{base:Heap}{CX:CXT}{k j:Nat}{f:Addr}{fd:FuncData}{ps:List Str}(F:Ex P w K mg base CX k f fd ps sp)(h:k<=j):Ex P w K mg base CX j f fd ps sp:=
 ⟨F.len,fun A outer s H args us vs Q E hr e0 hb r hs=>F.run A outer s H args us vs Q E (hr.mono h) e0 hb r hs⟩
theorem Hz.cons{P:Program}{w:World}{mg:Str->Option Value}{base:Heap}{CX:CXT}{k j:Nat}{m:Str}{ps:List Str}{C:Addr}{L:List (Addr×Sp)}(c:Cls K C)(O:lO P w K mg base CX j C m ps sp)(h:j<=k)(r:Hz P w K mg base CX k m ps L):Hz P w K mg base CX k m ps ((C,sp)::L):=by
 refine⟨fun p hp=>?_⟩;rcases zh.mp hp with e | e
 ·subst e;obtain⟨f,fd,F,hb,M⟩:=O.ex;exact⟨c,f,fd,F.up h,hb,M⟩
 ·exact r.ex p e
def RP(L:List (Addr×Sp))(m:Str)(ta:TE)(t:TA):TE:=fun Z H Q=>ta Z H fun x H1=>∃a C dx fs sp,(C,sp)∈L/\x=.ref a/\H1 a=some (.ins C dx fs)/\fs.lookup m=none/\
 t Z H1 fun vs H2=>sp (x::(vs++[])) H2 Q E0
section
variable{X:Cx}{EE:Value->Option Addr->St->Hp->Prop}{L:List (Addr×Sp)}{m:Str}{k:Nat}{ps:List Str}{o e:Expr}{es:List Expr}{ta:TE}{t:TA}{apos pos:Pos}
theorem SN{pl:Sem Bool}(O:Hz X.prog X.w X.K X.mg X.base CX0 k m ps L)(hr:Dy k X.A)(he:PE X o ta)(ha:PA X (e::es) t)
 (hst:‹starEach (e::es) X.env=(false,eval e X.env)::starEach es X.env›)(hpl:‹(backTo pos (starEach es X.env)).any (·.1)=false›)
 (ht:‹eval (.Call (.Attribute o m apos) (e::es) [] pos) X.env=(do
  let ov <-eval o X.env
  standAt apos.atName
  let (f,first) <-holding [ov] (getMethod ov m pl)
  callWith pos f first (backTo pos (starEach (e::es) X.env)) (backToKw pos (keywordEach [] X.env)))›):
 PE X (.Call (.Attribute o m apos) (e::es) [] pos) (RP L m ta t):=by
 intro pins s Z H Q I h;refine jg3 (pl:=pl) (thn (he s Z H _ I h) fun u s1 hZ=>?_) ht;obtain⟨x,H1,I1,rx,a,C,dx,fs,sp,mem,ex,ea,l,q⟩:=hZ;subst ex;obtain rfl:u=Value.ref a:=rx;obtain⟨c,f,fd,F,hb,hm⟩:=O.ex _ mem;refine JW I1 ea c hm l ?_;refine jd9 (first:=[.ref a]) (h₀:=X.base) I.ok.mod.kin hm.kp (thn (ha (pos:=pos) pins s1 Z H1 _ I1 q) fun us s2 ⟨vs,H2,I2,r,q2⟩=>⟨I2.kIn,?_⟩) hst hpl
 exact Oe (us:=.ref a::us) (vs:=.ref a::vs) F hr hb .nil Mr I2 (.cons rfl r) q2
theorem CK{pl:Sem Bool}(O:Hz X.prog X.w X.K X.mg X.base CX0 k m ps L)(he:PE X o ta)(hr:Dy k X.A:=by walk_at"hr")
 (ht:‹eval (.Call (.Attribute o m apos) [] [] pos) X.env=(do
  let ov <-eval o X.env
  standAt apos.atName
  let (f,first) <-holding [ov] (getMethod ov m pl)
  callWith pos f first (backTo pos (starEach [] X.env)) (backToKw pos (keywordEach [] X.env)))›):
 PE X (.Call (.Attribute o m apos) [] [] pos) (RP L m ta MF):=by
 intro pins s Z H Q I h;refine jg3 (pl:=pl) (thn (he s Z H _ I h) fun u s1 hZ=>?_) ht;obtain⟨x,H1,I1,rx,a,C,dx,fs,sp,mem,ex,ea,l,q⟩:=hZ;subst ex;obtain rfl:u=Value.ref a:=rx;obtain⟨c,f,fd,F,hb,hm⟩:=O.ex _ mem;refine JW I1 ea c hm l ?_;exact jr1 (first:=[.ref a]) I1.kIn hm.kp (Oe (us:=[.ref a]) (vs:=[.ref a]) F hr hb .nil Mr I1 (.cons rfl .nil) q)
end
theorem AEP{α:Type}{us:List α}(h:us.length=1):∃a0,us=[a0]:=by
 match us,h with
 | [a0],_=>exact⟨a0,rfl⟩
theorem AEO{α:Type}{us:List α}(h:us.length=2):∃a0 a1,us=[a0,a1]:=by
 match us,h with
 | [a0,a1],_=>exact⟨a0,a1,rfl⟩
theorem AAk{α:Type}{us:List α}(h:us.length=3):∃a0 a1 a2,us=[a0,a1,a2]:=by
 match us,h with
 | [a0,a1,a2],_=>exact⟨a0,a1,a2,rfl⟩
theorem ACy{α:Type}{us:List α}(h:us.length=4):∃a0 a1 a2 a3,us=[a0,a1,a2,a3]:=by
 match us,h with
 | [a0,a1,a2,a3],_=>exact⟨a0,a1,a2,a3,rfl⟩
theorem AAj{α:Type}{us:List α}(h:us.length=5):∃a0 a1 a2 a3 a4,us=[a0,a1,a2,a3,a4]:=by
 match us,h with
 | [a0,a1,a2,a3,a4],_=>exact⟨a0,a1,a2,a3,a4,rfl⟩
theorem AEM{α:Type}{us:List α}(h:us.length=6):∃a0 a1 a2 a3 a4 a5,us=[a0,a1,a2,a3,a4,a5]:=by
 match us,h with
 | [a0,a1,a2,a3,a4,a5],_=>exact⟨a0,a1,a2,a3,a4,a5,rfl⟩
theorem ACx{α:Type}{us:List α}(h:us.length=7):∃a0 a1 a2 a3 a4 a5 a6,us=[a0,a1,a2,a3,a4,a5,a6]:=by
 match us,h with
 | [a0,a1,a2,a3,a4,a5,a6],_=>exact⟨a0,a1,a2,a3,a4,a5,a6,rfl⟩
theorem AEJ{α:Type}{us:List α}(h:us.length=8):∃a0 a1 a2 a3 a4 a5 a6 a7,us=[a0,a1,a2,a3,a4,a5,a6,a7]:=by
 match us,h with
 | [a0,a1,a2,a3,a4,a5,a6,a7],_=>exact⟨a0,a1,a2,a3,a4,a5,a6,a7,rfl⟩
section
variable{X:Cx}
end
section
variable{X:Cx}
end
theorem qd(xs:List V)(k:Nat):Ij xs none (some (k:Int))=xs.take k:=by
 unfold Ij;rw[HT.sIx_none,HT.sIx_nat,jk4,jv6];by_cases h:k<=xs.length
 ·rw[jm6 h]
 ·rw[ju7 ⋯,va (qo _),va ⋯]
section
variable{X:Cx}
end
section
variable{X:Cx}
end
noncomputable def Vg(c:Nat):V:=.str ⟨#[c]⟩
noncomputable def Its(z:Str):It:=⟨fun i _=>i<z.cps.size,fun i H x H'=>H'=H/\∃c,z.cps[i]?=some c/\x=Vg c,fun i _=>z.cps.size<=i⟩
theorem mG{P:Program}{w:World}{tg:Expr}(z:Str)(t:Tok)(it:Addr):Turn P w K tg (Its z) [it] it (fun i h=>h.IsStrIter it "str_ascii_iterator" z t i) where
 mem:=by simp
 obj:=fun i h st b hb=>by
  have e:b=it:=by simpa using hb
  subst e;obtain⟨o,e,c,d⟩:=st;exact⟨o,e,fun v z=>by rw[d] at z;cases z⟩
 keep:=fun i h h' st k=>by
  obtain⟨o,e,r⟩:=st;exact⟨o,k it (by simp) o e,r⟩
 item:=by
  intro X hP hw hK hc i pins s Z H E I hf st hg;subst hP hw hK;have hg':i<z.cps.size:=hg;obtain⟨f0,f1,f2,f3,f4,f5⟩:=hf it (by simp);refine wpAny_pyNext_ascii_item st (c:=z.cps[i]) (by simp[hg']) fun h' st' sb=>?_;have I1:Inv X pins Z H { s with heap:=h',toks:=s.toks+1 }:=I.turned (t':=s.toks+1) (fun b o hb e=>(sb.2 b hb).trans e) f0 f1 f3 f4 f5;obtain⟨o,e,c,d⟩:=id st';exact⟨_,rfl,Zk (s:={ s with heap:=h',toks:=s.toks+1 }) e c d nofun ⟨Vg z.cps[i],H,I1,⟨_,rfl⟩,⟨rfl,_,by simp[hg'],rfl⟩,st',fun b hb=>(hf b hb).1⟩⟩
 done:=by
  intro X hP hw hK hc i pins s Z H E I hf st hg;subst hP hw hK;have hg':z.cps.size<=i:=hg;obtain⟨f0,f1,f2,f3,f4,f5⟩:=hf it (by simp);exact wpAny_pyNext_ascii_end (I.ok.hd hc) st (by simp[hg']) fun h' eb=>⟨rfl,I.turned (t':=s.toks) (fun b o hb e=>eb b o hb e) f0 f1 f3 f4 f5⟩
 self:=fun _ _ _ _ _ st h=>wpAny_pyIter_striter_ascii st h
noncomputable def asc(z:Str):Bool:=z.cps.all (· <128)
def ADK(tl:TE):TI:=fun Z H R=>tl Z H fun x H1=>∃z,x=.str z/\asc z=true/\R (Its z) H1
section
variable{X:Cx}{tg:Expr}
theorem oX{l:Expr}{tl:TE}(hl:PE X l tl):PI X tg l (ADK tl):=by
 intro pins s Z H R I h;refine thn (hl s Z H _ I h) fun v s1 hZ=>?_;obtain⟨x,H1,I1,r1,q1⟩:=hZ;obtain⟨z,e,ha,q⟩:=q1;subst e;obtain⟨t,rfl⟩:=(show ∃t,v=Value.str z t from r1);refine wpAny_pyIter_ascii ha ?_;refine⟨s1.heap.objs.size,[s1.heap.objs.size],_,_,H1,rfl,I1.kept (t':=s1.toks) fun b o e=>qc _ e,mG z t _,⟨_,xa _ rfl,rfl,rfl⟩,fun b hb=>?_,q⟩;have e:b=s1.heap.objs.size:=by simpa using hb
 subst e;exact I1.fpOk (qo _) (I1.hok.fresh (qo _))
def ADy:V->Option Int->Option Int->Hp->VK->Prop:=fun x lo hi H Q=>∃z,x=.str z/\z.length<=sizeLine/\Q (.str (Txt.slice z lo hi)) H
theorem ZZ{v:Value}{o:Option Int}(h:IsPart v o):∃l:Option (Int×Tok),v=partValue l/\l.map (·.1)=o:=by
 cases h with
 | none=>exact⟨none,rfl,rfl⟩
 | int i t=>exact⟨some (i,t),rfl,rfl⟩
theorem W3:SlR X ADy:=by
 intro pins s Z H x v vl vu lo hi sl Q I rx hs pl pu h;obtain⟨z,rfl,hz,q⟩:=h;obtain⟨t,rfl⟩:=(show ∃t,v=Value.str z t from rx);obtain⟨l,rfl,rfl⟩:=ZZ pl;obtain⟨u,rfl,rfl⟩:=ZZ pu;refine⟨"str",_,F.slot_str_getitem.lookup,typeIs_str _ _ _,wpAny_getItem_str_slice (l:=l) (u:=u) (st:=none) hs rfl ?_⟩;refine post_val_or_str ⟨zo (Txt.slice_le z _ _) hz,fun t' k=>?_⟩;exact⟨.str _,H,I.kept (t':=k) fun b o e=>e,⟨_,rfl⟩,q⟩
theorem VF:MtR X "str.startswith" (fun x xs H Q=>∃z y,x=.str z/\xs=[.str y]/\Q (.bl (Txt.startswith z y)) H):=by
 intro pins s Z H x xs v us Q I rx rs h;obtain⟨z,y,rfl,rfl,q⟩:=h;obtain⟨t,rfl⟩:=(show ∃t,v=Value.str z t from rx);obtain⟨u,rfl,ru⟩:=vals1 rs;obtain⟨t',rfl⟩:=(show ∃t,u=Value.str y t from ru);exact call_gives F.slot_str_startswith (typeIs_str _ _ _) F.entry_str_startswith (F.args_str_startswith_2 _ _) (gives_str_startswith z y t t') ⟨.bl _,H,I,rfl,q⟩
theorem GX:Hv X (.type "int") (fun xs H Q=>∃z n,xs=[.str z]/\z.length<=640/\PySem.intText? z=some n/\Q (.int n) H):=by
 intro pins s Z H xs us Q I r h;obtain⟨z,n,rfl,hl,hn,q⟩:=h;obtain⟨u,rfl,ru⟩:=vals1 r;obtain⟨t,rfl⟩:=(show ∃t,u=Value.str z t from ru);exact PySem.W.KIN.call_text hn hl ⟨.int n,H,I.tok _,⟨_,rfl⟩,q⟩
end
theorem aY{z:Str}:Walk (Its z) (fun _=>True) (z.cps.toList.map Vg):=
 ⟨fun i H _ hi=>(by show i<z.cps.size;simpa using hi),fun i H x H' _ y hi=>⟨y.1,by
  obtain⟨c,hc,rfl⟩:=y.2;rw[xo,Array.getElem?_toList,hc];rfl⟩,fun i H _ hi=>(by show z.cps.size<=i;simpa using hi)⟩
theorem oH{tl:TE}{R:It->Hp->Prop}(h:tl Z H fun x H1=>∃z,x=.str z/\asc z=true/\R (Its z) H1):ADK tl Z H R:=h
theorem fH(x:Str)(t:Tok):RelV (.str x) (.str x t):=⟨t,rfl⟩
noncomputable def constStr?:Expr->Option Str
 | .Constant (.str x) _ _=>some x
 | _=>none
def eF(ss:List Str):TA:=fun _ H Q=>Q (ss.map V.str) H
theorem fj{X:Cx}:∀{es:List Expr} {ss:List Str},es.map constStr?=ss.map some->PA X es (eF ss)
 | [],[],_=>Ab
 | [],_::_,h=>nomatch h
 | _::_,[],h=>nomatch h
 | e::es,x::ss,h=>by
  rw[zv,zv] at h;injection h with h1 h2;have ih:=fj (X:=X) (es:=es) (ss:=ss) h2;unfold constStr? at h1;split at h1
  ·injection h1 with h1;subst h1;exact Aa Aj ih rfl
  ·cases h1
theorem Xe{X:Cx}{es:List Expr}{ss:List Str}(h:es.map constStr?=ss.map some):PE X (.List es pos) (tG (eF ss)):=Fq (fj h)
theorem XX{ss:List Str}{Q:List V->Hp->Prop}(h:Q (ss.map V.str) H):eF ss Z H Q:=h
structure BE(X:Cx)(e:Expr)(te:TE):Prop where
 out:PE X e te
structure BS(X:Cx)(st:Stmt)(t:TS):Prop where
 out:PS X st t
structure BSs(X:Cx)(st:List Stmt)(t:TS):Prop where
 out:PSs X st t
section
variable{X:Cx}
theorem wR{es:List Expr}{ss:List Str}(h:es.map constStr?=ss.map some):BE X (.List es pos) (tG (eF ss)):=⟨Xe h⟩
theorem bs{st:Stmt}{t:TS}(h:PS X st t):BS X st t:=⟨h⟩
theorem ABS{i:Nat}{e:Expr}{pos':Pos}(hN:X.N.Nodup)(hi:X.N[i]?=some x)(hx:Loc X.env.scope x)(he:BE X e te)(hs:‹swapsWith e (some (.Name x pos')) pos.line X.env=pure false›)(hf:X.fn x=true\/X.env.scope.names.lookup x=some .local:=by first | exact .inl rfl | exact .inr rfl | assumption):
 BS X (.Assign [.Name x pos'] e pos) (ie te (Ht i)):=⟨Am _ he.out hN hi hx hs hf⟩
theorem rA{st:Stmt}{rest:List Stmt}{t u:TS}(h1:BS X st t)(h2:BSs X rest u):BSs X (st::rest) (yo t u):=⟨Ae h1.out h2.out⟩
theorem wQ{st:Stmt}{t:TS}(h1:BS X st t):BSs X [st] t:=⟨Af h1.out⟩
theorem ABR{ss:List Stmt}{R:TS->Prop}(h:∃t,BSs X ss t/\R t):∃t,PSs X ss t/\R t:=by
 obtain⟨t,h1,h2⟩:=h;exact⟨t,h1.out,h2⟩
end
inductive Ib(P:Program)(w:World)(K:Fr)(mg:Str->Option Value)(base:Heap)(k:Nat):List (Str×Sp)->Prop
 | nil:Ib P w K mg base k []
 | cons {x:Str} {ps:List Str} {sp:Sp} {L:List (Str×Sp)}:Cal P w K mg base k x ps sp->Ib P w K mg base k L->Ib P w K mg base k ((x,sp)::L)
theorem Ib.get{P:Program}{w:World}{mg:Str->Option Value}{base:Heap}{k:Nat}{L:List (Str×Sp)}(h:Ib P w K mg base k L){x:Str}{sp:Sp}(hm:(x,sp)∈L):∃ps,Cal P w K mg base k x ps sp:=by
 induction h with
 | nil=>cases hm
 | cons C _ ih=>
  rcases zh.mp hm with e | e
  ·injection e with e1 e2;subst e1;subst e2;exact⟨_,C⟩
  ·exact ih e
def mW(mg:Str->Option Value)(i:Nat)(L:List (Str×Sp))(t:TA):TE:=fun Z H Q=>∃f x sp,Z[i]?=some (some (.ref f))/\(x,sp)∈L/\mg x=some (.ref f)/\t Z H fun vs H1=>sp vs H1 Q E0
section
variable{X:Cx}{pos:Pos}
theorem ut{k i:Nat}{L:List (Str×Sp)}{e:Expr}{es:List Expr}{t:TA}{p:Pos}(CV:Ib X.prog X.w X.K X.mg X.base k L)(hr:Dy k X.A)(hN:X.N[i]?=some x)(hv:Vis X.env.scope x)(ha:PA X (e::es) t)
 (hdb:(x==("__debug__":Str))=false:=by decide)(hcd:(x==("__classdict__":Str))=false:=by decide)(he:‹starEach (e::es) X.env=(false,eval e X.env)::starEach es X.env›)(hpl:‹(backTo pos (starEach es X.env)).any (·.1)=false›):
 PE X (.Call (.Name x p) (e::es) [] pos) (mW X.mg i L t):=by
 intro pins s Z H Q I h;obtain⟨f,y,sp,hf,hm,hmg,h⟩:=h;obtain⟨ps,C⟩:=CV.get hm;obtain⟨f',fd,F,b,kp,m⟩:=C.ex;have ef:f'=f:=by
  rw[hmg] at m;injection m with m;injection m with m;exact m.symm
 subst ef;refine jc5 ?_;refine thn (oZ hN hv hdb hcd s Z H (fun v H1=>v=.ref f'/\H1=H) I (J3 hf ⟨rfl,rfl⟩)) fun v s1 hZ=>?_;obtain⟨y,H1,I1,r1,q1⟩:=hZ;obtain⟨rfl,rfl⟩:=q1;cases r1;refine jd9 (h₀:=X.base) I1.ok.mod.kin kp (thn (ha (pos:=pos) pins s1 Z _ _ I1 h) fun us s2 ⟨vs,H2,I2,r,q⟩=>⟨I2.kIn,?_⟩) he hpl;dsimp only at q;have hl:us.length=ps.length:=by rw[<-r.length];exact F.len _ _ _ _ q
 have hb:=b s2 us I2.kIn (by rw[yk];exact hl);rw[yk] at hb;show wpAny _ _ (call (.ref f') us) _ _ _;refine wpAny_call (jo9 (F.run X.A X.stack s2 H2 ⟨us,[]⟩ us vs Q _ hr I2.env0 hb r q) fun z s' hq=>?_);cases z with
 | error e=>exact False.elim hq
 | ok fl=>
  cases fl with
  | ret u=>exact I2.after hq
  | next=>exact False.elim hq
  | brk=>exact False.elim hq
  | cont=>exact False.elim hq
theorem oK{mg:Str->Option Value}{i:Nat}{L:List (Str×Sp)}{t:TA}{f:Addr}(h1:Z[i]?=some (some (.ref f)))(h2:(x,sp)∈L)(h3:mg x=some (.ref f))(h:t Z H fun vs H1=>sp vs H1 Q E0):mW mg i L t Z H Q:=⟨f,x,sp,h1,h2,h3,h⟩
end
section
variable{X:Cx}{pins:List (Addr×Obj)}{Z:St}{H:Hp}{s:Shared}{h':Heap}
theorem Inv.turnedNew{t':Nat}{ch:List Addr}{T:Addr}{o:HO}(I:Inv X pins Z H s)(k:∀b u,b∉ch->s.heap.get? b=some u->h'.get? b=some u)(hf:∀b∈ch,Kr X pins H b)
 (hp:s.heap.objs.size<=T)(new:Ep X.prog X.w (upd H T o) h' T o):Inv X pins Z (upd H T o) { s with heap:=h',toks:=t' }:=by
 have hn:H T=none:=I.hok.fresh hp;have nit:∀b u,H b=some u->b∉ch:=fun b u e z=>by rw[(hf b z).1] at e;cases e
 refine I.step (g':=s.gens) (d':=s.drawn) (ch:=ch) (fun b hb=>⟨(hf b hb).2.2.2.1,(hf b hb).2.1,(hf b hb).2.2.2.2.1,(hf b hb).2.2.2.2.2⟩) (fun b u _ _ hc e _=>k b u hc e) (fun b u _ _ hc e _=>⟨u.slots,k b u hc e⟩)
  (fun b u _ e n=>by rw[BP (kg (xk (xh e) hp))];exact n)
  (fun b u hc e=>⟨u,k b u hc e⟩) (fun b xs q=>by rw[BP (Bx q hn)];exact q) (fun b u xs q=>by rw[BP (Bx q hn)];exact q) (fun b ps q=>⟨#[],by rw[BP (Bx q hn),q];simp⟩) (fun m hm=>?_) (fun b u e=>?_) I.bare
 ·obtain⟨u,es,ep,ho,r⟩:=hm;exact⟨u,es,ep,k _ u (fun z=>(hf _ z).2.1 rfl) ho,r⟩
 ·by_cases hb:b=T
  ·subst hb;rw[Ao] at e;cases e;exact new
  ·rw[BP hb] at e;refine(I.hok b u e).stay (fun c v hc q=>k c v ?_ q) (fun c q=>by rw[BP (Bx q hn)];exact q) fun c xs q=>by rw[BP (Bx q hn)];exact q
   rcases hc with z | z
   ·rw[z];exact nit b u e
   ·exact nit c _ z
theorem Inv.turnedL{t':Nat}{ch:List Addr}(I:Inv X pins Z H s)(k:∀b u,b∉ch->s.heap.get? b=some u->h'.get? b=some u)(hf:∀b∈ch,Kr X pins H b):Inv X pins Z H { s with heap:=h',toks:=t' }:=by
 have nit:∀b u,H b=some u->b∉ch:=fun b u e z=>by rw[(hf b z).1] at e;cases e
 refine I.step (g':=s.gens) (d':=s.drawn) (ch:=ch) (fun b hb=>⟨(hf b hb).2.2.2.1,(hf b hb).2.1,(hf b hb).2.2.2.2.1,(hf b hb).2.2.2.2.2⟩) (fun b u _ _ hc e _=>k b u hc e) (fun b u _ _ hc e _=>⟨u.slots,k b u hc e⟩)
  (fun _ _ _ _ n=>n) (fun b u hc e=>⟨u,k b u hc e⟩) (fun b xs q=>q) (fun b u xs q=>q) (fun b ps q=>⟨#[],by rw[q];simp⟩) (fun m hm=>?_) (fun b u e=>?_) I.bare
 ·obtain⟨u,es,ep,ho,r⟩:=hm;exact⟨u,es,ep,k _ u (fun z=>(hf _ z).2.1 rfl) ho,r⟩
 ·refine(I.hok b u e).stay (fun c v hc q=>k c v ?_ q) (fun c q=>q) fun c xs q=>q;rcases hc with z | z
  ·rw[z];exact nit b u e
  ·exact nit c _ z
end
theorem yS{n a b:Nat}(ha:a<n)(hb:b<n):ZipApart (n+4) (n+2) (n+3) n (n+1) a b:=
 ⟨show n+2≠n+4 by lia,show n+3≠n+4 by lia,show n≠n+4 by lia,show n+1≠n+4 by lia,show n+2≠n+3 by lia,show n+2≠n by lia,show n+2≠n+1 by lia,show n+3≠n by lia,show n+3≠n+1 by lia,show n≠n+1 by lia,
  show a≠n+4 by lia,show a≠n+3 by lia,show a≠n by lia,show a≠n+1 by lia,show b≠n+4 by lia,show b≠n+3 by lia,show b≠n by lia,show b≠n+1 by lia⟩
section
variable{X:Cx}
theorem PQ{M:List Str}{tg:Expr}{xs:List Str}{y:Str}{py spos:Pos}{ifs:List Expr}{cl:List (Str×Addr)}{g:TG}{i:Nat}(hN:X.N.Nodup)(hiy:X.N[i]?=some y)(hy:Loc X.env.scope y)
 (hc:X.calm=true)(ok:Np X M xs scope cl)(hi:PI X tg iter wi)
 (ht:∀C s₀ H₀ fp,dX (De X M xs scope cl C s₀ H₀ fp) ifs tt)(hg:∀C s₀ H₀ fp,PG (De X M xs scope cl C s₀ H₀ fp) tg g)(he:∀C s₀ H₀ fp,PE (De X M xs scope cl C s₀ H₀ fp) elt te)
 (hsw:swapsWith (.ListComp elt [⟨tg,iter,ifs,0⟩] scope pos) (some (.Name y py)) spos.line X.env=pure true:=by with_unfolding_all rfl)
 (hf:X.fn y=true\/X.env.scope.names.lookup y=some .local:=by first | exact .inl rfl | exact .inr rfl | assumption)
 (hs:∀x,foldedSetIterable iter X.env x=pure x:=by intro _;rfl):
 PS X (.Assign [.Name y py] (.ListComp elt [⟨tg,iter,ifs,0⟩] scope pos) spos) (ie (mV xs.length wi g tt te) (Ht i)):=by
 intro pins s Z H D I h;rw[exec_Assign_Name_used _ _ _ _ hsw];refine jv (jp8 (jv ?_));show wpAny _ X.A (do let _ <-comprehension (.ListComp elt [⟨tg,iter,ifs,0⟩] scope pos) scope X.env _ (newList []) false (eval iter X.env) (some (assign (.Name y py) X.env))) _ _ s;refine jv (ja7 (jl6 (use:=some (assign (.Name y py) X.env)) (Q:=fun _ s'=>SP X pins D .next s') rfl hs ok.clos ok.kind ok.names
  (thn (hi s Z H _ I h) fun xv s1 h1=>thn h1 fun itv s2 h2=>?_)) (fun _ s' hq=>xz (xz hq)) fun _ _ e=>e)
 obtain⟨it,fp,tn,J,H2,e,I2,T,st2,f2,hW⟩:=h2;subst e;refine Ti (Q:=fun x H1=>Ht i x Z H1 D.nx) hc ok ht hg he I2 T st2 f2 hW (compPost (model X.prog X.w) X.A X.xe (some (assign (.Name y py) X.env)) (fun _ s'=>SP X pins D .next s')) fun Dd C H3 s4 I4 hm fC q=>?_
 obtain⟨m,hn⟩:=hm;show wpAny _ X.A (assign (.Name y py) X.env (.ref Dd)) _ _ _;refine jt7 (N5 I4 hN hiy hy (v:=.ref Dd) rfl (fun s5 I5 hsb=>?_) hf);obtain⟨a,sb,ha⟩:=hsb;have hCa:C≠a:=by
  rcases ha with rfl | ha
  ·exact fC.2.1
  ·exact(fC.2.2.2.2.1 _ _ ha).symm
 exact⟨m,hn.sameBut sb hCa,fun h' hsb'=>⟨_,H3,I5.turned (t':=s5.toks) (fun b o hb e=>hsb'.extBut b o hb e) fC.1 fC.2.1 fC.2.2.2.1 fC.2.2.2.2.1 fC.2.2.2.2.2,q⟩⟩
end
structure ADg(K:Fr)(mg:Str->Option Value)(x:Str)(CB f:Addr):Prop where
 bound:mg x=some (.ref CB)
 sp:PySem.W.specialIn K (.ref CB) "__getattribute__"=some (some (.builtin "type.__getattribute__"))
 rd:PySem.W.readsIn K CB (.type "type")=true
 fc:PySem.W.findCls K (.ref CB) (.type "type") "__init__"=some (.val (.ref f))
 kp:PySem.W.keepIn K (.ref f)=true
structure ABg(P:Program)(w:World)(K:Fr)(mg:Str->Option Value)(base:Heap)(k:Nat)(x:Str)(ps:List Str)(sp:Sp):Prop where
 ex:∃(f CB:Addr) (fd:FuncData),Ex P w K mg base CX0 k f fd ps sp/\Binds K fd ps []/\ADg K mg x CB f
section
variable{X:Cx}
theorem Dp{k:Nat}{ps:List Str}{e:Expr}{es:List Expr}{t:TA}{p apos:Pos}{pl:Sem Bool}(O:ABg X.prog X.w X.K X.mg X.base k x ps sp)(ha:PA X (e::es) t)(hr:Dy k X.A:=by walk_at"hr")(hg:Gl X x:=by exact rfl)
 (hdb:(x==("__debug__":Str))=false:=by decide)(hst:‹starEach (e::es) X.env=(false,eval e X.env)::starEach es X.env›)(hpl:‹(backTo pos (starEach es X.env)).any (·.1)=false›)
 (ht:‹eval (.Call (.Attribute (.Name x p) "__init__" apos) (e::es) [] pos) X.env=(do
  let ov <-eval (.Name x p) X.env
  standAt apos.atName
  let (f,first) <-holding [ov] (getMethod ov "__init__" pl)
  callWith pos f first (backTo pos (starEach (e::es) X.env)) (backToKw pos (keywordEach [] X.env)))›):
 PE X (.Call (.Attribute (.Name x p) "__init__" apos) (e::es) [] pos) (Vd sp [] E0 t):=by
 intro pins s Z H Q I h;obtain⟨f,CB,fd,F,hb,N⟩:=O.ex;refine jg3 (pl:=pl) (My I hg N.bound ?_ hdb) ht;refine PySem.W.method_cls I.kIn N.sp (PySem.W.cls_value I.kIn N.rd N.fc rfl ?_);have I1:Inv X pins Z H { s with toks:=s.toks+1 }:=I.tok _;refine jd9 (first:=[]) (h₀:=X.base) I.ok.mod.kin N.kp (thn (ha pins _ Z H _ I1 h) fun us s2 ⟨vs,H2,I2,r,q2⟩=>⟨I2.kIn,?_⟩) hst hpl
 exact Oe (us:=us) (vs:=vs) F hr hb .nil Mr I2 r q2
theorem cD{k:Nat}{C:Addr}{ps:List Str}{p:Pos}(O:lQ X.prog X.w X.K X.mg X.base CX0 k x C ps sp)(hr:Dy (k+1) X.A)(hg:Gl X x)
 (hdb:(x==("__debug__":Str))=false:=by decide):PE X (.Call (.Name x p) [] [] pos) (Vc C sp [] E0 MF):=by
 obtain⟨f,fd,F,hb,M,hm⟩:=O.ex;exact o6 M F hr hg hm hb .nil Mr hdb
end
section
variable{X:Cx}
end
section
variable{X:Cx}
end
end L2
namespace L2
open PySem PySem.Spec PyProof.Rows PySem.Builtin PySem.Builtin.Str
noncomputable def plc(c:Nat):Nat->List Nat->List Nat
 | _,[]=>[]
 | k,a::l=>if a=c then k::plc c (k+1) l else plc c (k+1) l
noncomputable def spl(c:Nat):List Nat->List (List Nat)
 | []=>[[]]
 | a::l=>if a=c then []::spl c l else ((a::(spl c l).headD [])::(spl c l).drop 1)
theorem my(c:Nat)(l:List Nat):spl c (c::l)=[]::spl c l:=by
 conv=>lhs;unfold spl
 rw[xp rfl]
theorem Wv{c a:Nat}(l:List Nat)(h:a≠c):spl c (a::l)=(a::(spl c l).headD [])::(spl c l).drop 1:=by
 conv=>lhs;unfold spl
 rw[xy h]
theorem RT{a b:Str}(h:a.cps=b.cps):a=b:=by
 cases a;cases b;exact ya Str.mk h
theorem yu(c:Nat):∀l,spl c l≠[]
 | []=>fun h=>nomatch h
 | a::l=>by
  unfold spl;split
  ·exact fun h=>nomatch h
  ·exact fun h=>nomatch h
theorem Q5(c:Nat)(l:List Nat):spl c l=(spl c l).headD []::(spl c l).drop 1:=by
 have:=yu c l;cases h:spl c l with
 | nil=>exact absurd h this
 | cons p ps=>rfl
theorem fQ(c:Nat):∀(l:List Nat) (k:Nat),(plc c k l).length+1=(spl c l).length
 | [],_=>rfl
 | a::l,k=>by
  have ih:=fQ c l (k+1);unfold plc spl;split
  ·rw[qr,qr,ih]
  ·rw[ih,Q5 c l];rfl
theorem Vk(c:Nat):∀(l:List Nat) (k:Nat),(plc c k l).length=l.count c
 | [],_=>rfl
 | a::l,k=>by
  have ih:=Vk c l (k+1);unfold plc;rw[List.count_cons];split
  ·rename_i h
   rw[qr,ih,xp (by simpa using h)]
  ·rename_i h
   rw[ih,xy (by simpa using h)];rfl
theorem MK(c:Nat):∀(p l:List Nat),c∉p->spl c (p++c::l)=p::spl c l
 | [],l,_=>my c l
 | a::p,l,h=>by
  have ih:=MK c p l fun z=>h (qk _ z);show spl c (a::(p++c::l))=_;rw[Wv _ (fun z=>h (by rw[z];exact qf)),ih];rfl
theorem Wu(c:Nat):∀(p:List Nat),c∉p->spl c p=[p]
 | [],_=>rfl
 | a::p,h=>by
  rw[Wv _ (fun z=>h (by rw[z];exact qf)),Wu c p fun z=>h (qk _ z)];rfl
theorem Oj(c:Nat)(L:List Nat):∀(l:List Nat) (k s0:Nat),L.drop k=l->s0<=k->k<=L.length->
 ((s0::(plc c k l).map (· +1)).zip (plc c k l++[L.length])).map (fun (ij:Nat×Nat)=>(L.drop ij.1).take (ij.2-ij.1))=((L.drop s0).take (k-s0)++(spl c l).headD [])::(spl c l).drop 1
 | [],k,s0,h,h1,h2=>by
  have e:k=L.length:=by
   have:=ya List.length h;rw[jb3] at this;simp at this;lia
  subst e;show[(L.drop s0).take (L.length-s0)]=[(L.drop s0).take (L.length-s0)++[]];rw[yk]
 | a::l,k,s0,h,h1,h2=>by
  have kl:k<L.length:=by
   have:=ya List.length h;rw[jb3,qr] at this;lia
  have hd:L.drop (k+1)=l:=by
   rw[<-List.drop_drop,h];rfl
  unfold plc spl;split
  ·have ih:=Oj c L l (k+1) (k+1) hd (qo _) kl;rw[zv,jj0,List.zip_cons_cons,zv,ih,Nat.sub_self,jt0,jh4,<-Q5];show _=((L.drop s0).take (k-s0)++[])::spl c l;rw[yk]
  ·have ih:=Oj c L l (k+1) s0 hd ⋯ kl;rw[ih];have e:(L.drop s0).take (k+1-s0)=(L.drop s0).take (k-s0)++[a]:=by
    have hk:(L.drop s0)[k-s0]?=some a:=by
     rw[jm4,show s0+(k-s0)=k by lia];have:=ya (fun z=>z[0]?) h;simpa [jm4] using this
    rw[show k+1-s0=(k-s0)+1 by lia,ky,hk];rfl
   rw[e,Zs];rfl
noncomputable def cps(z:Str):List Nat:=z.cps.toList
theorem Ky(z:Str):(cps z).length=z.length:=kr
theorem Xo(x:Str)(c:Nat):∀(n k free:Nat) (acc:Array Nat),k+n=x.length+1->free<=k->acc.size<=k->
 (forIn (List.range' k n) (acc,free) (StrLaws.occBody x ⟨#[c]⟩ x.length (x.length+1))).run.fst.toList=acc.toList++plc c k ((cps x).drop k)
 | 0,k,free,acc,h,_,_=>by
  rw[uu (by rw[Ky];lia)];show acc.toList=acc.toList++[];rw[yk]
 | n+1,k,free,acc,h,hf,ha=>by
  rw[ju5,jm2];have one:(⟨#[c]⟩:Str).length=1:=rfl;by_cases z:(cps x)[k]?=some c
  ·have kl:k<(cps x).length:=(zk.mp z).1;have hs:=(StrLaws.subAt_one x c k).mpr z;have ed:(cps x).drop k=c::(cps x).drop (k+1):=by
    rw[ja9 kl,(zk.mp z).2]
   have ih:=Xo x c n (k+1) (k+1) (acc.push k) ⋯ (qo _) (by rw[ju8];lia);unfold StrLaws.occBody;rw[xp ⟨⟨⟨by show acc.size<x.length+1;lia,hf⟩,hs.1⟩,hs.2⟩,ed];unfold plc;rw[xp rfl];have e2:acc.toList++k::plc c (k+1) ((cps x).drop (k+1))=(acc.push k).toList++plc c (k+1) ((cps x).drop (k+1)):=by
    rw[Array.toList_push,Zs];rfl
   rw[e2];exact ih
  ·have hs:¬(k+(⟨#[c]⟩:Str).length<=x.length/\subAt x ⟨#[c]⟩ k=true):=fun y=>z ((StrLaws.subAt_one x c k).mp y);have ih:=Xo x c n (k+1) free acc ⋯ ⋯ ⋯;have ep:plc c k ((cps x).drop k)=plc c (k+1) ((cps x).drop (k+1)):=by
    by_cases kl:k<(cps x).length
    ·rw[ja9 kl];have:(cps x)[k]≠c:=fun y=>z (by rw[qm kl,y]);show(if (cps x)[k]=c then _ else _)=_;rw[xy this]
    ·rw[uu ⋯,uu ⋯];rfl
   unfold StrLaws.occBody;rw[xy fun y=>hs ⟨y.1.2,y.2⟩,ep];exact ih
theorem fu(x:Str)(c:Nat):occurrences x ⟨#[c]⟩ 0 x.length (x.length+1)=plc c 0 (cps x):=by
 rw[StrLaws.occ_eq];have:=Xo x c (x.length+1) 0 0 #[] ⋯ (qo _) (qo _);simpa using this
theorem ZX(x:Str)(c:Nat):partsBetween x (plc c 0 (cps x)) 1=(spl c (cps x)).map fun p=>(⟨p.toArray⟩:Str):=by
 have h:=Oj c (cps x) (cps x) 0 0 rfl (qo _) (ka _);rw[jt0,jh4,<-Q5] at h;rw[<-h,ua];unfold partsBetween;rw[<-Ky];refine jq1 fun ij _=>?_;refine RT (jf2.mp ?_);rw[StrLaws.strSub_toList];rfl
section
variable{X:Cx}
theorem Wr:∀(ps:List Str) (tk:Nat),Vals (ps.map V.str) (strsFrom tk ps)
 | [],_=>.nil
 | p::ps,tk=>.cons ⟨tk,rfl⟩ (Wr ps (tk+1))
theorem RQ:∀{zs:List Str} {us:List Value},Vals (zs.map V.str) us->StrsAre us zs
 | [],_,.nil=>.nil
 | z::zs,_,.cons r rs=>by
  obtain⟨t,rfl⟩:=(show ∃t,_=Value.str z t from r);exact .cons z t (RQ rs)
noncomputable def Jv(c:Nat)(z:Str):List Str:=(spl c (cps z)).map fun p=>(⟨p.toArray⟩:Str)
theorem Ym(c:Nat)(z:Str):(Jv c z).length<=z.length+1:=by
 unfold Jv;rw[js,<-fQ c (cps z) 0,Vk,<-Ky];exact Nat.succ_le_succ List.count_le_length
theorem PB{c:Nat}{z:Str}(h:plc c 0 (cps z)=[]):Jv c z=[z]:=by
 have e:=ZX z c;rw[h] at e;unfold Jv;rw[<-e];show[strSub z 0 z.length]=[z];refine ya (fun y=>[y]) (RT (jf2.mp ?_));rw[StrLaws.strSub_toList,jk4,jv6];exact va (by show z.cps.toList.length<=z.cps.size;rw[kr];exact qo _)
def z9:V->List V->Hp->VK->Prop:=fun x xs H Q=>∃z c,x=.str z/\xs=[.str ⟨#[c]⟩]/\c<256/\z.length<=1000000/\∀l,H l=none->Q (.ref l) (upd H l (.lst ((Jv c z).map V.str)))
theorem J9:MtR X "str.split" z9:=by
 intro pins s Z H x xs v us Q I rx rs h;obtain⟨z,c,rfl,rfl,hc,hz,q⟩:=h;obtain⟨t,rfl⟩:=(show ∃t,v=Value.str z t from rx);obtain⟨u,rfl,ru⟩:=vals1 rs;obtain⟨t',rfl⟩:=(show ∃t,u=Value.str ⟨#[c]⟩ t from ru);have sl:z.length+1<=sizeLine:=zo (Nat.succ_le_succ hz) nofun;have one:(⟨#[c]⟩:Str).length=1:=rfl;have itself:Jv c z=[z]->EP X pins Z Q (.ref s.heap.objs.size) { s with heap:=s.heap.push { cls:=.type "list",data:=.seq [Value.str z t].toArray } }:=fun e=>by
  refine⟨.ref _,_,I.laid (a:=s.heap.objs.size) (o:=.lst ((Jv c z).map V.str)) (fun _ _ e=>qc _ e) (qo _) ⟨by rw[e];show 1<=sizeLine;decide,[Value.str z t],0,by rw[e];exact .cons ⟨t,rfl⟩ .nil,xa _ rfl⟩,rfl,q _ I.fresh⟩
 by_cases h1:(decide (z.length<(⟨#[c]⟩:Str).length)||decide (PySem.Builtin.Str.strKind z<PySem.Builtin.Str.strKind ⟨#[c]⟩))=true
 ·have e:Jv c z=[z]:=by
   have k1:PySem.Builtin.Str.strKind (⟨#[c]⟩:Str)=1:=by
    unfold PySem.Builtin.Str.strKind;simp[hc]
   have k0:1<=PySem.Builtin.Str.strKind z:=by
    unfold PySem.Builtin.Str.strKind
    repeat' split
    all_goals lia
   rw[k1,one,decide_eq_false (show ¬PySem.Builtin.Str.strKind z<1 by lia),jt9,decide_eq_true_eq] at h1;refine PB ?_;have:cps z=[]:=jc2.mp (by rw[Ky];lia);rw[this];rfl
  exact call_meets F.slot_str_split (typeIs_str _ _ _) F.entry_str_split (F.args_str_split_2 _ _) (meets_str_split_cannot_occur z ⟨#[c]⟩ t t' h1) (itself e)
 ·have h1':=(jp0 _).mp h1;by_cases h2:(occurrences z ⟨#[c]⟩ 0 z.length (z.length+1)).isEmpty=true
  ·have e:Jv c z=[z]:=by
    rw[fu,List.isEmpty_iff] at h2;exact PB h2
   exact call_meets F.slot_str_split (typeIs_str _ _ _) F.entry_str_split (F.args_str_split_2 _ _) (meets_str_split_not_found z ⟨#[c]⟩ t t' h1' rfl h2) (itself e)
  ·have h2':=(jp0 _).mp h2;have ep:partsBetween z (occurrences z ⟨#[c]⟩ 0 z.length (z.length+1)) (⟨#[c]⟩:Str).length=Jv c z:=by rw[fu];exact ZX z c
   refine call_meets F.slot_str_split (typeIs_str _ _ _) F.entry_str_split (F.args_str_split_2 _ _) (meets_str_split_sep z ⟨#[c]⟩ t t' h1' rfl h2' ⋯ (by rw[ep];exact zo (Ym c z) sl)) ?_;rw[ep];exact⟨.ref _,_,I.laid (a:=s.heap.objs.size) (o:=.lst ((Jv c z).map V.str)) (fun _ _ e=>qc _ e) (qo _) ⟨by rw[js];exact zo (Ym c z) sl,strsFrom s.toks (Jv c z),0,Wr _ _,xa _ rfl⟩,rfl,q _ I.fresh⟩
def rJoin(K:Fr):V->List V->Hp->VK->Prop:=fun x xs H Q=>∃z l zs,x=.str z/\xs=[.ref l]/\SqL K H l (zs.map V.str)/\(zs.map (·.length)).sum+zs.length*z.length<=16777216/\Q (.str (Txt.join z zs)) H
theorem gB:MtR X "str.join" (rJoin X.K):=by
 intro pins s Z H x xs v us Q I rx rs h;obtain⟨z,l,zs,rfl,rfl,hl,hz,q⟩:=h;obtain⟨t,rfl⟩:=(show ∃t,v=Value.str z t from rx);obtain⟨u,rfl,ru⟩:=vals1 rs;obtain rfl:u=Value.ref l:=ru;obtain⟨its,r,pl,_⟩:=I.list hl;exact join_list pl.isList (by simpa using RQ r) hz fun t' k=>⟨.str _,H,I.tok _,⟨_,rfl⟩,q⟩
end
end L2
namespace L2
open PySem PySem.Spec PyProof.Rows
section
variable{s:Shared}{A:Around}{w:World}{prog:Program}
theorem AAf{R:Result->Shared->Prop}{g:Addr}{x y d:Int}{t1 t2 t3:Tok}{k:Nat}(ha:A.handled=none)(hg:IsRange s.heap g x y d t1 t2 t3)(big:Builtin.Range.small x y d=false)(ek:Builtin.Range.rangeSize x y d=k)(fits:k<=2^24)(L:Addr)(res:Value)(m0:Nat)
 (hL:s.heap.get? L=some { cls:=.type "list",data:=.seq #[] m0 })
 (fin:∀hp tk ys m,(∀e o,e≠L->s.heap.get? e=some o->hp.get? e=some o)->hp.get? L=some { cls:=.type "list",dict:=none,data:=.seq ys m,slots:= #[] }->ItemsOf (fun i v=>∃t,v=.int (x+i*d) t) ys k->R (.ok (.ret res)) { s with heap:=hp,toks:=tk }):
 wpAny (model prog w) A.in1 (Builtin.List.listExtendWith (.ref L) (.ref g) res)
  (fun z s'=>match z with | .done f=>R (.ok f) s' | .again m=>m.quiet=true/\codeAny (model prog w) A m R s') (fun e s'=>R (.error e) s') s:=by
 have Lg:L≠g:=fun z=>by rw[z,hg] at hL;simp at hL
 have Ll:L<s.heap.objs.size:=xh hL;have Ln:L≠s.heap.objs.size:=kg Ll;have Lm:L∉[s.heap.objs.size]:=fun z=>Ln (xb.mp z);have Wl:=(Walks.longrange (prog:=prog) (w:=w) (A:=A.in1) ha s.heap.objs.size x d k).toS;have loop:∀(hp:Heap) (m tk:Nat),IsLongIter hp s.heap.objs.size (x+((0:Nat):Int)*d) ((k:Int)-((0:Nat):Int)) d->(∀e o,e≠L->s.heap.get? e=some o->hp.get? e=some o)->hp.get? L=some { cls:=.type "list",data:=.seq #[] m }->
  codeAny (model prog w) A (.builtin "list.extend.loop" ⟨[.ref L,.ref s.heap.objs.size,res],[]⟩) R { s with heap:=hp,toks:=tk }:=fun hp m tk it keep hL1=>by
  refine codeAny_extend_loopS Wl (by rw[sizeLine_eq];lia) L Lm res k 0 _ #[] m rfl (ka _) it hL1 (ItemsOf.nil _) fun s2 ys m2 mv hL2 hy=>?_;rw[Moved.eq_with mv];refine fin s2.heap s2.toks ys m2 (fun e o ne he=>mv.heap e o (fun z=>?_) (keep e o ne he)) hL2 hy;have el:=xh he;rcases zh.mp z with z1 | z1
  ·exact ne z1
  ·exact absurd el (by rw[xb.mp z1];exact jg0 _)
 unfold Builtin.List.listExtendWith;refine jv (wpAny_typeOf (T:="range") ⟨_,hg,rfl⟩ ?_);have q1:Builtin.List.listSameRef (.ref L) (.ref g)=false:=by unfold Builtin.List.listSameRef;simp[Lg]
 simp only[q1,show(Value.type "range"==Value.type "list")=false by decide,show(Value.type "range"==Value.type "tuple")=false by decide,jt9,Bool.false_eq_true,if_false];refine jv (wpAny_pyIter_longrange hg big ?_);refine jv (ju2 (wpAny_hint_range (n:=k) (qc _ hg) ek fits ?_));have it1:IsLongIter (s.heap.push { cls:=.type "longrange_iterator",data:=.fields #[rawInt x,rawInt (Builtin.Range.rangeSize x y d),rawInt d] }) s.heap.objs.size (x+((0:Nat):Int)*d) ((k:Int)-((0:Nat):Int)) d:=by
  rw[ek];show Heap.get? _ _=_;simpa using xa s.heap rfl
 have L1:=qc { cls:=.type "longrange_iterator",data:=.fields #[rawInt x,rawInt (Builtin.Range.rangeSize x y d),rawInt d] } hL;refine wpAny_ite_split (fun _=>?_) (fun _=>xz ⟨plainId_quiet F.plain_extend_loop _,loop _ m0 _ it1 (fun e o _ he=>qc _ he) L1⟩);refine jv (jv7 (jv ?_));show wpAny _ _ (updateSeq L (·.push .none) >>= fun _=>updateSeq L (·.pop)) _ _ _;refine jv (wpAny_updateSeq L1 rfl ?_);have L2':=jf6 (Obj.mapSeq (·.push Value.none)) L1 rfl;refine wpAny_updateSeq (hz:=by seq_fits) L2' rfl ?_;have L3:=jf6 (Obj.mapSeq (·.pop)) L2' rfl;refine xz ⟨plainId_quiet F.plain_extend_loop _,loop _ _ _ ?_ (fun e o ne he=>?_) L3⟩
 ·exact(ja8 _ _ Ln).trans ((ja8 _ _ Ln).trans it1)
 ·rw[ja8 _ _ (Ne.symm ne),ja8 _ _ (Ne.symm ne)];exact qc _ he
theorem vM{R:Result->Shared->Prop}{g:Addr}{x y d:Int}{t1 t2 t3:Tok}{k:Nat}(ha:A.handled=none)(hg:IsRange s.heap g x y d t1 t2 t3)(big:Builtin.Range.small x y d=false)(ek:Builtin.Range.rangeSize x y d=k)(fits:k<=2^24)(L:Addr)
 (hL:s.heap.get? L=some { cls:=.type "list",data:=.seq #[] })
 (fin:∀hp tk ys m,(∀e o,e≠L->s.heap.get? e=some o->hp.get? e=some o)->hp.get? L=some { cls:=.type "list",dict:=none,data:=.seq ys m,slots:= #[] }->ItemsOf (fun i v=>∃t,v=.int (x+i*d) t) ys k->R (.ok (.ret .none)) { s with heap:=hp,toks:=tk }):
 wpAny (model prog w) A.in1 (Builtin.«list.__init__» ⟨[.ref L,.ref g],[]⟩)
  (fun z s'=>match z with | .done f=>R (.ok f) s' | .again m=>m.quiet=true/\codeAny (model prog w) A m R s') (fun e s'=>R (.error e) s') s:=by
 have Lg:L≠g:=fun z=>by rw[z,hg] at hL;simp at hL
 show wpAny _ _ (Builtin.List.listItems (.ref L) >>= fun old=>Builtin.List.listUpdate (.ref L) (fun _=> #[]) >>= fun _=>letGo old.toList.reverse >>= fun _=>Builtin.List.listExtendWith (.ref L) (.ref g) .none) _ _ s;refine jv ?_;unfold Builtin.List.listItems;refine jv (je5 hL rfl (xz ?_));show wpAny _ _ (updateSeq L (fun _=> #[]) >>= fun _=>letGo (#[]:Array Value).toList.reverse >>= fun _=>Builtin.List.listExtendWith (.ref L) (.ref g) .none) _ _ s;refine jv (wpAny_updateSeq hL rfl ?_);have L1:=jf6 (Obj.mapSeq (fun _=>(#[]:Array Value))) hL rfl;have keep:∀e o,e≠L->s.heap.get? e=some o->(s.heap.update L (Obj.mapSeq (fun _=>(#[]:Array Value)))).get? e=some o:=fun e o ne he=>by
  rw[ja8 _ _ (Ne.symm ne)];exact he
 refine jv (wpAny_letGo (AAf ha (keep g _ (Ne.symm Lg) hg) big ek fits L .none _ L1 fun hp tk ys m k1 k2 k3=>?_));exact fin hp tk ys m (fun e o ne he=>k1 e o ne (keep e o ne he)) k2 k3
theorem vN{E:Value->Shared->Prop}{Q:Value->Shared->Prop}{g:Addr}{x y d:Int}{t1 t2 t3:Tok}{k:Nat}(ha:A.handled=none)(hg:IsRange s.heap g x y d t1 t2 t3)(ek:Builtin.Range.rangeSize x y d=k)(fits:k<=2^24)
 (fin:∀hp tk ys m,(∀e o,s.heap.get? e=some o->hp.get? e=some o)->hp.get? s.heap.objs.size=some { cls:=.type "list",dict:=none,data:=.seq ys m,slots:= #[] }->ItemsOf (fun i v=>∃t,v=.int (x+i*d) t) ys k->Q (.ref s.heap.objs.size) { s with heap:=hp,toks:=tk }):
 wpAny (model prog w) A (call (.type "list") [.ref g]) Q E s:=by
 by_cases sm:Builtin.Range.small x y d=true
 ·exact call_list_range ha hg sm ek fits fin
 have big:Builtin.Range.small x y d=false:=by simpa using sm
 refine callType_codes (Q₁:=fun u s2=>u=.ref s.heap.objs.size/\s2={ s with heap:=s.heap.push { cls:=.type "list",data:=.seq #[] } }) F.called_list (F.typeCall_list_1 _) F.entry_list_init (code_list_new _ ⟨rfl,rfl⟩) fun u s2 z=>?_;obtain⟨rfl,rfl⟩:=z;have L0:(s.heap.push { cls:=.type "list",data:=.seq #[] }).get? s.heap.objs.size=some { cls:=.type "list",data:=.seq #[] }:=xa _ rfl;refine⟨⟨_,L0,rfl⟩,F.args_list_init_2 _ _,vM (A:=A.in1) ha (qc _ hg) big ek fits _ L0 fun hp tk ys m k1 k2 k3=>⟨rfl,?_⟩⟩;refine fin hp tk ys m (fun e o he=>k1 e o ?_ (qc _ he)) k2 k3;exact kg (xh he)
end
section
variable{X:Cx}
def ABs(ta:TA):TE:=fun Z H Q=>ta Z H fun vs H1=>∃(i j:Int),vs=[.int i,.int j]/\i<=j/\j-i<=1000000/\
 ∀l,H1 l=none->Q (.ref l) (upd H1 l (.lst ((List.range (j-i).toNat).map fun(k:Nat)=>V.int (i+(k:Int)))))
theorem cF{a b:Expr}{ta:TA}{p p2 pos pos2:Pos}(hc:X.calm=true)(hgl:Gl X "list")(hml:X.mg "list"=none)(hgr:Gl X "range")(hmr:X.mg "range"=none)(ha:PA X [a,b] ta)
 (hs:‹starEach [a,b] X.env=(false,eval a X.env)::starEach [b] X.env›)(hpl:‹(backTo pos2 (starEach [b] X.env)).any (·.1)=false›)
 (hs1:‹starEach [.Call (.Name "range" p2) [a,b] [] pos2] X.env=(false,eval (.Call (.Name "range" p2) [a,b] [] pos2) X.env)::starEach [] X.env›):
 PE X (.Call (.Name "list" p) [.Call (.Name "range" p2) [a,b] [] pos2] [] pos) (ABs ta):=by
 intro pins s Z H Q I h;refine jc5 (Hs I hgl hml boot_list ?_ nofun nofun);refine vb ?_ hs1 rfl;rw[hs1];show wpAny _ _ (spliced ((false,eval _ X.env)::backTo pos (starEach [] X.env))) _ _ s;refine Calls.spliced_cons ?_;refine Call_ (Hs I hgr hmr boot_range (vb (thn (ha (pos:=pos2) pins s Z H _ I h) fun us s1 hZ=>?_) hs hpl));obtain⟨vs,H1,I1,r1,q1⟩:=hZ;obtain⟨i,j,rfl,ij,hz,q⟩:=q1;cases r1 with
 | cons r rr=>
  cases rr with
  | cons r' rr=>
   cases rr;obtain⟨t,rfl⟩:=r;obtain⟨t',rfl⟩:=r';refine call_range_2 (Calls.spliced_nil ?_);have I2:Inv X pins Z H1 { s1 with heap:=s1.heap.push { cls:=.type "range",data:=.fields #[.int i t,.int j t',.int 1 s1.toks] },toks:=s1.toks+1 }:=I1.kept fun b o e=>qc _ e;have en:Builtin.Range.rangeSize i j 1=(((j-i).toNat:Nat):Int):=by rw[rangeSize_one];split<;>lia
   refine vN (I2.ok.hd hc) (IsRange.new ..) en ⋯ fun h' tk acc' c' hk hS' hacc=>?_;have hl:acc'.toList.length=(j-i).toNat:=by simpa using hacc.1
   have ef:(fun (k:Nat)=>V.int (i+(k:Int)))=fun(k:Nat)=>V.int (i+(k:Int)*1):=by funext k;rw[jb6]
   rw[ef] at q;refine⟨.ref _,_,I2.laid (o:=.lst ((List.range (j-i).toNat).map fun(k:Nat)=>V.int (i+(k:Int)*1))) hk (qo _) ⟨?_,acc'.toList,c',?_,by simpa using hS'⟩,rfl,q _ I2.fresh⟩
   ·rw[js,vt,sizeLine_eq];lia
   ·have:=Hq (lo:=i) (c:=1) acc'.toList 0 fun j v hv=>by rw[jo7];exact hacc.2 j v (by simpa using hv)
    rw[hl,<-List.range_eq_range'] at this;exact this
end
section
variable{X:Cx}
noncomputable def isZ(z:Str)(v:Value):Bool:=match v with | .str y _=>y==z | _=>false
theorem PlainL.at'{h:Heap}{a:Addr}{its:Array Value}(p:PlainL h a its):∃n dd sl,h.get? a=some { cls:=.type "list",dict:=dd,data:=.seq its n,slots:=sl }:=by
 obtain⟨⟨cl,di,da,sl⟩,n,e,e1,e2,e3⟩:=p;cases e1;cases e3;exact⟨n,di,sl,e⟩
theorem RM:∀{zs:List Str} {us:List Value},Vals (zs.map V.str) us->us.length=zs.length/\∀(j:Nat) (z:Str),zs[j]?=some z->∃t,us[j]?=some (Value.str z t)
 | [],_,.nil=>⟨rfl,fun j z h=>by simp at h⟩
 | y::zs,_,.cons r rs=>by
  obtain⟨t,rfl⟩:=(show ∃t,_=Value.str y t from r);obtain⟨l,h⟩:=RM rs;refine⟨by rw[qr,qr,l],fun j z hj=>?_⟩;cases j with
  | zero=>
   simp at hj;exact⟨t,by rw[hj];rfl⟩
  | succ j=>exact h j z (by simpa using hj)
theorem VV{zs:List Str}{us:List Value}(r:Vals (zs.map V.str) us){v:Value}(h:v∈us):∃z t,v=Value.str z t:=by
 obtain⟨l,g⟩:=RM r;obtain⟨j,hj,rfl⟩:=List.getElem_of_mem h;obtain⟨t,ht⟩:=g j (zs[j]'⋯) (qm _);rw[qm hj] at ht;exact⟨_,t,uk ht⟩
theorem V8(z:Str):∀{zs:List Str} {us:List Value},Vals (zs.map V.str) us->us.countP (isZ z)=zs.count z
 | [],_,.nil=>rfl
 | y::zs,_,.cons r rs=>by
  obtain⟨t,rfl⟩:=(show ∃t,_=Value.str y t from r);rw[List.countP_cons,V8 z rs,List.count_cons];rfl
def ug(K:Fr):V->List V->Hp->VK->Prop:=fun x xs H Q=>∃(l:Addr) (zs:List Str) (z:Str),x=.ref l/\xs=[.str z]/\SqL K H l (zs.map V.str)/\Q (.int ((zs.count z:Nat):Int)) H
theorem jg:MtR X "list.count" (ug X.K):=by
 intro pins s Z H x xs v us Q I rx rs h;obtain⟨l,zs,z,rfl,rfl,hl,q⟩:=h;obtain rfl:v=Value.ref l:=rx;obtain⟨u,rfl,ru⟩:=vals1 rs;obtain⟨t',rfl⟩:=(show ∃t,u=Value.str z t from ru);obtain⟨its,r,pl,_⟩:=I.list hl;obtain⟨c0,dd,sl,at0⟩:=PlainL.at' pl;have eq:∀y∈its.toArray,SeqAt.EqAt X.A.in1 s y (Value.str z t') (isZ z y):=fun y hy=>by
  obtain⟨a,t,rfl⟩:=VV r (by simpa using hy);exact SeqAt.EqAt.str_str a t z t'
 refine call_meets F.slot_list_count pl.isList.typeIs F.entry_list_count (F.args_list_count_2 _ _) (SeqAt.list_countAt l its.toArray _ _ _ (Value.str z t') (isZ z)) ⟨at0,eq,?_⟩;have ec:its.toArray.toList.countP (isZ z)=zs.count z:=V8 z r;rw[ec];exact⟨.int _,H,I.tok _,⟨_,rfl⟩,q⟩
def uf(K:Fr):V->List V->Hp->VK->Prop:=fun x xs H Q=>∃(l:Addr) (zs:List Str) (z:Str) (j:Nat),x=.ref l/\xs=[.str z]/\SqL K H l (zs.map V.str)/\zs[j]?=some z/\(∀m,m<j->zs[m]?≠some z)/\Q (.int ((j:Nat):Int)) H
theorem jf:MtR X "list.index" (uf X.K):=by
 intro pins s Z H x xs v us Q I rx rs h;obtain⟨l,zs,z,j,rfl,rfl,hl,hj,hno,q⟩:=h;obtain rfl:v=Value.ref l:=rx;obtain⟨u,rfl,ru⟩:=vals1 rs;obtain⟨t',rfl⟩:=(show ∃t,u=Value.str z t from ru);obtain⟨its,r,pl,lim⟩:=I.list hl;obtain⟨c0,dd,sl,at0⟩:=PlainL.at' pl;obtain⟨il,ig⟩:=RM r;have jl:j<zs.length:=(zk.mp hj).1;rw[js,sizeLine_eq] at lim;have eq:∀y∈its.toArray,SeqAt.EqAt X.A.in1 s y (Value.str z t') (isZ z y):=fun y hy=>by
  obtain⟨a,t,rfl⟩:=VV r (by simpa using hy);exact SeqAt.EqAt.str_str a t z t'
 have at_:∀m (hm:m<its.toArray.size),∃a t,zs[m]?=some a/\its.toArray[m]=Value.str a t:=fun m hm=>by
  have hm':m<its.length:=by simpa using hm
  obtain⟨t,ht⟩:=ig m (zs[m]'⋯) (qm _);refine⟨_,t,qm ⋯,?_⟩;rw[qm hm'] at ht;simpa using uk ht
 refine call_meets F.slot_list_index pl.isList.typeIs F.entry_list_index (F.args_list_index_2 _ _) (SeqAt.list_indexAt l its.toArray _ _ _ (Value.str z t') (isZ z) j (by simpa using (show j<its.length by lia)) ⋯ ?_ fun m hm lt=>?_) ⟨at0,eq,?_⟩
 ·obtain⟨a,t,ha,e⟩:=at_ j (by simpa using (show j<its.length by lia));rw[e];rw[hj] at ha;cases ha;show(z==z)=true;simp
 ·obtain⟨a,t,ha,e⟩:=at_ m hm;rw[e];show(a==z)=false;have:a≠z:=fun y=>hno m lt (by rw[ha,y]);simpa using this
 ·exact⟨.int _,H,I.tok _,⟨_,rfl⟩,q⟩
end
section
variable{M:Model}{A:Around}{E:Value->Shared->Prop}{s:Shared}{base:Heap}{env:Env}{outer l:List Env}{L e:Addr}{cls:Value}{dd:Option Addr}{fl:Value}
end
section
variable{X:Cx}{pins:List (Addr×Obj)}{Z:St}{H H':Hp}{s:Shared}{C ea:Addr}{cls:Value}{dx:Option Addr}{B h1 h2 h3:Heap}{fl:Value}
end
section
variable{X:Cx}{pins:List (Addr×Obj)}{Z:St}{H2:Hp}{s2:Shared}{M:List Str}{x:Str}{scope:Scope}{cl:List (Str×Addr)}{C:Addr}{fp:List Addr}{E:XK}{Qe:Value->Shared->Prop}{acc:Value}
end
section
variable{X:Cx}
end
end L2
namespace L2
open PySem PySem.Spec PyProof.Rows Builtin.Str
section
variable{X:Cx}
theorem jd:MtR X "str.rstrip" (fun x xs H Q=>∃z y,x=.str z/\xs=[.str y]/\z.length<=sizeLine/\Q (.str (if stripSame y.cps.contains false true z then z else stripped y.cps.contains false true z)) H):=by
 intro pins s Z H x xs v us Q I rx rs h;obtain⟨z,y,rfl,rfl,hz,q⟩:=h;obtain⟨t,rfl⟩:=(show ∃t,v=Value.str z t from rx);obtain⟨u,rfl,ru⟩:=vals1 rs;obtain⟨t',rfl⟩:=(show ∃t,u=Value.str y t from ru);refine call_gives F.slot_str_rstrip (typeIs_str _ _ _) F.entry_str_rstrip (F.args_str_rstrip_2 _ _) (gives_str_rstrip_chars z y t t') ?_;by_cases c:stripSame y.cps.contains false true z=true
 ·rw[xp c] at q ⊢;exact⟨.str _,H,I,⟨_,rfl⟩,q⟩
 ·rw[xy c] at q ⊢;exact⟨fits_stripped _ _ _ hz,.str _,H,I.tok _,⟨_,rfl⟩,q⟩
end
end L2
namespace L2
open PySem PySem.Spec PyProof.Rows
section
variable{prog:Program}{w:World}{A:Around}{R:Result->Shared->Prop}{I:Addr}{fp wr:List Addr}{n:Nat}{P:Nat->Value->Prop}{St:Nat->Heap->Prop}
end
section
variable{prog:Program}{w:World}{A:Around}{E:Value->Shared->Prop}{s:Shared}
end
section
variable{X:Cx}
end
end L2
namespace L2
open PySem
@[elab_as_elim] theorem fresh{P:Hp->Prop}{H:Hp}{l:Addr}{o:HO}(h:H l=none)(q:∀H',BR H H'->H' l=some o->P H'):P (upd H l o):=q _ (Av h o) Ao
example {Q:V->Hp->Prop} {H:Hp} (q:∀l H',BR H H'->H' l=some (.lst [.int 1])->Q (.ref l) H'):∀l,H l=none->Q (.ref l) (upd H l (.lst [.int 1])):=fun l hl=>by
 refine fresh hl fun H1 s1 t1=>?_;exact q l H1 s1 t1
end L2
namespace L2
open PySem PySem.Spec PyProof.Rows
section
variable{X:Cx}
end
section
variable{X:Cx}{M:List Str}{x:Str}{scope:Scope}{cl:List (Str×Addr)}{C:Addr}{s₀:Shared}{H₀:Hp}{fp:List Addr}
end
def FnG(K:Fr)(g n q:Str)(st:Stmt):Prop:=∃f fd,PySem.W.nsIn K mainGlobals g=some (some (.ref f))/\Fun K n q st f fd
def FnM(K:Fr)(C:Addr)(x n q:Str)(st:Stmt):Prop:=∃f fd,PySem.W.findIn K (.ref C) x=some (some (.ref f))/\Fun K n q st f fd/\PySem.W.typeIn K (.ref f)=some (.type "function")
def Hw(n q:Str)(st:Stmt)(ps:List Str):Prop:=∀(kV doc pm:Value) (an:Option Addr) (cdv ct:Value) (us:List Value),us.length=ps.length->bindArgs (PySem.W.fnOf n q (FQ st) (Dm st) (BX st) .none kV doc pm an cdv ct) ⟨us,[]⟩=pure (ps.zip us)
theorem qN{K:Fr}{g n q:Str}{st:Stmt}{f:Addr}{oc:Value}{od an:Option Addr}{osl:Array (Option Value)}{kV doc pm cdv ct:Value}(a:PySem.W.nsIn K mainGlobals g=some (some (.ref f)))(l:K.lookup f=some ⟨oc,od,.func (PySem.W.fnOf n q (FQ st) (Dm st) (BX st) .none kV doc pm an cdv ct),osl⟩)
 (c:PySem.W.codeIn K cdv q=true)(k:PySem.W.keepIn K (.ref f)=true):FnG K g n q st:=⟨f,_,a,qL l c k⟩
theorem AAw{K:Fr}{C:Addr}{x n q:Str}{st:Stmt}{f:Addr}{oc:Value}{od an:Option Addr}{osl:Array (Option Value)}{kV doc pm cdv ct:Value}(a:PySem.W.findIn K (.ref C) x=some (some (.ref f)))(l:K.lookup f=some ⟨oc,od,.func (PySem.W.fnOf n q (FQ st) (Dm st) (BX st) .none kV doc pm an cdv ct),osl⟩)
 (c:PySem.W.codeIn K cdv q=true)(k:PySem.W.keepIn K (.ref f)=true)(u:PySem.W.typeIn K (.ref f)=some (.type "function")):FnM K C x n q st:=⟨f,_,a,qL l c k,u⟩
section
variable{P:Program}{w:World}{K:Fr}{h:Heap}{mg:Str->Option Value}{base:Heap}{g n q:Str}{st:Stmt}{ps:List Str}{k:Nat}{sp:Sp}
theorem dJ(X:K.In h)(G:h.Ns mainGlobals mg)(Q:FnG K g n q st)(b:Hw n q st ps)(ok:∀{f:Addr} {fd:FuncData},Fun K n q st f fd->Ex P w K mg base CX0 k f fd ps sp):Cal P w K mg base k g ps sp:=by
 obtain⟨f,fd,a,F⟩:=Q;exact⟨⟨f,fd,ok F,F.binds b,F.kp,ji6 X G a⟩⟩
theorem wL{CX:CXT}{C:Addr}(Q:FnM K C g n q st)(b:Hw n q st ps)(ok:∀{f:Addr} {fd:FuncData},Fun K n q st f fd->Ex P w K mg base CX k f fd ps sp):lO P w K mg base CX k C g ps sp:=by
 obtain⟨f,fd,a,F,u⟩:=Q;exact⟨⟨f,fd,ok F,F.binds b,⟨a,jc0.mpr u,F.kp⟩⟩⟩
theorem wM{CX:CXT}{x:Str}{C:Addr}(X:K.In h)(G:h.Ns mainGlobals mg)(mk:PySem.W.makesIn K C=true)(kp:PySem.W.keepIn K (.ref C)=true)(nC:PySem.W.nsIn K mainGlobals x=some (some (.ref C)))(Q:FnM K C "__init__" n q st)(b:Hw n q st ps)(ok:∀{f:Addr} {fd:FuncData},Fun K n q st f fd->Ex P w K mg base CX k f fd ps sp):lQ P w K mg base CX k x C ps sp:=by
 obtain⟨f,fd,a,F,u⟩:=Q;exact⟨⟨f,fd,ok F,F.binds b,⟨mk,a,jc0.mpr u,kp⟩,ji6 X G nC⟩⟩
end
theorem Rx{P:Program}{w:World}{K:Fr}{mg:Str->Option Value}{base:Heap}{CX:CXT}{k0:Nat}{m n q:Str}{st:Stmt}{ps:List Str}{Cs:List Addr}{sp:Nat->Sp}
 (hC:∀C∈Cs,Cls K C/\FnM K C m n q st)(b:Hw n q st ps)(z:∀vs H Q E,¬sp 0 vs H Q E)
 (step:∀(d:Nat) {f:Addr} {fd:FuncData},Hz P w K mg base CX (k0+d) m ps (Cs.map fun C=>(C,sp d))->Fun K n q st f fd->Ex P w K mg base CX (k0+d+1) f fd ps (sp (d+1))):
 ∀d,Hz P w K mg base CX (k0+d) m ps (Cs.map fun C=>(C,sp d))
 | 0=>⟨fun p hp=>by
  obtain⟨C,hC',rfl⟩:=yv.mp hp;obtain⟨c,f,fd,a,F,u⟩:=hC C hC';exact⟨c,f,fd,⟨fun vs H Q E h=>absurd h (z vs H Q E),fun A outer s H args us vs Q E _ _ _ _ h=>absurd h (z vs H Q E)⟩,F.binds b,⟨a,jc0.mpr u,F.kp⟩⟩⟩
 | d+1=>⟨fun p hp=>by
  have R:=Rx hC b z step d;obtain⟨C,hC',rfl⟩:=yv.mp hp;obtain⟨c,f,fd,a,F,u⟩:=hC C hC';exact⟨c,f,fd,step d R F,F.binds b,⟨a,jc0.mpr u,F.kp⟩⟩⟩
theorem all_nil{α:Type}{p:α->Prop}:∀x∈([]:List α),p x:=fun _ h=>(nomatch h)
theorem all_cons{α:Type}{p:α->Prop}{a:α}{l:List α}(h:p a)(t:∀x∈l,p x):∀x∈a::l,p x:=fun x hx=>by
 rcases zh.mp hx with e | e
 ·exact e ▸ h
 ·exact t x e
section
variable{X:Cx}{k:Nat}{q:Addr}{fd:FuncData}{p:Str}{sp:Sp}{xs:List V}{kf:Nat->Int}{J:Hp->Prop}{l:Addr}{pins:List (Addr×Obj)}{Z:St}
end
section
variable{prog:Program}{w:World}{A:Around}{E:Value->Shared->Prop}{s:Shared}
theorem cQ{it t:Addr}{i:Nat}{items:Array Value}{x:Value}{Q:Value->Shared->Prop}(hit:s.heap.IsTupleIter it t i)(ht:s.heap.IsTuple t items)(hx:items[i]?=some x)
 (hQ:∀h',h'.IsTupleIter it t (i+1)->Heap.SameBut it s.heap h'->Q x { s with heap:=h' }):wpAny (model prog w) A (Builtin.SmallTypes.nextOf (.ref it)) Q E s:=by
 obtain⟨o,ho,hc,hd⟩:=id hit;obtain⟨ol,hol,_,nl,hdl⟩:=ht;unfold Builtin.SmallTypes.nextOf;refine jv (ji8 (name:=Str.ofString "__next__") hit.typeIs F.slot_tuple_iterator_next (jp4 F.slot_tuple_iterator_next hit.typeIs F.entry_tuple_iterator_next ?_ (F.args_tuple_iterator_next_1 _)));show wpAny _ _ (field (.ref it) 0 >>= _) _ _ s;refine jv (jf0 ho hd (x:=.ref t) rfl ?_);show wpAny _ _ (if (Value.ref t==Value.none)=true then _ else _) _ _ s;rw[xy (show ¬((Value.ref t==Value.none)=true) from zi)];show wpAny _ _ (field (.ref it) 1 >>= _) _ _ s;refine jv (jf0 ho hd (x:=.int i 0) rfl ?_);show wpAny _ _ (seqItems? (.ref t) >>= _) _ _ s;refine jv (je5 hol hdl ?_);simp only[zw,hx];refine jv (wpAny_setField ho hd (by simp) (xz ⟨x,rfl,xz (hQ _ ?_ (Heap.SameBut.update ..))⟩));exact⟨_,jf6 _ ho (Obj.isFreed_of_fields (Obj.data_mapFields hd _)),(Obj.cls_mapFields ..).trans hc,by rw[Obj.data_mapFields hd];simp[rawInt]⟩
theorem jb{it t:Addr}{i:Nat}{items:Array Value}{Q:Value->Shared->Prop}(hh:A.handled=none)(hit:s.heap.IsTupleIter it t i)(ht:s.heap.IsTuple t items)(hx:items[i]?=none)
 (hE:∀h' e,Heap.ExtBut it s.heap h'->(∃o,h'.get? e=some o/\o.cls=.type "StopIteration")->E (.ref e) { s with heap:=h' }):wpAny (model prog w) A (Builtin.SmallTypes.nextOf (.ref it)) Q E s:=by
 obtain⟨o,ho,hc,hd⟩:=id hit;obtain⟨ol,hol,_,nl,hdl⟩:=ht;unfold Builtin.SmallTypes.nextOf;refine jv (ji8 (name:=Str.ofString "__next__") hit.typeIs F.slot_tuple_iterator_next (jp4 F.slot_tuple_iterator_next hit.typeIs F.entry_tuple_iterator_next ?_ (F.args_tuple_iterator_next_1 _)));show wpAny _ _ (field (.ref it) 0 >>= _) _ _ s;refine jv (jf0 ho hd (x:=.ref t) rfl ?_);show wpAny _ _ (if (Value.ref t==Value.none)=true then _ else _) _ _ s;rw[xy (show ¬((Value.ref t==Value.none)=true) from zi)];show wpAny _ _ (field (.ref it) 1 >>= _) _ _ s;refine jv (jf0 ho hd (x:=.int i 0) rfl ?_);show wpAny _ _ (seqItems? (.ref t) >>= _) _ _ s;refine jv (je5 hol hdl ?_);simp only[zw,hx];refine jv (jv7 (jv (wpAny_setField ho hd (by simp) ?_)));show wpAny _ _ (newExc (.type "StopIteration") [] >>= _) _ _ _;refine jv ?_;simp only[newExc,newTuple];refine jv (jn7 ?_ (by size_fits));refine jv (m:=firstArgMember _ _) (wpAny_of_eq (a:=Value.none) (by first | rfl | (simp only[firstArgMember];rfl)) ?_)
 refine jn7 ?_ (by size_fits);simp only[raiseNew];refine jv (wpAny_handled ?_)
 first | rw[show A.in1.handled=none from hh] | rw[hh]
 refine jv (xz (wpAny_throw ?_));exact hE _ _ (((Heap.SameBut.update ..).extBut.push _).push _) ⟨_,xa _ rfl,rfl⟩
end
theorem AAy{prog:Program}{w:World}{A:Around}(hh:A.handled=none)(it t:Addr)(hne:t≠it)(items:Array Value):
 Draws prog w A it [it,t] items.size (fun i v=>items[i]?=some v) (fun i h=>h.IsTupleIter it t i/\h.IsTuple t items) where
 live:=fun i h st=>let ⟨o,e,_⟩:=st.1;⟨o,e⟩
 frame:=fun i h h' st k=>⟨let ⟨o,e,r⟩:=st.1;⟨o,k it (by simp) o e,r⟩,let ⟨o,e,r⟩:=st.2;⟨o,k t (by simp) o e,r⟩⟩
 item:=fun i s Q E hi st hQ=>cQ st.1 st.2 (x:=items[i]) (by simp[hi]) fun h' hit hs=>hQ _ h' s.toks (by simp[hi]) ⟨hit,st.2.extBut hs.extBut hne⟩ hs
 done:=fun s Q E st hE=>jb hh st.1 st.2 (by simp) hE
structure dj(z TI TO i1 i2:Addr)(f1 f2:List Addr):Prop where
 zTO:TO≠z
 zTI:TI≠z
 tt:TI≠TO
 t1:TI≠i1
 t2:TI≠i2
 m1:i1∈f1
 m2:i2∈f2
 z1:z∉f1
 z2:z∉f2
 o1:TO∉f1
 o2:TO∉f2
 n1:i2∉f1
 n2:i1∉f2
theorem Draws.sb{prog:Program}{w:World}{A:Around}{it c:Addr}{fp:List Addr}{n i:Nat}{P:Nat->Value->Prop}{St:Nat->Heap->Prop}{h h':Heap}(D:Draws prog w A it fp n P St)(st:St i h)(k:Heap.SameBut c h h')(nc:c∉fp):St i h':=
 D.frame i h h' st fun b hb o e=>k.extBut b o (fun z=>nc (z ▸ hb)) e
section
variable{prog:Program}{w:World}{A:Around}{E:Value->Shared->Prop}{s:Shared}{z TI TO i1 i2:Addr}{f1 f2:List Addr}{n1 n2 k:Nat}{P1 P2:Nat->Value->Prop}{S1 S2:Nat->Heap->Prop}{a b:Value}
theorem iV{Q:Value->Shared->Prop}(D:dj z TI TO i1 i2 f1 f2)(D1:Draws prog w A i1 f1 n1 P1 S1)(D2:Draws prog w A i2 f2 n2 P2 S2)
 (hz:IsZip s.heap z TI TO .none)(hTI:IsPair s.heap TI (.ref i1) (.ref i2))(hTO:IsPair s.heap TO a b)(h1:S1 k s.heap)(h2:S2 k s.heap)(l1:k<n1)(l2:k<n2)
 (hQ:∀x y h' tk,P1 k x->P2 k y->IsZip h' z TI TO (rawInt s.heap.objs.size)->IsPair h' TO x y->S1 (k+1) h'->S2 (k+1) h'->IsPair h' s.heap.objs.size x y->
  (∀c o,c≠z->c≠TO->c≠i1->c≠i2->s.heap.get? c=some o->h'.get? c=some o)->Q (.ref s.heap.objs.size) { s with heap:=h',toks:=tk }):
 wpAny (model prog w) A (Builtin.«zip.__next__» ⟨[.ref z],[]⟩) (fun fin s'=>∃v,fin=.done (.ret v)/\Q v s') E s:=by
 have zi1:z≠i1:=fun e=>D.z1 (e ▸ D.m1);have zi2:z≠i2:=fun e=>D.z2 (e ▸ D.m2);have oi1:TO≠i1:=fun e=>D.o1 (e ▸ D.m1);have oi2:TO≠i2:=fun e=>D.o2 (e ▸ D.m2);show wpAny _ _ (field (.ref z) 2 >>= _) _ _ _;refine jv (jf0 hz rfl (x:=.bool false) rfl ?_);show wpAny _ _ (field (.ref z) 3 >>= _) _ _ _;refine jv (jf0 hz rfl (x:=.ref TI) rfl ?_);refine jv (je5 hTI rfl ?_);show wpAny _ _ (Builtin.SmallTypes.ownedTupleIsFree (.ref z) >>= _) _ _ _;refine jv ?_;unfold Builtin.SmallTypes.ownedTupleIsFree;refine jv (jf0 hz rfl (x:=.none) rfl (xz ?_));simp only[if_true];refine jv (jv7 (jv (jf0 hz rfl (x:=.ref TO) rfl ?_)));refine jv (jg4 hz (by simp) fun g1 hz1 q1=>jv ?_);replace hz1:IsZip g1 z TI TO .ellipsis:=hz1;simp only[List.zipIdx_cons,List.zipIdx_nil,jm2,js9];refine jv (jv (ju3 ?_));show wpAny _ _ (Builtin.SmallTypes.nextOf (.ref i1) >>= _) _ _ _;refine(jv (D1.item k _ _ _ l1 (Draws.sb D1 h1 q1 D.z1) fun x g2 tk2 px s2 q2=>xz ?_));have p2:IsPair g2 TO a b:=q2.extBut _ _ oi1 (q1.extBut _ _ D.zTO hTO);refine jv (je5 p2 rfl (jv (jp6 p2 fun g3 p3 q3=>jv (wpAny_letGo (xz ?_)))));replace p3:IsPair g3 TO x b:=p3;refine jv (jv (ju3 ?_));show wpAny _ _ (Builtin.SmallTypes.nextOf (.ref i2) >>= _) _ _ _;refine(jv (D2.item k _ _ _ l2 (Draws.sb D2 (Draws.sb D2 (Draws.sb D2 h2 q1 D.z2) q2 D.n2) q3 D.o2) fun y g4 tk4 py s4 q4=>xz ?_));have p4:IsPair g4 TO x b:=q4.extBut _ _ oi2 p3;refine jv (je5 p4 rfl (jv (jp6 p4 fun g5 p5 q5=>jv (wpAny_letGo (xz (xz ?_))))));replace p5:IsPair g5 TO x y:=p5;refine jv (je5 p5 rfl (jv (wpAny_newTuple ?_)));have hsz:g5.objs.size=s.heap.objs.size:=by rw[q5.1,q4.1,q3.1,q2.1,q1.1]
 have z5:IsZip g5 z TI TO .ellipsis:=q5.extBut _ _ D.zTO.symm (q4.extBut _ _ zi2 (q3.extBut _ _ D.zTO.symm (q2.extBut _ _ zi1 hz1)));have zlt:z<g5.objs.size:=xh z5;have e1:S1 (k+1) g5:=Draws.sb D1 (Draws.sb D1 (Draws.sb D1 s2 q3 D.o1) q4 D.n1) q5 D.o1;have e2:S2 (k+1) g5:=Draws.sb D2 s4 q5 D.o2;show wpAny _ _ (Builtin.SmallTypes.ownedTupleHandOut (.ref z) (.ref g5.objs.size) >>= _) _ _ _;refine jv ?_;unfold Builtin.SmallTypes.ownedTupleHandOut;have z6:IsZip (g5.push { cls:=.type "tuple",data:=.seq #[x,y] }) z TI TO .ellipsis:=qc _ z5;refine jv (jg4 z6 (by simp) fun g7 z7 q7=>?_);replace z7:IsZip g7 z TI TO (rawInt g5.objs.size):=z7;refine jg4 z7 (by simp) fun g8 z8 q8=>?_;replace z8:IsZip g8 z TI TO (rawInt g5.objs.size):=z8;have up:∀c o,c≠z->g5.get? c=some o->g8.get? c=some o:=fun c o n e=>q8.extBut _ _ n (q7.extBut _ _ n (qc _ e));have t8:IsPair g8 g5.objs.size x y:=q8.extBut _ _ (jv5 zlt) (q7.extBut _ _ (jv5 zlt) (xa _ rfl));rw[hsz] at z8 t8;refine xz ⟨_,rfl,?_⟩;show Q (.ref g5.objs.size) _;rw[hsz];exact hQ x y g8 tk4 px py z8 (up _ _ D.zTO p5) (D1.frame _ _ _ e1 fun c hc o e=>up c o (fun q=>D.z1 (q ▸ hc)) e) (D2.frame _ _ _ e2 fun c hc o e=>up c o (fun q=>D.z2 (q ▸ hc)) e) t8
  fun c o c1 c2 c3 c4 e=>up c o c1 (q5.extBut _ _ c2 (q4.extBut _ _ c4 (q3.extBut _ _ c2 (q2.extBut _ _ c3 (q1.extBut _ _ c1 e)))))
theorem lR{Q:PySem.Fin->Shared->Prop}(D:dj z TI TO i1 i2 f1 f2)(D1:Draws prog w A i1 f1 n1 P1 S1)(D2:Draws prog w A i2 f2 n2 P2 S2)
 (hz:IsZip s.heap z TI TO .none)(hTI:IsPair s.heap TI (.ref i1) (.ref i2))(hTO:IsPair s.heap TO a b)(h1:S1 k s.heap)(h2:S2 k s.heap)(hk:k=n1\/k<n1/\k=n2)
 (hE:∀h' tk e,(∀c o,c≠z->c≠TO->c≠i1->c≠i2->s.heap.get? c=some o->h'.get? c=some o)->(∃o,h'.get? e=some o/\o.cls=.type "StopIteration")->E (.ref e) { s with heap:=h',toks:=tk }):
 wpAny (model prog w) A (Builtin.«zip.__next__» ⟨[.ref z],[]⟩) Q E s:=by
 have zi1:z≠i1:=fun e=>D.z1 (e ▸ D.m1);have zi2:z≠i2:=fun e=>D.z2 (e ▸ D.m2);have oi1:TO≠i1:=fun e=>D.o1 (e ▸ D.m1);have oi2:TO≠i2:=fun e=>D.o2 (e ▸ D.m2);show wpAny _ _ (field (.ref z) 2 >>= _) _ _ _;refine jv (jf0 hz rfl (x:=.bool false) rfl ?_);show wpAny _ _ (field (.ref z) 3 >>= _) _ _ _;refine jv (jf0 hz rfl (x:=.ref TI) rfl ?_);refine jv (je5 hTI rfl ?_);show wpAny _ _ (Builtin.SmallTypes.ownedTupleIsFree (.ref z) >>= _) _ _ _;refine jv ?_;unfold Builtin.SmallTypes.ownedTupleIsFree;refine jv (jf0 hz rfl (x:=.none) rfl (xz ?_));simp only[if_true];refine jv (jv7 (jv (jf0 hz rfl (x:=.ref TO) rfl ?_)));refine jv (jg4 hz (by simp) fun g1 hz1 q1=>jv ?_);replace hz1:IsZip g1 z TI TO .ellipsis:=hz1;simp only[List.zipIdx_cons,List.zipIdx_nil,jm2,js9];refine jv (jv (ju3 ?_));show wpAny _ _ (Builtin.SmallTypes.nextOf (.ref i1) >>= _) _ _ _;rcases hk with e | ⟨l1,e⟩
 ·subst e;refine jv (D1.done _ _ _ (Draws.sb D1 h1 q1 D.z1) fun g2 e q2 hZ=>?_);obtain⟨oe,hoe,hce⟩:=hZ;have z2:IsZip g2 z TI TO .ellipsis:=q2 _ _ zi1 hz1;have ez:e≠z:=fun x=>by subst x;rw[z2] at hoe;cases hoe;simp at hce
  exact jg4 z2 (by simp) fun g3 _ q3=>hE g3 s.toks e (fun c o c1 _ c3 _ x=>q3.extBut _ _ c1 (q2 _ _ c3 (q1.extBut _ _ c1 x))) ⟨oe,q3.extBut _ _ ez hoe,hce⟩
 ·subst e;refine jv (D1.item k _ _ _ l1 (Draws.sb D1 h1 q1 D.z1) fun x g2 tk2 px s2 q2=>xz ?_);have p2:IsPair g2 TO a b:=q2.extBut _ _ oi1 (q1.extBut _ _ D.zTO hTO);refine jv (je5 p2 rfl (jv (jp6 p2 fun g3 p3 q3=>jv (wpAny_letGo (xz ?_)))));refine jv (jv (ju3 ?_));show wpAny _ _ (Builtin.SmallTypes.nextOf (.ref i2) >>= _) _ _ _;refine jv (D2.done _ _ _ (Draws.sb D2 (Draws.sb D2 (Draws.sb D2 h2 q1 D.z2) q2 D.n2) q3 D.o2) fun g4 e q4 hZ=>?_);obtain⟨oe,hoe,hce⟩:=hZ;have z4:IsZip g4 z TI TO .ellipsis:=q4 _ _ zi2 (q3.extBut _ _ D.zTO.symm (q2.extBut _ _ zi1 hz1));have ez:e≠z:=fun x=>by subst x;rw[z4] at hoe;cases hoe;simp at hce
  exact jg4 z4 (by simp) fun g5 _ q5=>hE g5 tk2 e (fun c o c1 c2 c3 c4 x=>q5.extBut _ _ c1 (q4 _ _ c4 (q3.extBut _ _ c2 (q2.extBut _ _ c3 (q1.extBut _ _ c1 x))))) ⟨oe,q5.extBut _ _ ez hoe,hce⟩
end
section
variable{prog:Program}{w:World}{A:Around}{E:Value->Shared->Prop}{s:Shared}{z TI TO i1 i2 l1 l2:Addr}{k:Nat}{xs ys:Array Value}{a b:Value}
theorem apart2(D:ZipApart z TI TO i1 i2 l1 l2):dj z TI TO i1 i2 [i1,l1] [i2,l2]:=
 ⟨D.TOz,D.TIz,D.TITO,D.TIi1,D.TIi2,by simp,by simp,by simp[D.i1z.symm,D.l1z.symm],by simp[D.i2z.symm,D.l2z.symm],by simp[D.TOi1,D.l1TO.symm],by simp[D.TOi2,D.l2TO.symm],by simp[D.i12.symm,D.l1i2.symm],by simp[D.i12,D.l2i1.symm]⟩
end
noncomputable abbrev zT1(h:Heap)(a:Addr):Heap:=h.push { cls:=.type "tuple_iterator",data:=.fields #[.ref a,.int 0 0] }
section
variable{X:Cx}
end
section
variable{P:Program}{w:World}{K:Fr}{h:Heap}{mg:Str->Option Value}{base:Heap}{k0 J:Nat}{g n q:Str}{st:Stmt}{ps:List Str}{sp:Nat->Sp}
theorem XS(X:K.In h)(G:h.Ns mainGlobals mg)(F:FnG K g n q st)(b:Hw n q st ps)(z:∀vs H Q E,¬sp 0 vs H Q E)
 (step:∀(d:Nat) {f:Addr} {fd:FuncData},Cal P w K mg base (k0+J*d) g ps (sp d)->Fun K n q st f fd->Ex P w K mg base CX0 (k0+J*d+J) f fd ps (sp (d+1))):
 ∀d,Cal P w K mg base (k0+J*d) g ps (sp d)
 | 0=>dJ X G F b fun _=>⟨fun vs H Q E h=>absurd h (z vs H Q E),fun A outer s H args us vs Q E _ _ _ _ h=>absurd h (z vs H Q E)⟩
 | d+1=>by
  have R:=XS X G F b z step d;rw[show k0+J*(d+1)=k0+J*d+J by rw[Nat.mul_succ,ju0]];exact dJ X G F b fun F'=>step d R F'
end
end L2
namespace L2
open PySem PySem.Spec PyProof.Rows Builtin.Str
section
variable{X:Cx}
theorem je:MtR X "str.lstrip" (fun x xs H Q=>∃z y,x=.str z/\xs=[.str y]/\z.length<=sizeLine/\Q (.str (if stripSame y.cps.contains true false z then z else stripped y.cps.contains true false z)) H):=by
 intro pins s Z H x xs v us Q I rx rs h;obtain⟨z,y,rfl,rfl,hz,q⟩:=h;obtain⟨t,rfl⟩:=(show ∃t,v=Value.str z t from rx);obtain⟨u,rfl,ru⟩:=vals1 rs;obtain⟨t',rfl⟩:=(show ∃t,u=Value.str y t from ru);refine call_gives F.slot_str_lstrip (typeIs_str _ _ _) F.entry_str_lstrip (F.args_str_lstrip_2 _ _) (gives_str_lstrip_chars z y t t') ?_;by_cases c:stripSame y.cps.contains true false z=true
 ·rw[xp c] at q ⊢;exact⟨.str _,H,I,⟨_,rfl⟩,q⟩
 ·rw[xy c] at q ⊢;exact⟨fits_stripped _ _ _ hz,.str _,H,I.tok _,⟨_,rfl⟩,q⟩
end
end L2
namespace L2
open PySem PySem.W PySem.Spec PyProof.Rows
section
variable{κ:Type}[DecidableEq κ]
noncomputable def GK(kvs:List (κ×V))(k:κ):Option V:=(kvs.find? fun kv=>decide (kv.1=k)).map (·.2)
noncomputable def putK(kvs:List (κ×V))(k:κ)(v:V):List (κ×V):=
 if (kvs.any fun kv=>decide (kv.1=k))=true then kvs.map (fun kv=>if kv.1=k then (kv.1,v) else kv) else kvs++[(k,v)]
theorem Fj{p:κ×V}{r:List (κ×V)}{k:κ}(e:p.1=k):GK (p::r) k=some p.2:=by simp[GK,jj7,e]
theorem Fl{p:κ×V}{r:List (κ×V)}{k:κ}(e:¬p.1=k):GK (p::r) k=GK r k:=by simp[GK,jj7,e]
theorem Lz(k:κ):∀kvs:List (κ×V),(kvs.any fun kv=>decide (kv.1=k))=(GK kvs k).isSome
 | []=>rfl
 | p::r=>by
  rw[jm1];by_cases e:p.1=k
  ·simp only[Fj e,decide_eq_true e,Bool.true_or,Option.isSome_some]
  ·rw[Fl e,decide_eq_false e,Bool.false_or];exact Lz k r
theorem Yd(k j:κ)(y:V):∀kvs:List (κ×V),GK (kvs.map fun kv=>if kv.1=k then (kv.1,y) else kv) j=(GK kvs j).map fun x=>if j=k then y else x
 | []=>rfl
 | p::r=>by
  have ih:=Yd k j y r;rw[zv];by_cases h:p.1=k
  ·rw[xp h];by_cases e:p.1=j
   ·rw[Fj (p:=(p.1,y)) e,Fj e,jq8,xp (e.symm.trans h)]
   ·rw[Fl (p:=(p.1,y)) e,Fl e,ih]
  ·rw[xy h];by_cases e:p.1=j
   ·rw[Fj (p:=p) e,Fj e,jq8,xy (fun z=>h (e.trans z))]
   ·rw[Fl (p:=p) e,Fl e,ih]
theorem Vb(k j:κ)(y:V):∀kvs:List (κ×V),GK kvs k=none->GK (kvs++[(k,y)]) j=if j=k then some y else GK kvs j
 | [],_=>by
  by_cases e:k=j
  ·rw[xp e.symm];exact Fj (p:=(k,y)) e
  ·rw[xy (fun z=>e z.symm)];exact Fl (p:=(k,y)) e
 | p::r,hn=>by
  rw[jj0];have hk:¬p.1=k:=fun z=>by rw[Fj z] at hn;cases hn
  rw[Fl hk] at hn;have ih:=Vb k j y r hn;by_cases e:p.1=j
  ·rw[Fj e,Fj e,xy (fun z=>hk (e.trans z))]
  ·rw[Fl e,Fl e,ih]
theorem lZ(kvs:List (κ×V))(k j:κ)(y:V):GK (putK kvs k y) j=if j=k then some y else GK kvs j:=by
 unfold putK;by_cases a:(kvs.any fun kv=>decide (kv.1=k))=true
 ·rw[xp a,Yd];rw[Lz] at a;by_cases e:j=k
  ·obtain⟨x,hx⟩:=jh5.mp a;rw[xp e,e,hx,jq8,xp rfl]
  ·rw[xy e];cases GK kvs j with
   | none=>rfl
   | some x=>rw[jq8,xy e]
 ·rw[xy a];refine Vb k j y kvs ?_;rw[Lz] at a;cases q:GK kvs k with
  | none=>rfl
  | some x=>rw[q] at a;exact(a rfl).elim
theorem KH(kvs:List (κ×V))(k:κ)(v:V):(putK kvs k v).length<=kvs.length+1:=by
 unfold putK;split
 ·rw[js];lia
 ·rw[ze,qr,jj9];lia
theorem Jk.isSome_eq{o:Option V}{u:Option Value}(r:Jk o u):o.isSome=u.isSome:=by
 cases o with
 | none=>cases u with
  | none=>rfl
  | some _=>exact(show False from r).elim
 | some _=>cases u with
  | none=>exact(show False from r).elim
  | some _=>rfl
theorem KV.val{kvs:List (κ×V)}{vs:List (κ×Value)}(r:KV kvs vs)(k:κ):Jk (GK kvs k) (valueAt vs k):=by
 unfold KV at r
 induction r with
 | nil=>exact True.intro
 | @cons p q ps qs h t ih=>
  obtain⟨h1,h2⟩:=h;by_cases e:p.1=k
  ·have e':q.1=k:=h1.symm.trans e;have b:valueAt (q::qs) k=some q.2:=by simp[valueAt,jj7,e']
   rw[Fj e,b];exact h2
  ·have e':¬q.1=k:=fun z=>e (h1.trans z);have b:valueAt (q::qs) k=valueAt qs k:=by simp[valueAt,jj7,e']
   rw[Fl e,b];exact ih
theorem KV.any{kvs:List (κ×V)}{vs:List (κ×Value)}(r:KV kvs vs)(k:κ):(kvs.any fun kv=>decide (kv.1=k))=vs.any fun kv=>decide (kv.1=k):=by
 unfold KV at r
 induction r with
 | nil=>rfl
 | cons h t ih=>rw[jm1,jm1,ih,h.1]
theorem KV.repl{kvs:List (κ×V)}{vs:List (κ×Value)}(r:KV kvs vs)(k:κ){y:V}{u:Value}(ry:RelV y u):
 KV (kvs.map fun kv=>if kv.1=k then (kv.1,y) else kv) (vs.map fun kv=>if kv.1=k then (kv.1,u) else kv):=by
 unfold KV at r ⊢
 induction r with
 | nil=>exact .nil
 | @cons p q ps qs h t ih=>
  rw[zv,zv];refine .cons ?_ ih;obtain⟨h1,h2⟩:=h;by_cases e:p.1=k
  ·rw[xp e,xp (h1.symm.trans e)];exact⟨h1,ry⟩
  ·rw[xy e,xy (fun z=>e (h1.trans z))];exact⟨h1,h2⟩
theorem KV.put{kvs:List (κ×V)}{vs:List (κ×Value)}(r:KV kvs vs)(k:κ){y:V}{u:Value}(ry:RelV y u):KV (putK kvs k y) (stored vs k u):=by
 unfold putK stored;rw[r.any k];by_cases e:(vs.any fun kv=>decide (kv.1=k))=true
 ·rw[xp e,xp e];exact r.repl k ry
 ·rw[xy e,xy e];exact Paired.snoc r ⟨rfl,ry⟩
theorem KV.length{kvs:List (κ×V)}{vs:List (κ×Value)}(r:KV kvs vs):kvs.length=vs.length:=Paired.length r
end
theorem S5{P:Program}{w:World}{k:Key}{u:Value}(r:RelV (kV k) u):(Es P w).is k u=true:=by
 cases k with
 | inl i=>obtain⟨t,e⟩:=(show ∃t,u=Value.int i t from r);subst e;exact Zf P w i t
 | inr x=>obtain⟨t,e⟩:=(show ∃t,u=Value.str x t from r);subst e;exact KC P w x t
theorem Vx{P:Program}{w:World}:∀{ks:List Key} {us:List Value},Vals (ks.map kV) us->ItemsAre (Es P w) ks us
 | [],_,r=>by rw[jl2] at r;cases r;exact .nil
 | k::ks,_,r=>by
  rw[zv] at r;cases r with
  | cons h t=>exact .cons (S5 h) (Vx t)
abbrev KT(H:Hp):List (List Key×V)->List (List Key×Addr×Value)->Prop:=Paired fun p q=>p.1=q.1/\H q.2.1=some (.tup (p.1.map kV))/\RelV p.2 q.2.2
variable{H:Hp}
theorem KT.val{kvs:List (List Key×V)}{xs:List (List Key×Addr×Value)}(r:KT H kvs xs)(k:List Key):Jk (GK kvs k) ((atKey xs k).map (·.2)):=by
 induction r with
 | nil=>exact True.intro
 | @cons p q ps qs h t ih=>
  obtain⟨h1,_,h2⟩:=h;by_cases e:p.1=k
  ·have e':q.1=k:=h1.symm.trans e;have b:atKey (q::qs) k=some q.2:=by simp[atKey,jj7,e']
   rw[Fj e,b];exact h2
  ·have e':¬q.1=k:=fun z=>e (h1.trans z);have b:atKey (q::qs) k=atKey qs k:=by simp[atKey,jj7,e']
   rw[Fl e,b];exact ih
theorem KT.repl{kvs:List (List Key×V)}{xs:List (List Key×Addr×Value)}(r:KT H kvs xs)(k:List Key){y:V}{u:Value}(ry:RelV y u):
 KT H (kvs.map fun kv=>if kv.1=k then (kv.1,y) else kv) (xs.map (putAt k u)):=by
 induction r with
 | nil=>exact .nil
 | @cons p q ps qs h t ih=>
  rw[zv,zv];refine .cons ?_ ih;obtain⟨h1,h2,h3⟩:=h;unfold putAt;by_cases e:p.1=k
  ·rw[xp e,xp (h1.symm.trans e)];exact⟨h1,h2,ry⟩
  ·rw[xy e,xy (fun z=>e (h1.trans z))];exact⟨h1,h2,h3⟩
theorem KT.put{kvs:List (List Key×V)}{xs:List (List Key×Addr×Value)}(r:KT H kvs xs)(k:List Key){b:Addr}{y:V}{u:Value}(hb:H b=some (.tup (k.map kV)))(ry:RelV y u):
 KT H (putK kvs k y) (storedH xs k b u):=by
 have e:(kvs.any fun kv=>decide (kv.1=k))=(atKey xs k).isSome:=by
  rw[Lz,(r.val k).isSome_eq,Option.isSome_map]
 unfold putK storedH;rw[e];by_cases q:(atKey xs k).isSome=true
 ·rw[xp q,xp q];exact r.repl k ry
 ·rw[xy q,xy q];exact Paired.snoc r ⟨rfl,hb,ry⟩
theorem KT.keeps{H':Hp}{kvs:List (List Key×V)}{xs:List (List Key×Addr×Value)}(r:KT H kvs xs)(ht:∀b ys,H b=some (.tup ys)->H' b=some (.tup ys)):KT H' kvs xs:=
 Paired.mapP r fun _ _ z=>⟨z.1,ht _ _ z.2.1,z.2.2⟩
section
variable{P:Program}{w:World}{H:Hp}{h:Heap}{a:Addr}
theorem xX{u:HO}(ok:HOk P w H h)(e:Rd H a u):Ep P w H h a u:=e.ok ok
theorem gf{kvs:List (Key×V)}(ok:HOk P w H h)(e:Rd H a (.dK kvs)):kvs.length<=sizeLine/\(a==sysModules)=false/\∃vs,KV kvs vs/\h.DictOf (Es P w) a vs:=
 show Ep P w H h a (.dK kvs) from xX ok e
theorem ADN{kvs:List (Key×V)}(ok:HOk P w H h)(e:H a=some (.dK kvs)):kvs.length<=sizeLine/\(a==sysModules)=false/\∃vs,KV kvs vs/\h.DictOf (Es P w) a vs:=gf ok (.inl e)
theorem Xw{ks:List Key}(ok:HOk P w H h)(e:H a=some (.tup (ks.map kV))):(tupleKind (Es P w)).is h ks a:=by
 obtain⟨_,its,r,o,h1,h2,n,h3⟩:=(show Ep P w H h a (.tup (ks.map kV)) from ok a _ e);exact⟨o,its.toArray,n,h1,h2,h3,by simpa using Vx r⟩
theorem gW{kvs:List (List Key×V)}(ok:HOk P w H h)(e:Rd H a (.dT kvs)):kvs.length<=sizeLine/\(a==sysModules)=false/\
 ∃xs,KT H kvs xs/\h.DictOfH (tupleKind (Es P w)) a xs:=by
 obtain⟨z,y,xs,r,o,es,ep,h1,h2,h3,h4,h5⟩:=(show Ep P w H h a (.dT kvs) from xX ok e);refine⟨z,y,xs,r,o,es,ep,h1,h2,h3,h4,fun x hx=>?_,h5⟩;have all:∀{l:List (List Key×V)} {m:List (List Key×Addr×Value)},KT H l m->∀x∈m,(tupleKind (Es P w)).is h x.1 x.2.1:=by
  intro l m q
  induction q with
  | nil=>intro x hx;exact nomatch hx
  | @cons p q ps qs hq t ih=>
   intro x hx;rcases zh.mp hx with e | hx
   ·subst e;exact Xw ok (by rw[<-hq.1];exact hq.2.1)
   ·exact ih x hx
 exact all r x hx
theorem ADM{kvs:List (List Key×V)}(ok:HOk P w H h)(e:H a=some (.dT kvs)):kvs.length<=sizeLine/\(a==sysModules)=false/\
 ∃xs,KT H kvs xs/\h.DictOfH (tupleKind (Es P w)) a xs:=gW ok (.inl e)
end
def Qz(H:Hp)(a:Addr)(y:V)(r:Option V):Prop:=
 (∃kvs k,Rd H a (.dK kvs)/\y=kV k/\r=GK kvs k)\/∃kvs k b,Rd H a (.dT kvs)/\y=.ref b/\H b=some (.tup (k.map kV))/\r=GK kvs k
def aV(H:Hp)(a:Addr)(y v:V)(H':Hp):Prop:=
 (∃kvs k,H a=some (.dK kvs)/\y=kV k/\kvs.length<sizeLine/\H'=upd H a (.dK (putK kvs k v)))\/
 ∃kvs k b,H a=some (.dT kvs)/\y=.ref b/\H b=some (.tup (k.map kV))/\kvs.length<sizeLine/\H'=upd H a (.dT (putK kvs k v))
theorem Qz.k{a:Addr}{kvs:List (Key×V)}{k:Key}(e:H a=some (.dK kvs)):Qz H a (kV k) (GK kvs k):=.inl ⟨kvs,k,.inl e,rfl,rfl⟩
theorem aV.k{a:Addr}{kvs:List (Key×V)}{k:Key}{v:V}(e:H a=some (.dK kvs))(hl:kvs.length<sizeLine):aV H a (kV k) v (upd H a (.dK (putK kvs k v))):=.inl ⟨kvs,k,e,rfl,hl,rfl⟩
section
variable{X:Cx}{pins:List (Addr×Obj)}{Z:St}{H:Hp}{s:Shared}{a:Addr}{y v:V}{u r:Value}{o:Option V}{A:Around}{E:Value->Shared->Prop}
theorem Inv.big(I:Inv X pins Z H s):sysModules<s.heap.objs.size:=by
 have h:mainGlobals<s.heap.objs.size:=(I.mod.glob.keeps I.bk).lt;exact js3 nofun h
theorem kO{Q:Value->Shared->Prop}(hu:A.units+1<cLine)(I:Inv X pins Z H s)(g:Qz H a y (some v))(ry:RelV y u)(h:∀w' s',Inv X pins Z H s'->RelV v w'->Q w' s'):
 wpAny (model X.prog X.w) A (getItem (.ref a) u) Q E s:=by
 rcases g with ⟨kvs,k,e,ey,l⟩ | ⟨kvs,k,b,e,ey,eb,l⟩
 ·subst ey;obtain⟨z,hd,vs,rel,dd⟩:=gf I.hok e;obtain⟨w',hw,rw'⟩:=Jk.some_of (v:=v) (o:=valueAt vs k) (by rw[l];exact rel.val k);exact wpAny_getItem_of (S5 ry) dd.mapOf hw (h w' _ (I.tok _) rw')
 ·subst ey;cases (show u=Value.ref b from ry);obtain⟨z,hd,xs,rel,dd⟩:=gW I.hok e;obtain⟨w',hw,rw'⟩:=Jk.some_of (v:=v) (o:=(atKey xs k).map (·.2)) (by rw[l];exact rel.val k);obtain⟨p,hp,hp2⟩:=ku.mp hw;refine wpAny_getItem_heap (tupleKind_room_in1 hu) (Xw I.hok eb) dd hp ?_;rw[hp2];exact h w' _ (I.tok _) rw'
theorem wH{Q:Value->Shared->Prop}(hu:A.units+1<cLine)(I:Inv X pins Z H s)(g:Qz H a y o)(ry:RelV y u)(h:∀s',Inv X pins Z H s'->Q (.bool (!o.isSome)) s'):
 wpAny (model X.prog X.w) A (compareOp .NotIn u (.ref a)) Q E s:=by
 rcases g with ⟨kvs,k,e,ey,l⟩ | ⟨kvs,k,b,e,ey,eb,l⟩
 ·subst ey;obtain⟨z,hd,vs,rel,dd⟩:=gf I.hok e;refine wpAny_notIn_of (S5 ry) hd dd.mapOf ?_;rw[<-(rel.val k).isSome_eq,<-l];exact h _ (I.tok _)
 ·subst ey;cases (show u=Value.ref b from ry);obtain⟨z,hd,xs,rel,dd⟩:=gW I.hok e;refine wpAny_notIn_heap (tupleKind_room_in1 hu) (Xw I.hok eb) hd dd ?_;have q:=(rel.val k).isSome_eq;rw[Option.isSome_map] at q;rw[<-q,<-l];exact h _ (I.tok _)
theorem gw{h':Heap}{t':Nat}{ob:HO}(I:Inv X pins Z H s)(mu:Mut (H a))(hs:Heap.SameBut a s.heap h')(he:∃q,h'.get? a=some q)(new:Ep X.prog X.w (upd H a ob) h' a ob):
 Inv X pins Z (upd H a ob) { s with heap:=h',toks:=t' }:=
 I.write (x:=a) (e:=a) mu (.inl rfl) (fun b q hb z=>(hs.2 b hb).trans z) he new
theorem ABH{P:Program}{w:World}{H':Hp}{h':Heap}{kvs:List (Key×V)}{vs:List (Key×Value)}(z:kvs.length<=sizeLine)(hd:(a==sysModules)=false)(rel:KV kvs vs)(dd:h'.DictOf (Es P w) a vs):
 Ep P w H' h' a (.dK kvs):=⟨z,hd,vs,rel,dd⟩
theorem kJ{H':Hp}{Q:Unit->Shared->Prop}(hu:A.units+1<cLine)(I:Inv X pins Z H s)(g:aV H a y v H')(ry:RelV y u)(rv:RelV v r)(h:∀s',Inv X pins Z H' s'->Q () s'):
 wpAny (model X.prog X.w) A (setItem (.ref a) u r) Q E s:=by
 rcases g with ⟨kvs,k,e,ey,l,eH⟩ | ⟨kvs,k,b,e,ey,eb,l,eH⟩
 ·subst ey eH;obtain⟨z,hd,vs,rel,dd⟩:=ADN I.hok e;have hz:vs.length<=sizeLine:=by rw[<-rel.length];exact z
  have hl:(putK kvs k v).length<=sizeLine:=by have:=KH kvs k v;lia
  refine wpAny_setItem_pairs (hsz:=hz) (S5 ry) dd fun h' dd' hs=>h _ ?_;have he:∃q,h'.get? a=some q:=let ⟨q,_,_,hq,_⟩:=dd';⟨q,hq⟩;exact gw I (by rw[e];exact True.intro) hs he (ABH hl hd (rel.put k rv) dd')
 ·subst ey eH;cases (show u=Value.ref b from ry);obtain⟨z,hd,xs,rel,dd⟩:=ADM I.hok e;have hz:xs.length<=sizeLine:=by rw[<-Paired.length rel];exact z
  have hl:(putK kvs k v).length<=sizeLine:=by have:=KH kvs k v;lia
  refine wpAny_setItem_heap (hsz:=hz) (tupleKind_room_in1 hu) (Xw I.hok eb) dd fun h' dd' hs=>h _ ?_;obtain⟨q,es,ep,hq,h2,h3,h4,_,h5⟩:=dd';refine gw I (by rw[e];exact True.intro) hs ⟨q,hq⟩ ⟨hl,hd,_,(rel.put k eb rv).keeps fun c ys ec=>?_,q,es,ep,hq,h2,h3,h4,h5⟩;rw[BP (Hh ec e (fun z=>nomatch z))];exact ec
end
section
variable{X:Cx}{pins:List (Addr×Obj)}{Z:St}{H:Hp}{s:Shared}{a:Addr}{kvs:List (Key×V)}{k:Key}{u:Value}{A:Around}{E:Value->Shared->Prop}
end
def ABd(i:Expr):Prop:=∀ov iv,subscripted i false ov iv=operate [ov,iv] (getItem ov iv)
theorem eQ{prog:Program}{w:World}{A:Around}{E:Value->Shared->Prop}{s:Shared}{env:Env}{value slice:Expr}{pos:Pos}{T id:String}{Q:Value->Shared->Prop}
 (hl:typeLookup (.type T) "__getitem__"=pure (some (.builtin id)))(hs:ABd slice)
 (h:wpAny (model prog w) A (eval value env) (fun o s₁=>wpAny (model prog w) A (eval slice env) (fun i s₂=>s₂.TypeIs o T/\wpAny (model prog w) A (getItem o i) Q E s₂) E s₁) E s):
 wpAny (model prog w) A (eval (.Subscript value slice pos) env) Q E s:=by
 refine Subscript_ (ja7 h (fun o s₁ h₁=>ja7 h₁ (fun i s₂ h₂=>?_) fun _ _ x=>x) fun _ _ x=>x);obtain⟨hT,h₂⟩:=h₂;unfold subscriptTail;refine jv ?_;rw[getitemInPython_of_ne hT.not_modules];refine jv (wpAny_specialOf hT hl ?_);have fin:wpAny (model prog w) A (subscripted slice false o i) (fun r s₃=>wpAny (model prog w) A (letTemporaryGo value o r >>= fun _=>pure r) Q E s₃) E s₂:=by
  rw[hs o i];exact wpAny_operating (ja7 h₂ (fun r s₃ h₃=>jv (wpAny_letTemporaryGo (xz h₃))) fun _ _ x=>x)
 first
  | exact xz (jv fin)
  | exact jv (xz (jv fin))
  | exact jv fin
theorem Zx{X:Cx}{pins:List (Addr×Obj)}{Z:St}{s:Shared}{a:Addr}{y:V}{o:Option V}(I:Inv X pins Z H s)(g:Qz H a y o):s.TypeIs (.ref a) "dict":=by
 rcases g with ⟨kvs,k,e,_,_⟩ | ⟨kvs,k,b,e,_,_,_⟩
 ·obtain⟨_,_,vs,_,dd⟩:=gf I.hok e;exact dd.typeIs
 ·obtain⟨_,_,xs,_,dd⟩:=gW I.hok e;exact dd.typeIs
def mU(td ty:TE):TE:=fun Z H Q=>td Z H fun x H1=>ty Z H1 fun y H2=>∃a v,x=.ref a/\Qz H2 a y (some v)/\Q v H2
def Wn(ty td:TE):TE:=fun Z H Q=>ty Z H fun y H1=>td Z H1 fun x H2=>∃a o,x=.ref a/\Qz H2 a y o/\Q (.bl (!o.isSome)) H2
def oE(td ty tv:TE):TS:=fun D Z H=>tv Z H fun v H1=>td Z H1 fun x H2=>ty Z H2 fun y H3=>∃a H4,x=.ref a/\aV H3 a y v H4/\D.nx Z H4
section
variable{X:Cx}{o i e value:Expr}{pos pos' tpos:Pos}{td ty tv:TE}
theorem fY(hu:X.A.units+1<cLine)(ho:PE X o td)(hi:PE X i ty)(hs:ABd i):PE X (.Subscript o i pos) (mU td ty):=by
 intro pins s Z H Q I h;refine eQ jt1.lookup hs (thn (ho s Z H _ I h) fun u s1 ⟨x,H1,I1,rx,q1⟩=>thn (hi s1 Z H1 _ I1 q1) fun iv s2 hZ=>?_);obtain⟨y,H2,I2,ry,a,v,ex,g,q2⟩:=hZ;subst ex;obtain rfl:u=Value.ref a:=rx;exact⟨Zx I2 g,kO hu I2 g ry fun w' s3 I3 rw'=>⟨v,H2,I3,rw',q2⟩⟩
theorem Vn(hu:X.A.units+1<cLine)(hi:PE X i ty)(ho:PE X o td):PC X .NotIn i o (Wn ty td):=by
 intro pins s Z H Q I h;refine thn (hi s Z H _ I h) fun iv s1 ⟨y,H1,I1,ry,q1⟩=>thn (ho s1 Z H1 _ I1 q1) fun u s2 hZ=>?_;obtain⟨x,H2,I2,rx,a,ov,ex,g,q2⟩:=hZ;subst ex;obtain rfl:u=Value.ref a:=rx;exact wH hu I2 g ry fun s3 I3=>⟨.bl (!ov.isSome),H2,I3,rfl,q2⟩
theorem Xc(hu:X.A.units+1<cLine)(ho:PE X o td)(hi:PE X i ty)(hv:PE X value tv)(hs:swapsWith value (some (.Subscript o i pos')) pos.line X.env=pure false):
 PS X (.Assign [.Subscript o i pos'] value pos) (oE td ty tv):=by
 intro pins s Z H D I h;refine wpAny_Assign_Subscript (thn (hv s Z H _ I h) fun r s1 ⟨v,H1,I1,rv,q1⟩=>thn (ho s1 Z H1 _ I1 q1) fun u s2 ⟨x,H2,I2,rx,q2⟩=>thn (hi s2 Z H2 _ I2 q2) fun iv s3 hZ=>?_) hs;obtain⟨y,H3,I3,ry,a,H4,ex,g,q3⟩:=hZ;subst ex;obtain rfl:u=Value.ref a:=rx;exact kJ hu I3 g ry rv fun s4 I4=>⟨Z,H4,I4,q3⟩
end
theorem qX{P:Program}{w:World}(h:Heap)(hb:sysModules<h.objs.size):Ep P w H (h.push { cls:=.type "dict",data:=.dict #[] }) h.objs.size (.dK []):=
 ⟨ka _,beq_eq_false_iff_ne.mpr (Ne.symm (kg hb)),[],.nil,Heap.DictOf.new h⟩
def yt:TE:=fun _ H Q=>∀p,H p=none->Q (.ref p) (upd H p (.dK []))
section
variable{X:Cx}{pos:Pos}
theorem ZW:PE X (.Dict [] [] pos) yt:=fun pins s Z H Q I h=>
 wpAny_Dict_empty ⟨.ref s.heap.objs.size,_,I.laid (a:=s.heap.objs.size) (o:=.dK []) (t':=s.toks) (fun _ _ q=>qc _ q) (qo _) (qX s.heap I.big),rfl,h _ (I.hok.fresh (qo _))⟩
end
end L2
namespace L2
open PySem PySem.Spec PyProof.Rows
section
variable{X:Cx}{pins:List (Addr×Obj)}{Z:St}{H2:Hp}{s2:Shared}{M xs:List Str}{scope:Scope}{cl:List (Str×Addr)}{C:Addr}{fp:List Addr}{E:XK}{Qe:Value->Shared->Prop}{acc:Value}
end
section
variable{X:Cx}
end
def SqA(K:Fr)(H:Hp)(a:Addr)(xs:List V):Bool->Prop | true=>SqT K H a xs | false=>SqL K H a xs
def ItA(h:Heap)(i a:Addr)(k:Nat):Bool->Prop | true=>h.IsTupleIter i a k | false=>h.IsListIter i a k
def IsA(h:Heap)(a:Addr)(us:Array Value):Bool->Prop | true=>h.IsTuple a us | false=>h.IsList a us
theorem ItA.get{h:Heap}{i a:Addr}{k:Nat}{c:Bool}(x:ItA h i a k c):∃o,h.get? i=some o/\∀v,o.data≠.cell v:=by
 cases c<;>(obtain ⟨o,e,_,d⟩:=x;exact⟨o,e,fun v z=>by rw[d] at z;cases z⟩)
theorem ItA.at{h h':Heap}{i a:Addr}{k:Nat}{c:Bool}(x:ItA h i a k c)(q:∀o,h.get? i=some o->h'.get? i=some o):ItA h' i a k c:=by
 cases c<;>exact let ⟨o,e,r⟩:=x;⟨o,q o e,r⟩
theorem IsA.lt{h:Heap}{a:Addr}{us:Array Value}{c:Bool}(x:IsA h a us c):a<h.objs.size:=by
 cases c<;>(obtain ⟨o,e,_⟩:=x;exact xh e)
section
variable{X:Cx}{pins:List (Addr×Obj)}{Z:St}{H:Hp}{s:Shared}{a:Addr}{xs ys:List V}{c:Bool}
theorem Inv.seqA(I:Inv X pins Z H s)(h:SqA X.K H a xs c):∃us:List Value,Vals xs us/\IsA s.heap a us.toArray c:=by
 cases c
 ·obtain⟨us,r,p,_⟩:=I.list h;exact⟨us,r,p.isList⟩
 ·obtain⟨us,r,p,_⟩:=I.tuple h;exact⟨us,r,p⟩
theorem Inv.injA(I:Inv X pins Z H s)(h:SqA X.K H a xs c)(h':SqA X.K H a ys c):xs=ys:=by
 cases c
 ·exact I.list_inj h h'
 ·exact I.tuple_inj h h'
end
theorem qU{prog:Program}{w:World}{A:Around}{c:Bool}(hh:A.handled=none)(it l:Addr)(hne:l≠it)(us:Array Value):Draws prog w A it [it,l] us.size (fun i v=>us[i]?=some v) (fun i h=>ItA h it l i c/\IsA h l us c):=by
 cases c
 ·exact Draws.list hh it l hne us
 ·exact AAy hh it l hne us
section
variable{prog:Program}{w:World}{A:Around}{E:Value->Shared->Prop}{s:Shared}{z TI TO i1 i2 l1 l2:Addr}{k:Nat}{xs ys:Array Value}{a b:Value}{c:Bool}
theorem AAc{Q:Option Value->Shared->Prop}(hh:A.handled=none)(D:ZipApart z TI TO i1 i2 l1 l2){x y:Value}(hz:IsZip s.heap z TI TO .none)(hTI:IsPair s.heap TI (.ref i1) (.ref i2))(hTO:IsPair s.heap TO a b)
 (h1:ItA s.heap i1 l1 k c)(h2:s.heap.IsListIter i2 l2 k)(t1:IsA s.heap l1 xs c)(t2:s.heap.IsList l2 ys)(hx:xs[k]?=some x)(hy:ys[k]?=some y)
 (hQ:∀h' tk,IsZip h' z TI TO (rawInt s.heap.objs.size)->IsPair h' TO x y->ItA h' i1 l1 (k+1) c->h'.IsListIter i2 l2 (k+1)->IsPair h' s.heap.objs.size x y->
  (∀y o,y≠z->y≠TO->y≠i1->y≠i2->s.heap.get? y=some o->h'.get? y=some o)->Q (some (.ref s.heap.objs.size)) { s with heap:=h',toks:=tk }):wpAny (model prog w) A (pyNext (.ref z)) Q E s:=by
 have hT:s.TypeIs (.ref z) "zip":=⟨_,hz,rfl⟩;have lx:k<xs.size:=(jr4.mp hx).1;have ly:k<ys.size:=(jr4.mp hy).1;have D1:=qU (c:=c) (prog:=prog) (w:=w) (A:=A.in1) hh i1 l1 D.l1i1 xs;have D2:=Draws.list (prog:=prog) (w:=w) (A:=A.in1) hh i2 l2 D.l2i2 ys;unfold pyNext;refine jv (wpAny_attempt (ji8 (name:=Str.ofString "__next__") hT F.slot_zip_next (jp4 F.slot_zip_next hT F.entry_zip_next
  (iV (apart2 D) D1 D2 hz hTI hTO ⟨h1,t1⟩ ⟨h2,t2⟩ lx ly fun x' y' h' tk p1 p2 a1 a2 a3 a4 a5 a6=>?_) (F.args_zip_next_1 _))))
 rw[hx] at p1;rw[hy] at p2;cases p1;cases p2;exact xz (hQ h' tk a1 a2 a3.1 a4.1 a5 a6)
theorem AAz{Q:Option Value->Shared->Prop}(hh:A.handled=none)(D:ZipApart z TI TO i1 i2 l1 l2)(hz:IsZip s.heap z TI TO .none)(hTI:IsPair s.heap TI (.ref i1) (.ref i2))(hTO:IsPair s.heap TO a b)
 (h1:ItA s.heap i1 l1 k c)(h2:s.heap.IsListIter i2 l2 k)(t1:IsA s.heap l1 xs c)(t2:s.heap.IsList l2 ys)(hk:k=xs.size\/k<xs.size/\k=ys.size)
 (hQ:∀h' tk,(∀y o,y≠z->y≠TO->y≠i1->y≠i2->s.heap.get? y=some o->h'.get? y=some o)->Q none { s with heap:=h',toks:=tk }):wpAny (model prog w) A (pyNext (.ref z)) Q E s:=by
 have hT:s.TypeIs (.ref z) "zip":=⟨_,hz,rfl⟩;have D1:=qU (c:=c) (prog:=prog) (w:=w) (A:=A.in1) hh i1 l1 D.l1i1 xs;have D2:=Draws.list (prog:=prog) (w:=w) (A:=A.in1) hh i2 l2 D.l2i2 ys;unfold pyNext;refine jv (wpAny_attempt (ji8 (name:=Str.ofString "__next__") hT F.slot_zip_next (jp4 F.slot_zip_next hT F.entry_zip_next
  (lR (apart2 D) D1 D2 hz hTI hTO ⟨h1,t1⟩ ⟨h2,t2⟩ hk fun h' tk e q ⟨o,ho,hc⟩=>?_) (F.args_zip_next_1 _))))
 refine jv (wpAny_isInstance (T:="StopIteration") (b:=true) ⟨o,ho,hc⟩ isSubtype_stop ?_);exact xz (hQ _ _ q)
end
noncomputable def rT(K:Fr)(a b:Addr)(c:Bool):It:=
 ⟨fun i H=>∃xs ys x y,SqA K H a xs c/\SqL K H b ys/\xs[i]?=some x/\ys[i]?=some y,
  fun i H v H'=>∃T x y,H T=none/\v=.ref T/\H'=upd H T (.tup [x,y])/\∀xs ys,SqA K H a xs c->SqL K H b ys->xs[i]?=some x/\ys[i]?=some y,
  fun i H=>∃xs ys,SqA K H a xs c/\SqL K H b ys/\i=min xs.length ys.length⟩
def ABY(c:Bool)(z TI TO i1 i2 a b:Addr)(i:Nat)(h:Heap):Prop:=
 IsZip h z TI TO .none/\IsPair h TI (.ref i1) (.ref i2)/\(∃p q,IsPair h TO p q)/\ItA h i1 a i c/\h.IsListIter i2 b i
theorem iY{P:Program}{w:World}{K:Fr}{es:List Expr}{kk:Nat}{pos:Pos}{c:Bool}(z TI TO i1 i2 a b:Addr)(D:ZipApart z TI TO i1 i2 a b):
 Turn P w K (.Tuple es kk pos) (rT K a b c) [z,TI,TO,i1,i2] z (ABY c z TI TO i1 i2 a b) where
 mem:=by simp
 obj:=fun i h st c hc=>by
  obtain⟨h1,h2,⟨p,q,h3⟩,h4,⟨o5,e5,_,d5⟩⟩:=st;simp only[zh,vv,or_false] at hc;rcases hc with rfl | rfl | rfl | rfl | rfl
  ·exact⟨_,h1,fun v z=>by cases z⟩
  ·exact⟨_,h2,fun v z=>by cases z⟩
  ·exact⟨_,h3,fun v z=>by cases z⟩
  ·exact h4.get
  ·exact⟨_,e5,fun v z=>by rw[d5] at z;cases z⟩
 keep:=fun i h h' st k=>by
  obtain⟨h1,h2,⟨p,q,h3⟩,h4,h5⟩:=st;exact⟨k z (by simp) _ h1,k TI (by simp) _ h2,⟨p,q,k TO (by simp) _ h3⟩,h4.at fun o e=>k i1 (by simp) o e,h5.at fun o e=>k i2 (by simp) o e⟩
 item:=by
  intro X hP hw hK hc i pins s Z H E I hf st hg;subst hP hw hK;obtain⟨xs,ys,x,y,qa,qb,ex,ey⟩:=hg;obtain⟨us,ra,pa⟩:=I.seqA qa;obtain⟨ws,rb,pb,_⟩:=I.list qb;obtain⟨u,hu,ru⟩:=ra.get ex;obtain⟨v,hv,rv⟩:=rb.get ey;obtain⟨h1,h2,⟨p,q,h3⟩,h4,h5⟩:=st;refine AAc (xs:=us.toArray) (ys:=ws.toArray) (I.ok.hd hc) D h1 h2 h3 h4 h5 pa pb.isList (by simpa using hu) (by simpa using hv) fun h' tk a1 a2 a3 a4 a5 a6=>?_;have lt:∀{c o},s.heap.get? c=some o->s.heap.objs.size≠c:=fun e=>jv5 (xh e);refine⟨.ref s.heap.objs.size,rfl,wpAny_letOwnedTupleGo_zip a1 fun g2 z2 k2=>?_⟩;have hn:H s.heap.objs.size=none:=I.hok.fresh (qo _);have k3:∀c o,c∉[z,TO,i1,i2]->s.heap.get? c=some o->g2.get? c=some o:=fun c o hc e=>by
   simp only[zh,vv,or_false,not_or] at hc;exact k2.extBut c o hc.1 (a6 c o hc.1 hc.2.1 hc.2.2.1 hc.2.2.2 e)
  refine⟨.ref s.heap.objs.size,upd H s.heap.objs.size (.tup [x,y]),I.turnedNew (ch:=[z,TO,i1,i2]) k3 (fun c hc=>hf c ?_) (qo _) ⟨?_,[u,v],.cons ru (.cons rv .nil),⟨_,k2.extBut _ _ (lt h1) a5,rfl,_,rfl⟩⟩,rfl,⟨_,x,y,hn,rfl,rfl,fun xs' ys' qa' qb'=>?_⟩,?_,fun c hc=>?_⟩
  ·simp only[zh,vv,or_false] at hc ⊢;rcases hc with h | h | h | h
   ·exact .inl h
   ·exact .inr (.inr (.inl h))
   ·exact .inr (.inr (.inr (.inl h)))
   ·exact .inr (.inr (.inr (.inr h)))
  ·show 2<=sizeLine;rw[sizeLine_eq];decide
  ·rw[I.injA qa' qa,I.list_inj qb' qb];exact⟨ex,ey⟩
  ·exact⟨z2,k3 _ _ (by simp[D.TIz,D.TITO,D.TIi1,D.TIi2]) h2,⟨_,_,k2.extBut _ _ D.TOz a2⟩,a3.at fun o e=>k2.extBut _ _ D.i1z e,a4.at fun o e=>k2.extBut _ _ D.i2z e⟩
  ·have hlt:s.heap.objs.size≠c:=by
    simp only[zh,vv,or_false] at hc;obtain⟨o4,e4,_⟩:=h4.get;obtain⟨o5,e5,_⟩:=h5;rcases hc with rfl | rfl | rfl | rfl | rfl
    ·exact lt h1
    ·exact lt h2
    ·exact lt h3
    ·exact lt e4
    ·exact lt e5
   rw[BP hlt.symm];exact(hf c hc).1
 done:=by
  intro X hP hw hK hc i pins s Z H E I hf st hg;subst hP hw hK;obtain⟨xs,ys,qa,qb,e⟩:=hg;obtain⟨us,ra,pa⟩:=I.seqA qa;obtain⟨ws,rb,pb,_⟩:=I.list qb;have la:=ra.length;have lb:=rb.length;obtain⟨h1,h2,⟨p,q,h3⟩,h4,h5⟩:=st;refine AAz (xs:=us.toArray) (ys:=ws.toArray) (I.ok.hd hc) D h1 h2 h3 h4 h5 pa pb.isList (by simp;lia) fun h' tk k=>⟨rfl,I.turnedL (ch:=[z,TO,i1,i2]) (fun c o hc e=>?_) fun c hc=>hf c ?_⟩
  ·simp only[zh,vv,or_false,not_or] at hc;exact k c o hc.1 hc.2.1 hc.2.2.1 hc.2.2.2 e
  simp only[zh,vv,or_false] at hc ⊢;rcases hc with h | h | h | h
  ·exact .inl h
  ·exact .inr (.inr (.inl h))
  ·exact .inr (.inr (.inr (.inl h)))
  ·exact .inr (.inr (.inr (.inr h)))
 self:=fun _ _ _ _ _ st h=>wpAny_pyIter_zip st.1 h
noncomputable abbrev zLL(h:Heap)(a:Addr):Heap:=h.push { cls:=.type "list_iterator",data:=.fields #[.ref a,.int 0 0] }
noncomputable abbrev zL3(h:Heap)(a b:Addr):Heap:=(zLL (zT1 h a) b).push { cls:=.type "tuple",data:=.seq #[.ref h.objs.size,.ref (zT1 h a).objs.size] }
noncomputable abbrev zL4(h:Heap)(a b:Addr):Heap:=(zL3 h a b).push { cls:=.type "tuple",data:=.seq #[.none,.none] }
noncomputable abbrev zL5(h:Heap)(a b:Addr):Heap:=(zL4 h a b).push { cls:=.type "zip",data:=.fields #[.none,.bool false,.bool false,.ref (zLL (zT1 h a) b).objs.size,.ref (zL3 h a b).objs.size] }
theorem cR(l1 l2:Addr)(xs ys:Array Value):
 Meets (Builtin.«zip.__new__» ⟨[.type "zip",.ref l1,.ref l2],[]⟩) (fun _ R s=>s.heap.IsTuple l1 xs/\s.heap.IsList l2 ys/\R (.ok (.ret (.ref (zL4 s.heap l1 l2).objs.size))) { s with heap:=zL5 s.heap l1 l2 }):=
 .of_wp fun prog w A R s h=>by
  obtain⟨hp,g,d,tk,os⟩:=s;obtain⟨t1,t2,h⟩:=h;have hsub:=sub_zip;have hL1:Heap.IsTuple (Shared.heap ⟨hp,g,d,tk,os⟩) l1 xs:=t1;have hL2:Heap.IsList (Shared.heap ⟨hp.push { cls:=.type "tuple_iterator",data:=.fields #[.ref l1,.int 0 0] },g,d,tk,os⟩) l2 ys:=t2.at fun o e=>qc _ e
  wp_walk using wpAny_pyIter_tuple hL1,jt8 hL2
  exact⟨_,rfl,h⟩
theorem lB{prog:Program}{w:World}{A:Around}{E:Value->Shared->Prop}{s:Shared}{l1 l2:Addr}{xs ys:Array Value}{Q:Value->Shared->Prop}(t1:s.heap.IsTuple l1 xs)(t2:s.heap.IsList l2 ys)
 (h:∀h',IsZip h' (s.heap.objs.size+4) (s.heap.objs.size+2) (s.heap.objs.size+3) .none->IsPair h' (s.heap.objs.size+2) (.ref s.heap.objs.size) (.ref (s.heap.objs.size+1))->IsPair h' (s.heap.objs.size+3) .none .none->
  h'.IsTupleIter s.heap.objs.size l1 0->h'.IsListIter (s.heap.objs.size+1) l2 0->(∀c o,s.heap.get? c=some o->h'.get? c=some o)->Q (.ref (s.heap.objs.size+4)) { s with heap:=h' }):
 wpAny (model prog w) A (call (.type "zip") [.ref l1,.ref l2]) Q E s:=by
 refine callType_new F.called_zip nofun (F.typeCall_zip_2 _ _) (F.newCall_zip_2 _ _) (fun obj=>F.args_object_init_3 obj _ _) F.entry_zip_new (cR l1 l2 xs ys) ⟨t1,t2,?_⟩;have z1:(zT1 s.heap l1).objs.size=s.heap.objs.size+1:=jj3 ..;have z2:(zLL (zT1 s.heap l1) l2).objs.size=s.heap.objs.size+2:=by rw[jj3,z1]
 have z3:(zL3 s.heap l1 l2).objs.size=s.heap.objs.size+3:=by rw[jj3,z2]
 have z4:(zL4 s.heap l1 l2).objs.size=s.heap.objs.size+4:=by rw[jj3,z3]
 have p1:∀c o,(zL4 s.heap l1 l2).get? c=some o->(zL5 s.heap l1 l2).get? c=some o:=fun c o e=>qc _ e;have p2:∀c o,(zL3 s.heap l1 l2).get? c=some o->(zL5 s.heap l1 l2).get? c=some o:=fun c o e=>p1 c o (qc _ e);have p3:∀c o,(zLL (zT1 s.heap l1) l2).get? c=some o->(zL5 s.heap l1 l2).get? c=some o:=fun c o e=>p2 c o (qc _ e);have p4:∀c o,(zT1 s.heap l1).get? c=some o->(zL5 s.heap l1 l2).get? c=some o:=fun c o e=>p3 c o (qc _ e);have g5:(zL5 s.heap l1 l2).get? (zL4 s.heap l1 l2).objs.size=some _:=xa _ rfl;have g4:(zL5 s.heap l1 l2).get? (zL3 s.heap l1 l2).objs.size=some _:=p1 _ _ (xa _ rfl);have g3:(zL5 s.heap l1 l2).get? (zLL (zT1 s.heap l1) l2).objs.size=some _:=p2 _ _ (xa _ rfl);have g2:(zL5 s.heap l1 l2).get? (zT1 s.heap l1).objs.size=some _:=p3 _ _ (xa _ rfl);have g1:(zL5 s.heap l1 l2).get? s.heap.objs.size=some _:=p4 _ _ (xa _ rfl);show _/\_;rw[z2,z3,z4] at g5;rw[z1,z2] at g3;rw[z3] at g4;rw[z1] at g2;rw[z4];exact⟨⟨_,g5,rfl⟩,h _ g5 g3 g4 ⟨_,g1,rfl,rfl⟩ ⟨_,g2,rfl,rfl⟩ fun c o x=>p4 c o (qc _ x)⟩
theorem lC{prog:Program}{w:World}{A:Around}{E:Value->Shared->Prop}{s:Shared}{l1 l2:Addr}{xs ys:Array Value}{Q:Value->Shared->Prop}{c:Bool}(t1:IsA s.heap l1 xs c)(t2:s.heap.IsList l2 ys)
 (h:∀h',IsZip h' (s.heap.objs.size+4) (s.heap.objs.size+2) (s.heap.objs.size+3) .none->IsPair h' (s.heap.objs.size+2) (.ref s.heap.objs.size) (.ref (s.heap.objs.size+1))->IsPair h' (s.heap.objs.size+3) .none .none->
  ItA h' s.heap.objs.size l1 0 c->h'.IsListIter (s.heap.objs.size+1) l2 0->(∀y o,s.heap.get? y=some o->h'.get? y=some o)->Q (.ref (s.heap.objs.size+4)) { s with heap:=h' }):
 wpAny (model prog w) A (call (.type "zip") [.ref l1,.ref l2]) Q E s:=by
 cases c
 ·exact call_zip_2 t1 t2 fun h' hz hTI hTO hi1 hi2 _ hk=>h h' hz hTI hTO hi1 hi2 hk
 ·exact lB t1 t2 h
def yC(c:Bool)(K:Fr)(ta:TA):TI:=fun Z H R=>ta Z H fun vs H1=>∃a b,vs=[.ref a,.ref b]/\(∃xs ys,SqA K H1 a xs c/\SqL K H1 b ys)/\R (rT K a b c) H1
section
variable{X:Cx}
theorem fU{c:Bool}{a b:Expr}{ta:TA}{p pos:Pos}{es:List Expr}{kk:Nat}{tp:Pos}(hg:Gl X "zip")(hm:X.mg "zip"=none)(ha:PA X [a,b] ta)(hs:‹starEach [a,b] X.env=[(false,eval a X.env),(false,eval b X.env)]›)(hs2:‹starEach [b] X.env=[(false,eval b X.env)]›):
 PI X (.Tuple es kk tp) (.Call (.Name "zip" p) [a,b] [] pos) (yC c X.K ta):=by
 intro pins s Z H R I h;refine Call_ (Hs I hg hm boot_zip (vb (thn (ha (pos:=pos) pins s Z H _ I h) fun us s1 ⟨vs,H1,I1,r1,q1⟩=>?_) (by rw[hs,hs2]) (by rw[hs2];rfl)));obtain⟨x,y,e,⟨xs,ys,qa,qb⟩,q⟩:=q1;subst e;obtain⟨ia,ra,pa⟩:=I1.seqA qa;obtain⟨ib,rb,pb,_⟩:=I1.list qb;cases r1 with
 | cons r rr=>
  cases rr with
  | cons r' rr=>
   cases rr;cases (show _=Value.ref x from r);cases (show _=Value.ref y from r');refine lC pa pb.isList fun h' hz hTI hTO hi1 hi2 hk=>?_;refine wpAny_pyIter_zip hz ?_;refine⟨_,_,_,_,H1,rfl,I1.kept (t':=s1.toks) fun c o e=>hk c o e,iY _ _ _ _ _ x y (yS pa.lt (let ⟨_,e,_⟩:=pb.isList;xh e)),⟨hz,hTI,⟨_,_,hTO⟩,hi1,hi2⟩,fun c hc=>?_,q⟩;have hcs:s1.heap.objs.size<=c:=by
    simp only[zh,vv,or_false] at hc;rcases hc with rfl | rfl | rfl | rfl | rfl
    ·exact jb5 _ _
    ·exact jb5 _ _
    ·exact jb5 _ _
    ·exact qo _
    ·exact jb5 _ _
   exact I1.fpOk hcs (I1.hok.fresh hcs)
end
theorem fJ{K:Fr}{ta:TA}{Z:St}{H:Hp}{R:It->Hp->Prop}{c:Bool}(h:ta Z H fun vs H1=>∃a b,vs=[.ref a,.ref b]/\(∃xs ys,SqA K H1 a xs c/\SqL K H1 b ys)/\R (rT K a b c) H1):yC c K ta Z H R:=h
def KD(P:Program)(w:World)(K:Fr)(a:Addr)(kvs:List (Key×V)):Prop:=
 (a==sysModules)=false/\∀h:Heap,K.In h->∃vs,KV kvs vs/\h.DictOf (Es P w) a vs
noncomputable def esK(p:Params)(l:List (Str×Tok×Addr)):List DictEntry:=l.map fun x=>⟨PyData.keyHash p x.1,.str x.1 x.2.1,.ref x.2.2⟩
theorem fZ(P:Program)(w:World)(p:Params):∀l:List (Str×Tok×Addr),Pairs (Es P w) (esK p l) (l.map fun x=>(Sum.inr x.1,Value.ref x.2.2))
 | []=>.nil
 | x::l=>.cons (KC P w x.1 x.2.1) rfl (fZ P w p l)
theorem ACz:∀l:List (Str×Tok×Addr),KV (κ:=Key) (l.map fun x=>(Sum.inr x.1,V.ref x.2.2)) (l.map fun x=>(Sum.inr x.1,Value.ref x.2.2))
 | []=>.nil
 | x::l=>.cons ⟨rfl,rfl⟩ (ACz l)
theorem xq{P:Program}{w:World}{K:Fr}{a:Addr}{n:Nat}(l:List (Str×Tok×Addr))(e:K.lookup a=some ⟨.type "dict",none,.dict (esK w.params l).toArray n,#[]⟩)(nd:(l.map (·.1)).Nodup)(hs:(a==sysModules)=false):
 KD P w K a (l.map fun x=>(Sum.inr x.1,V.ref x.2.2)):=
 ⟨hs,fun h X=>⟨_,ACz l,_,_,_,X _ _ e,⟨rfl,rfl,rfl⟩,rfl,fun d hd=>by
  have hd:d∈esK w.params l:=by simpa using hd
  obtain⟨x,hx,rfl⟩:=yv.mp hd;exact⟨.inr x.1,KC P w x.1 x.2.1,rfl⟩,by simpa using fZ P w w.params l,by
   rw[ua];exact jt4.mpr ((jt4.mp nd).imp fun h z=>h (Sum.inr.inj z))⟩⟩
def bC(P:Program)(w:World)(K:Fr)(td ty:TE):TE:=fun Z H Q=>td Z H fun x H1=>ty Z H1 fun y H2=>∃a kvs k v,x=.ref a/\KD P w K a kvs/\y=kV k/\GK kvs k=some v/\Q v H2
def eN(neg:Bool)(P:Program)(w:World)(K:Fr)(ty td:TE):TE:=fun Z H Q=>ty Z H fun y H1=>td Z H1 fun x H2=>∃a kvs k,x=.ref a/\KD P w K a kvs/\y=kV k/\Q (.bl (if neg then !(GK kvs k).isSome else (GK kvs k).isSome)) H2
section
variable{X:Cx}{o i e:Expr}{pos:Pos}{td ty tf:TE}
theorem SX(ho:PE X o td)(hi:PE X i ty)(hs:ABd i):PE X (.Subscript o i pos) (bC X.prog X.w X.K td ty):=by
 intro pins s Z H Q I h;refine eQ jt1.lookup hs (thn (ho s Z H _ I h) fun u s1 ⟨x,H1,I1,rx,q1⟩=>thn (hi s1 Z H1 _ I1 q1) fun iv s2 hZ=>?_);obtain⟨y,H2,I2,ry,a,kvs,k,v,ex,kd,ey,l,q2⟩:=hZ;subst ex ey;obtain rfl:u=Value.ref a:=rx;obtain⟨vs,rel,dd⟩:=kd.2 _ I2.kIn;obtain⟨w',hw,rw'⟩:=Jk.some_of (v:=v) (o:=valueAt vs k) (by rw[<-l];exact rel.val k);exact⟨dd.typeIs,wpAny_getItem_of (S5 ry) dd.mapOf hw ⟨v,H2,I2.tok _,rw',q2⟩⟩
theorem uw(hi:PE X i ty)(ho:PE X o td):PC X .In i o (eN false X.prog X.w X.K ty td):=by
 intro pins s Z H Q I h;refine thn (hi s Z H _ I h) fun iv s1 ⟨y,H1,I1,ry,q1⟩=>thn (ho s1 Z H1 _ I1 q1) fun u s2 hZ=>?_;obtain⟨x,H2,I2,rx,a,kvs,k,ex,kd,ey,q2⟩:=hZ;subst ex ey;obtain rfl:u=Value.ref a:=rx;obtain⟨vs,rel,dd⟩:=kd.2 _ I2.kIn;refine wpAny_in_of (S5 ry) kd.1 dd.mapOf ?_;rw[<-(rel.val k).isSome_eq];exact⟨.bl _,H2,I2.tok _,rfl,q2⟩
theorem cI(hi:PE X i ty)(ho:PE X o td):PC X .NotIn i o (eN true X.prog X.w X.K ty td):=by
 intro pins s Z H Q I h;refine thn (hi s Z H _ I h) fun iv s1 ⟨y,H1,I1,ry,q1⟩=>thn (ho s1 Z H1 _ I1 q1) fun u s2 hZ=>?_;obtain⟨x,H2,I2,rx,a,kvs,k,ex,kd,ey,q2⟩:=hZ;subst ex ey;obtain rfl:u=Value.ref a:=rx;obtain⟨vs,rel,dd⟩:=kd.2 _ I2.kIn;refine wpAny_notIn_of (S5 ry) kd.1 dd.mapOf ?_;rw[<-(rel.val k).isSome_eq];exact⟨.bl _,H2,I2.tok _,rfl,q2⟩
theorem ACp:PE X e (fun _ _ _=>False):=fun _ _ _ _ _ _ h=>h.elim
end
section
variable{prog:Program}{w:World}{A:Around}{E:Value->Shared->Prop}{s:Shared}
end
section
open PySem.Builtin PySem.Builtin.Str
theorem Mv(x:Str)(c L:Nat):∀(n k free:Nat) (acc:Array Nat),k+n=x.length+1->free<=k->acc.size<=L->
 (forIn (List.range' k n) (acc,free) (StrLaws.occBody x ⟨#[c]⟩ x.length L)).run.fst.toList=acc.toList++(plc c k ((cps x).drop k)).take (L-acc.size)
 | 0,k,free,acc,h,_,_=>by
  rw[uu (by rw[Ky];lia)];show acc.toList=acc.toList++List.take _ [];rw[List.take_nil,yk]
 | n+1,k,free,acc,h,hf,ha=>by
  rw[ju5,jm2];have one:(⟨#[c]⟩:Str).length=1:=rfl;by_cases full:acc.size=L
  ·have ih:=Mv x c L n (k+1) free acc ⋯ ⋯ ha;unfold StrLaws.occBody;rw[xy fun y=>by have:acc.size<L:=y.1.1.1;lia,show L-acc.size=0 by lia,jt0,yk];rw[show L-acc.size=0 by lia,jt0,yk] at ih;exact ih
  by_cases z:(cps x)[k]?=some c
  ·have kl:k<(cps x).length:=(zk.mp z).1;have hs:=(StrLaws.subAt_one x c k).mpr z;have ed:(cps x).drop k=c::(cps x).drop (k+1):=by
    rw[ja9 kl,(zk.mp z).2]
   have ih:=Mv x c L n (k+1) (k+1) (acc.push k) ⋯ (qo _) (by rw[ju8];lia);unfold StrLaws.occBody;rw[xp ⟨⟨⟨by show acc.size<L;lia,hf⟩,hs.1⟩,hs.2⟩,ed];unfold plc;rw[xp rfl,show L-acc.size=(L-(acc.push k).size)+1 by rw[ju8];lia,List.take_succ_cons];have e2:acc.toList++k::(plc c (k+1) ((cps x).drop (k+1))).take (L-(acc.push k).size)=(acc.push k).toList++(plc c (k+1) ((cps x).drop (k+1))).take (L-(acc.push k).size):=by
    rw[Array.toList_push,Zs];rfl
   rw[e2];exact ih
  ·have hs:¬(k+(⟨#[c]⟩:Str).length<=x.length/\subAt x ⟨#[c]⟩ k=true):=fun y=>z ((StrLaws.subAt_one x c k).mp y);have ih:=Mv x c L n (k+1) free acc ⋯ ⋯ ha;have ep:plc c k ((cps x).drop k)=plc c (k+1) ((cps x).drop (k+1)):=by
    by_cases kl:k<(cps x).length
    ·rw[ja9 kl];have:(cps x)[k]≠c:=fun y=>z (by rw[qm kl,y]);show(if (cps x)[k]=c then _ else _)=_;rw[xy this]
    ·rw[uu ⋯,uu ⋯];rfl
   unfold StrLaws.occBody;rw[xy fun y=>hs ⟨y.1.2,y.2⟩,ep];exact ih
theorem Xd(c:Nat):∀(p l:List Nat) (k:Nat),c∉p->plc c k (p++c::l)=(k+p.length)::plc c (k+p.length+1) l
 | [],l,k,_=>by show(if c=c then _ else _)=_;rw[xp rfl];rfl
 | a::p,l,k,h=>by
  have ne:a≠c:=fun z=>h (by rw[z];exact qf);show(if a=c then _ else plc c (k+1) (p++c::l))=_;rw[xy ne,Xd c p l (k+1) fun z=>h (qk _ z),qr];rw[show k+1+p.length=k+(p.length+1) by lia]
def ue:V->List V->Hp->VK->Prop:=fun x xs H Q=>∃(z:Str) (c:Nat) (A B C:List Nat),x=.str z/\xs=[.str ⟨#[c]⟩,.int 2]/\c<256/\cps z=A++c::(B++c::C)/\c∉A/\c∉B/\z.length<=1000000/\∀l,H l=none->Q (.ref l) (upd H l (.lst [.str ⟨A.toArray⟩,.str ⟨B.toArray⟩,.str ⟨C.toArray⟩]))
theorem jc{X:Cx}:MtR X "str.split" ue:=by
 intro pins s Z H x xs v us Q I rx rs h;obtain⟨z,c,A,B,C,rfl,rfl,hc,ez,hA,hB,hz,q⟩:=h;obtain⟨t,rfl⟩:=(show ∃t,v=Value.str z t from rx);cases rs with
 | cons ru rs=>
  obtain⟨t',rfl⟩:=(show ∃t,_=Value.str ⟨#[c]⟩ t from ru);obtain⟨u,rfl,ru2⟩:=vals1 rs;obtain⟨t2,rfl⟩:=(show ∃t,u=Value.int 2 t from ru2);have zl:z.length=A.length+(B.length+(C.length+1)+1):=by rw[<-Ky,ez];simp
  have sl:z.length<=sizeLine:=zo hz nofun;have k1:PySem.Builtin.Str.strKind (⟨#[c]⟩:Str)=1:=by
   unfold PySem.Builtin.Str.strKind;simp[hc]
  have k0:1<=PySem.Builtin.Str.strKind z:=by
   unfold PySem.Builtin.Str.strKind
   repeat' split
   all_goals lia
  have h1:(decide (z.length<(⟨#[c]⟩:Str).length)||decide (PySem.Builtin.Str.strKind z<PySem.Builtin.Str.strKind ⟨#[c]⟩))=false:=by
   rw[k1,Bool.or_eq_false_iff];exact⟨decide_eq_false (by show ¬z.length<1;lia),decide_eq_false ⋯⟩
  have eo:occurrences z ⟨#[c]⟩ 0 z.length (limitOf z 2)=[A.length,A.length+1+B.length]:=by
   rw[show limitOf z 2=2 from rfl,StrLaws.occ_eq];have:=Mv z c 2 (z.length+1) 0 0 #[] ⋯ (qo _) (ka _);rw[jk4,ez,Xd c A _ 0 hA,Xd c B _ _ hB] at this;simpa using this
  have ep:partsBetween z (occurrences z ⟨#[c]⟩ 0 z.length (limitOf z 2)) (⟨#[c]⟩:Str).length=[⟨A.toArray⟩,⟨B.toArray⟩,⟨C.toArray⟩]:=by
   rw[eo];show[strSub z 0 A.length,strSub z (A.length+1) (A.length+1+B.length),strSub z (A.length+1+B.length+1) z.length]=_;have e1:strSub z 0 A.length=⟨A.toArray⟩:=RT (jf2.mp (by
    rw[StrLaws.strSub_toList,show z.cps.toList=_ from ez,jk4,jv6,jv3];rfl))
   have e2:strSub z (A.length+1) (A.length+1+B.length)=⟨B.toArray⟩:=RT (jf2.mp (by
    rw[StrLaws.strSub_toList,show z.cps.toList=_ from ez,show A++c::(B++c::C)=(A++[c])++(B++c::C) by simp,jv0 (by simp),show A.length+1+B.length-(A.length+1)=B.length by lia,jv3];rfl))
   have e3:strSub z (A.length+1+B.length+1) z.length=⟨C.toArray⟩:=RT (jf2.mp (by
    rw[StrLaws.strSub_toList,show z.cps.toList=_ from ez,show A++c::(B++c::C)=(A++c::(B++[c]))++C by simp,jv0 (by simp;lia),va ⋯]))
   rw[e1,e2,e3]
  refine call_meets F.slot_str_split (typeIs_str _ _ _) F.entry_str_split (F.args_str_split_3 _ _ _) (meets_str_split_sep_max z ⟨#[c]⟩ 2 t t' t2 nofun h1 rfl (by rw[eo];rfl) sl (by rw[ep];show 3<=sizeLine;decide)) ?_;rw[ep];exact⟨.ref _,_,I.laid (a:=s.heap.objs.size) (o:=.lst [.str ⟨A.toArray⟩,.str ⟨B.toArray⟩,.str ⟨C.toArray⟩]) (fun _ _ e=>qc _ e) (qo _) ⟨by show 3<=sizeLine;decide,strsFrom s.toks [⟨A.toArray⟩,⟨B.toArray⟩,⟨C.toArray⟩],0,Wr [⟨A.toArray⟩,⟨B.toArray⟩,⟨C.toArray⟩] _,xa _ rfl⟩,rfl,q _ I.fresh⟩
end
end L2
namespace L2
open PySem PySem.Spec PyProof.Rows PySem.W
section
variable{X:Cx}{o:Expr}{to:TE}{apos cpos:Pos}
end
end L2
namespace L2
open PySem PySem.Spec PyProof.Rows
def Q0(mg:Str->Option Value)(L:List (Str×Sp))(tf:TE)(t:TA):TE:=fun Z H Q=>tf Z H fun v H1=>∃f x sp,v=.ref f/\(x,sp)∈L/\mg x=some (.ref f)/\t Z H1 fun vs H2=>sp vs H2 Q E0
section
variable{X:Cx}{o i e:Expr}{pos:Pos}{tf:TE}
theorem o7{k:Nat}{L:List (Str×Sp)}{es:List Expr}{t:TA}{p:Pos}(CV:Ib X.prog X.w X.K X.mg X.base k L)(hr:Dy k X.A)(hf:PE X (.Subscript o i p) tf)(ha:PA X (e::es) t)
 (he:‹starEach (e::es) X.env=(false,eval e X.env)::starEach es X.env›)(hpl:‹(backTo pos (starEach es X.env)).any (·.1)=false›):
 PE X (.Call (.Subscript o i p) (e::es) [] pos) (Q0 X.mg L tf t):=by
 intro pins s Z H Q I h;show wpAny _ _ (do callWith pos (<-eval (.Subscript o i p) X.env) [] (backTo pos (starEach (e::es) X.env)) (backToKw pos (keywordEach [] X.env))) _ _ _;refine jv (thn (hf s Z H _ I h) fun u s1 hZ=>?_);obtain⟨v,H1,I1,rv,f,y,sp,ev,hm,hmg,q1⟩:=hZ;subst ev;obtain rfl:u=Value.ref f:=rv;obtain⟨ps,C⟩:=CV.get hm;obtain⟨f',fd,F,b,kp,m⟩:=C.ex;have ef:f'=f:=by
  rw[hmg] at m;injection m with m;injection m with m;exact m.symm
 subst ef;refine jd9 (h₀:=X.base) I1.ok.mod.kin kp (thn (ha (pos:=pos) pins s1 Z _ _ I1 q1) fun us s2 ⟨vs,H2,I2,r,q⟩=>⟨I2.kIn,?_⟩) he hpl;dsimp only at q;have hl:us.length=ps.length:=by rw[<-r.length];exact F.len _ _ _ _ q
 have hb:=b s2 us I2.kIn (by rw[yk];exact hl);rw[yk] at hb;show wpAny _ _ (call (.ref f') us) _ _ _;refine wpAny_call (jo9 (F.run X.A X.stack s2 H2 ⟨us,[]⟩ us vs Q _ hr I2.env0 hb r q) fun z s' hq=>?_);cases z with
 | error e=>exact False.elim hq
 | ok fl=>
  cases fl with
  | ret u=>exact I2.after hq
  | next=>exact False.elim hq
  | brk=>exact False.elim hq
  | cont=>exact False.elim hq
end
def ADZ(K:Fr)(g n q:Str)(st:Stmt)(ds:Array Value):Prop:=∃f fd,PySem.W.nsIn K mainGlobals g=some (some (.ref f))/\Kq K n q st f fd ds
def ABe(K:Fr)(C:Addr)(x n q:Str)(st:Stmt)(ds:Array Value):Prop:=∃f fd,PySem.W.findIn K (.ref C) x=some (some (.ref f))/\Kq K n q st f fd ds/\PySem.W.typeIn K (.ref f)=some (.type "function")
def ADa(K:Fr)(C:Addr)(x n q:Str)(st:Stmt)(ds:Array Value):Prop:=∃f fd,PySem.W.findCls K (.ref C) (.type "type") x=some (.val (.ref f))/\Kq K n q st f fd ds
abbrev YW(n q:Str)(st:Stmt)(ps:List Str)(dv:List Value)(ds:Array Value)(m:Nat):Prop:=∀(T:Addr) (kV doc pm:Value) (an:Option Addr) (cdv ct:Value) (us:List Value),us.length=m->
 ∃k:Option (Array Value)->Sem (List (Str×Value)),bindArgs (PySem.W.fnOf n q (FQ st) (Dm st) (BX st) (.ref T) kV doc pm an cdv ct) ⟨us,[]⟩=seqItems? (.ref T) >>= k/\k (some ds)=pure (ps.zip (us++dv))
section
variable{K:Fr}{g n q:Str}{C f T:Addr}{st:Stmt}{oc to:Value}{od an td:Option Addr}{osl ts:Array (Option Value)}{kV doc pm cdv ct:Value}{ds:Array Value}{tn:Nat}
theorem vm(a:PySem.W.nsIn K mainGlobals g=some (some (.ref f)))(l:K.lookup f=some ⟨oc,od,.func (PySem.W.fnOf n q (FQ st) (Dm st) (BX st) (.ref T) kV doc pm an cdv ct),osl⟩)
 (c:PySem.W.codeIn K cdv q=true)(k:PySem.W.keepIn K (.ref f)=true)(t:K.lookup T=some ⟨to,td,.seq ds tn,ts⟩):ADZ K g n q st ds:=⟨f,_,a,X4 l c k t rfl⟩
theorem vh(a:PySem.W.findIn K (.ref C) g=some (some (.ref f)))(l:K.lookup f=some ⟨oc,od,.func (PySem.W.fnOf n q (FQ st) (Dm st) (BX st) (.ref T) kV doc pm an cdv ct),osl⟩)
 (c:PySem.W.codeIn K cdv q=true)(k:PySem.W.keepIn K (.ref f)=true)(t:K.lookup T=some ⟨to,td,.seq ds tn,ts⟩)(u:PySem.W.typeIn K (.ref f)=some (.type "function")):ABe K C g n q st ds:=⟨f,_,a,X4 l c k t rfl,u⟩
theorem vo(a:PySem.W.findCls K (.ref C) (.type "type") g=some (.val (.ref f)))(l:K.lookup f=some ⟨oc,od,.func (PySem.W.fnOf n q (FQ st) (Dm st) (BX st) (.ref T) kV doc pm an cdv ct),osl⟩)
 (c:PySem.W.codeIn K cdv q=true)(k:PySem.W.keepIn K (.ref f)=true)(t:K.lookup T=some ⟨to,td,.seq ds tn,ts⟩):ADa K C g n q st ds:=⟨f,_,a,X4 l c k t rfl⟩
end
section
variable{P:Program}{w:World}{K:Fr}{h:Heap}{mg:Str->Option Value}{base:Heap}{g n q:Str}{C:Addr}{st:Stmt}{ps:List Str}{k:Nat}{sp:Sp}{ds:Array Value}{CX:CXT}{x:Str}
theorem wK(X:K.In h)(G:h.Ns mainGlobals mg)(Q:ADZ K g n q st ds)(b:YW n q st ps [] ds ps.length)(ok:∀{f:Addr} {fd:FuncData} {ds:Array Value},Kq K n q st f fd ds->Ex P w K mg base CX0 k f fd ps sp):Cal P w K mg base k g ps sp:=by
 obtain⟨f,fd,a,F⟩:=Q;exact⟨⟨f,fd,ok F,F.bindsD _ rfl b,F.kp,ji6 X G a⟩⟩
theorem Tq(X:K.In h)(G:h.Ns mainGlobals mg)(mk:PySem.W.makesIn K C=true)(kp:PySem.W.keepIn K (.ref C)=true)(nC:PySem.W.nsIn K mainGlobals x=some (some (.ref C)))(Q:ABe K C "__init__" n q st ds)(b:YW n q st ps [] ds ps.length)
 (ok:∀{f:Addr} {fd:FuncData} {ds:Array Value},Kq K n q st f fd ds->Ex P w K mg base CX k f fd ps sp):lQ P w K mg base CX k x C ps sp:=by
 obtain⟨f,fd,a,F,u⟩:=Q;exact⟨⟨f,fd,ok F,F.bindsD _ rfl b,⟨mk,a,jc0.mpr u,kp⟩,ji6 X G nC⟩⟩
theorem lF{dv:List Value}{dvs:List V}(m:Nat)(hm:m+dv.length=ps.length)(X:K.In h)(G:h.Ns mainGlobals mg)(mk:PySem.W.makesIn K C=true)(kp:PySem.W.keepIn K (.ref C)=true)(nC:PySem.W.nsIn K mainGlobals x=some (some (.ref C)))(Q:ABe K C "__init__" n q st ds)(b:YW n q st ps dv ds m)
 (r:Vals dvs dv)(ok:∀{f:Addr} {fd:FuncData} {ds:Array Value},Kq K n q st f fd ds->Ex P w K mg base CX k f fd ps sp):rZ P w K mg base CX k x C ps dvs sp:=by
 obtain⟨f,fd,a,F,u⟩:=Q;exact⟨⟨f,fd,_,ok F,F.bindsD _ hm b,r,⟨mk,a,jc0.mpr u,kp⟩,ji6 X G nC⟩⟩
theorem ql(X:K.In h)(G:h.Ns mainGlobals mg)(nC:PySem.W.nsIn K mainGlobals x=some (some (.ref C)))(bsp:PySem.W.specialIn K (.ref C) "__getattribute__"=some (some (.builtin "type.__getattribute__")))(brd:PySem.W.readsIn K C (.type "type")=true)(Q:ADa K C "__init__" n q st ds)(b:YW n q st ps [] ds ps.length)
 (ok:∀{f:Addr} {fd:FuncData} {ds:Array Value},Kq K n q st f fd ds->Ex P w K mg base CX0 k f fd ps sp):ABg P w K mg base k x ps sp:=by
 obtain⟨f,fd,a,F⟩:=Q;exact⟨⟨f,C,fd,ok F,F.bindsD _ rfl b,⟨ji6 X G nC,bsp,brd,a,F.kp⟩⟩⟩
end
variable{X:Cx}{x:Str}{p q pos:Pos}{j:Int}{kd:Nat}
theorem pxT(i:Nat)(hN:‹X.N[i]?=some x›)(hv:Vis X.env.scope x:=by first | exact Or.inl rfl | exact Or.inr (Or.inl rfl) | exact Or.inr (Or.inr rfl))(hd:(x==("__debug__":Str))=false:=by decide)
 (hcd:(x==("__classdict__":Str))=false:=by decide):PE X (.Subscript (.Name x p) (.Constant (.int j) kd q) pos) (tOp (uh X.K) (Ie i) (tC (.int j))):=Eu Lr (pv i hN hv hd hcd) Ah (fun _ _=>rfl)
theorem pxL(i:Nat)(hN:‹X.N[i]?=some x›)(hv:Vis X.env.scope x:=by first | exact Or.inl rfl | exact Or.inr (Or.inl rfl) | exact Or.inr (Or.inr rfl))(hd:(x==("__debug__":Str))=false:=by decide)
 (hcd:(x==("__classdict__":Str))=false:=by decide):PE X (.Subscript (.Name x p) (.Constant (.int j) kd q) pos) (tOp (um X.K) (Ie i) (tC (.int j))):=Eu Gv (pv i hN hv hd hcd) Ah (fun _ _=>rfl)
end L2
namespace L2
open PySem PySem.W PySem.Spec PyProof.Rows
class Stp (G:Prop) (T:outParam Prop):Prop where
 go:T->G
instance:Stp (yo t u D Z H) (t { D with nx:=u D } Z H):=⟨id⟩
instance:Stp (ABp te D Z H) (te Z H D.rt):=⟨id⟩
instance:Stp (ie te g D Z H) (te Z H fun x H1=>g x Z H1 D.nx):=⟨id⟩
instance:Stp (ABt c t u D Z H) (c Z H fun b H1=>if b=true then t D Z H1 else u D Z H1):=⟨id⟩
instance:Stp (xO D Z H) (D.nx Z H):=⟨id⟩
instance:Stp (mR te D Z H) (te Z H fun _ H1=>D.nx Z H1):=⟨id⟩
instance:Stp (tOp r ta tb Z H Q) (ta Z H fun x H1=>tb Z H1 fun y H2=>r x y H2 Q):=⟨id⟩
instance:Stp (tC v Z H Q) (Q v H):=⟨id⟩
instance:Stp (tUn r ta Z H Q) (ta Z H fun x H1=>r x H1 Q):=⟨id⟩
instance:Stp (mL t Z H Q) (t Z H fun x H'=>∃k,x=.bl k/\Q k H'):=⟨id⟩
instance:Stp (L2.tB t Z H Q) (t Z H fun x H'=>∃k,x=.bl k/\Q k H'):=⟨id⟩
instance:Stp (ABr t Z H Q) (t Z H fun c H1=>Q (!c) H1):=⟨id⟩
instance:Stp (ABx t u Z H Q) (t Z H fun c H1=>if c=true then u Z H1 Q else Q false H1):=⟨id⟩
instance:Stp (tOr t u Z H Q) (t Z H fun c H1=>if c=true then Q true H1 else u Z H1 Q):=⟨id⟩
instance:Stp (xQ ta tb Z H Q) (ta Z H fun x H1=>∃c,x=.bl c/\if c=true then tb Z H1 Q else Q (.bl false) H1):=⟨id⟩
instance:Stp (bD r r' ta tb tc Z H Q) (ta Z H fun x H1=>tb Z H1 fun y H2=>r x y H2 fun z H3=>∃k,z=.bl k/\(if k=true then tc Z H3 fun w' H4=>r' y w' H4 Q else Q (.bl false) H3)):=⟨id⟩
instance:Stp (Vd sp dvs E t Z H Q) (t Z H fun vs H1=>sp (vs++dvs) H1 Q E):=⟨id⟩
instance:Stp (tCB r t Z H Q) (t Z H fun vs H1=>r vs H1 Q):=⟨id⟩
instance:Stp (MF Z H Q) (Q [] H):=⟨id⟩
instance:Stp (Ip ta tr Z H Q) (ta Z H fun x H1=>tr Z H1 fun xs H2=>Q (x::xs) H2):=⟨id⟩
instance:Stp (tE t Z H Q) (t Z H fun xs H1=>xs.length<=sizeLine/\∀p,H1 p=none->Q (.ref p) (upd H1 p (.tup xs))):=⟨id⟩
instance:Stp (tG t Z H Q) (t Z H fun xs H1=>xs.length<=sizeLine/\∀p,H1 p=none->Q (.ref p) (upd H1 p (.lst xs))):=⟨id⟩
instance {K:Fr}:Stp (ABw K T r to Z H Q) (to Z H fun x H1=>tyV K T x H1/\r x [] H1 Q):=⟨id⟩
instance:Stp (Vc C sp dvs E0 t Z H Q) (t Z H fun vs H1=>∀x dx,H1 x=none->H1 dx=none->dx≠x->sp (.ref x::(vs++dvs)) (upd (upd H1 dx (.own x)) x (.ins C dx [])) (fun v H2=>v=.non/\Q (.ref x) H2) E0):=⟨id⟩
instance {K:Fr}:Stp (yq K ta f Z H Q) (ta Z H fun x H1=>∃a C dx fs v,x=.ref a/\H1 a=some (.ins C dx fs)/\Cls K C/\Dj K C f/\fs.lookup f=some v/\Q v H1):=⟨id⟩
instance {K:Fr}:Stp (ACb K ta tv f D Z H) (tv Z H fun y H1=>ta Z H1 fun x H2=>∃a C dx fs,x=.ref a/\H2 a=some (.ins C dx fs)/\Cls K C/\Dj K C f/\fs.length<1000/\D.nx Z (upd H2 a (.ins C dx (Dl f y fs)))):=⟨id⟩
instance:Stp (Yk C m sp [] E0 ta t Z H Q) (ta Z H fun x H1=>∃a dx fs,x=.ref a/\H1 a=some (.ins C dx fs)/\fs.lookup m=none/\t Z H1 fun vs H2=>sp (x::(vs++[])) H2 Q E0):=⟨id⟩
instance:Stp (RP L m ta t Z H Q) (ta Z H fun x H1=>∃a C dx fs sp,(C,sp)∈L/\x=.ref a/\H1 a=some (.ins C dx fs)/\fs.lookup m=none/\t Z H1 fun vs H2=>sp (x::(vs++[])) H2 Q E0):=⟨id⟩
instance:Stp (tLR ta Z H Q) (ta Z H fun vs H1=>∃(i j c:Int) (n:Nat),(vs=[.int i,.int j,.int c]\/(vs=[.int i,.int j]/\c=1))/\0<c/\c<1073741824/\Builtin.Range.small i j c=true/\Builtin.Range.rangeSize i j c=(n:Int)/\n<=1000000/\
 ∀l,H1 l=none->Q (.ref l) (upd H1 l (.lst ((List.range n).map fun(k:Nat)=>V.int (i+(k:Int)*c))))):=⟨id⟩
instance:Stp (ABs ta Z H Q) (ta Z H fun vs H1=>∃(i j:Int),vs=[.int i,.int j]/\i<=j/\j-i<=1000000/\
 ∀l,H1 l=none->Q (.ref l) (upd H1 l (.lst ((List.range (j-i).toNat).map fun(k:Nat)=>V.int (i+(k:Int)))))):=⟨id⟩
instance:Stp (tSl r te tl th Z H Q) (te Z H fun x H1=>tl Z H1 fun l H2=>th Z H2 fun u H3=>r x l u H3 Q):=⟨id⟩
instance:Stp (xN t Z H Q) (t Z H fun x H1=>∃i,x=.int i/\Q (some i) H1):=⟨id⟩
instance:Stp (eG Z H Q) (Q none H):=⟨id⟩
instance:Stp (xM ta Z H Q) (ta Z H fun x H'=>∃i:Int,x=.int i/\Q (i != 0) H'):=⟨id⟩
instance:Stp (ADL to ti t v Z H Q) (to Z H fun o H1=>ti Z H1 fun i H2=>t o i v H2 fun H3=>Q Z H3):=⟨id⟩
instance:Stp (ABq i j ta D Z H) (ta Z H fun vs H1=>∃v w,vs=[v,w]/\D.nx ((Z.set i (some v)).set j (some w)) H1):=⟨id⟩
class StL (N:List Str) (vs:List V) (τ:outParam St):Prop where
 e:start N vs=τ
instance i_st0:StL [] [] []:=⟨rfl⟩
instance i_st1{n:Str}{N:List Str}{v:V}{vs:List V}{τ:St}[h:StL N vs τ]:StL (n::N) (v::vs) (some v::τ):=⟨by
 rw[<-h.e];unfold start;rw[qr,qr,Nat.add_sub_add_right];rfl⟩
instance i_st2{n:Str}{N:List Str}{τ:St}[h:StL N [] τ]:StL (n::N) [] (none::τ):=⟨by
 rw[<-h.e];rfl⟩
class SeL (Z:St) (i:Nat) (v:Option V) (τ:outParam St):Prop where
 e:Z.set i v=τ
instance i_se0{Z:St}{x v:Option V}:SeL (x::Z) 0 v (v::Z):=⟨rfl⟩
instance i_se1{Z τ:St}{x v:Option V}{i:Nat}[h:SeL Z i v τ]:SeL (x::Z) (i+1) v (x::τ):=⟨ya (x:: ·) h.e⟩
class NoL (Z:St) (τ:outParam St):Prop where
 e:Z=τ
instance i_no0:NoL [] []:=⟨rfl⟩
instance i_no1{Z:St}{x:Option V}:NoL (x::Z) (x::Z):=⟨rfl⟩
instance i_no2{N:List Str}{vs:List V}{τ:St}[h:StL N vs τ]:NoL (start N vs) τ:=⟨h.e⟩
instance i_no3{Z τ ρ:St}{v:Option V}{i:Nat}[h:NoL Z τ][g:SeL τ i v ρ]:NoL (Z.set i v) ρ:=⟨by rw[h.e,g.e]⟩
class LoL (Z:St) (i:Nat) (v:outParam V):Prop where
 e:Z[i]?=some (some v)
instance i_lo0{Z:St}{v:V}:LoL (some v::Z) 0 v:=⟨rfl⟩
instance i_lo1{Z:St}{x:Option V}{i:Nat}{v:V}[h:LoL Z i v]:LoL (x::Z) (i+1) v:=⟨h.e⟩
instance i_gname0{i:Nat}{v:V}{Z:St}{H:Hp}{Q:St->Hp->Prop}:Stp (Ht i v Z H Q) (Q (Z.set i (some v)) H):=⟨id⟩
instance i_gname{i:Nat}{v:V}{Z τ ρ:St}{H:Hp}{Q:St->Hp->Prop}[h:NoL Z τ][g:SeL τ i (some v) ρ]:Stp (Ht i v Z H Q) (Q ρ H):=⟨fun z=>by
 show Q (Z.set i (some v)) H
 rwa [h.e,g.e]⟩
instance i_var{i:Nat}{Z τ:St}{H:Hp}{Q:VK}{v:V}[h:NoL Z τ][g:LoL τ i v]:Stp (Ie i Z H Q) (Q v H):=⟨fun z=>J3 (h.e ▸ g.e) z⟩
instance:Stp (xP t Z H Q) (t Str.empty Z H Q):=⟨id⟩
instance {K:Fr}:Stp (xK K ta f Z H Q) (ta Z H fun x H1=>∃a C d fs v,x=.ref a/\H1 a=some (ABf a (.ref C) (some d))/\H1 d=some (.xd fs)/\ABZ K C/\PySem.W.hasDictIn K C=true/\PySem.W.findIn K (.ref C) f=some none/\fs.lookup f=some v/\Q v H1):=⟨id⟩
instance:Stp (tIf t ta tb Z H Q) (t Z H fun c H1=>if c=true then ta Z H1 Q else tb Z H1 Q):=⟨id⟩
end L2
local macro_rules | `(tactic| fail "l")=> `(tactic| (intro _ _ _ _ h;(repeat (cases h;rename_i h));subst_vars;rfl))
local macro_rules | `(tactic| fail "v")=> `(tactic| ((with_reducible refine' L2.J3 ?ev ?_);(case ev=>exact rfl)))
local macro_rules | `(tactic| fail "d")=> `(tactic| (refine' (?fw:L2.Vw _ _) ?pw ?xw;(case pw=>intro h;(repeat1' (first | with_reducible refine L2.Stp.go ?_ | fail "v"));exact h);(case fw=>exact fun _ x=>x)))
local macro_rules | `(tactic| fail"r")=> `(tactic| first | fail"d" | (with_reducible first | refine L2.ACg ?_ | refine L2.ADw ?_) | ((with_reducible refine' L2.ACh ?es ?_);(case es=>exact rfl)) | ((with_reducible refine' L2.ACe ?es ?_);(case es=>exact rfl)) | (with_reducible first | refine L2.fP ?_ | refine L2.zx ?_ | refine L2.uZ ?_ | refine L2.oN ?_ | refine L2.oJ ?_ | refine L2.uc ?_) | ((with_reducible refine' L2.Dq ?ec ?_);(case ec=>first | ((with_reducible show L2.ADd _ _);exact⟨by decide,by decide,by decide⟩) | ((with_reducible show L2.rm _ _);exact L2.Dv (by decide) (by decide)) | (show (0:Int)<_;first | decide | lia | exact L2.oW _))))
local macro_rules | `(tactic| symm)=> `(tactic| repeat fail "r")
local macro_rules | `(tactic| walk_at"fm")=> `(tactic| (repeat (first | exact List.forall_mem_nil _ | refine List.forall_mem_cons.mpr ⟨by with_unfolding_all rfl,?_⟩)))
local macro_rules | `(tactic| walk_at"f")=> `(tactic| ((with_reducible refine L2.R0 ?_);(with_reducible first | refine L2.K8 ?_ | refine L2.xY ?_ | refine L2.Xa ?_ | refine L2.fM ?_ | refine L2.fL ?_ | refine L2.oF ?_)))
namespace Fw
inductive Ex2{T0 T1:Type}(p:T0->T1->Prop):Prop where
 | i (x0:T0) (x1:T1) (h:p x0 x1):Ex2 p
inductive Ex3{T0 T1 T2:Type}(p:T0->T1->T2->Prop):Prop where
 | i (x0:T0) (x1:T1) (x2:T2) (h:p x0 x1 x2):Ex3 p
inductive Ex4{T0 T1 T2 T3:Type}(p:T0->T1->T2->T3->Prop):Prop where
 | i (x0:T0) (x1:T1) (x2:T2) (x3:T3) (h:p x0 x1 x2 x3):Ex4 p
inductive Ex5{T0 T1 T2 T3 T4:Type}(p:T0->T1->T2->T3->T4->Prop):Prop where
 | i (x0:T0) (x1:T1) (x2:T2) (x3:T3) (x4:T4) (h:p x0 x1 x2 x3 x4):Ex5 p
inductive Ex6{T0 T1 T2 T3 T4 T5:Type}(p:T0->T1->T2->T3->T4->T5->Prop):Prop where
 | i (x0:T0) (x1:T1) (x2:T2) (x3:T3) (x4:T4) (x5:T5) (h:p x0 x1 x2 x3 x4 x5):Ex6 p
inductive Ex7{T0 T1 T2 T3 T4 T5 T6:Type}(p:T0->T1->T2->T3->T4->T5->T6->Prop):Prop where
 | i (x0:T0) (x1:T1) (x2:T2) (x3:T3) (x4:T4) (x5:T5) (x6:T6) (h:p x0 x1 x2 x3 x4 x5 x6):Ex7 p
inductive Ex8{T0 T1 T2 T3 T4 T5 T6 T7:Type}(p:T0->T1->T2->T3->T4->T5->T6->T7->Prop):Prop where
 | i (x0:T0) (x1:T1) (x2:T2) (x3:T3) (x4:T4) (x5:T5) (x6:T6) (x7:T7) (h:p x0 x1 x2 x3 x4 x5 x6 x7):Ex8 p
inductive Ex9{T0 T1 T2 T3 T4 T5 T6 T7 T8:Type}(p:T0->T1->T2->T3->T4->T5->T6->T7->T8->Prop):Prop where
 | i (x0:T0) (x1:T1) (x2:T2) (x3:T3) (x4:T4) (x5:T5) (x6:T6) (x7:T7) (x8:T8) (h:p x0 x1 x2 x3 x4 x5 x6 x7 x8):Ex9 p
inductive ADb{T0 T1 T2 T3 T4 T5 T6 T7 T8 T9:Type}(p:T0->T1->T2->T3->T4->T5->T6->T7->T8->T9->Prop):Prop where
 | i (x0:T0) (x1:T1) (x2:T2) (x3:T3) (x4:T4) (x5:T5) (x6:T6) (x7:T7) (x8:T8) (x9:T9) (h:p x0 x1 x2 x3 x4 x5 x6 x7 x8 x9):ADb p
inductive An3(p0 p1 p2:Prop):Prop where
 | i (h0:p0) (h1:p1) (h2:p2):An3 p0 p1 p2
inductive An4(p0 p1 p2 p3:Prop):Prop where
 | i (h0:p0) (h1:p1) (h2:p2) (h3:p3):An4 p0 p1 p2 p3
inductive An5(p0 p1 p2 p3 p4:Prop):Prop where
 | i (h0:p0) (h1:p1) (h2:p2) (h3:p3) (h4:p4):An5 p0 p1 p2 p3 p4
inductive An6(p0 p1 p2 p3 p4 p5:Prop):Prop where
 | i (h0:p0) (h1:p1) (h2:p2) (h3:p3) (h4:p4) (h5:p5):An6 p0 p1 p2 p3 p4 p5
inductive An7(p0 p1 p2 p3 p4 p5 p6:Prop):Prop where
 | i (h0:p0) (h1:p1) (h2:p2) (h3:p3) (h4:p4) (h5:p5) (h6:p6):An7 p0 p1 p2 p3 p4 p5 p6
inductive An8(p0 p1 p2 p3 p4 p5 p6 p7:Prop):Prop where
 | i (h0:p0) (h1:p1) (h2:p2) (h3:p3) (h4:p4) (h5:p5) (h6:p6) (h7:p7):An8 p0 p1 p2 p3 p4 p5 p6 p7
inductive An9(p0 p1 p2 p3 p4 p5 p6 p7 p8:Prop):Prop where
 | i (h0:p0) (h1:p1) (h2:p2) (h3:p3) (h4:p4) (h5:p5) (h6:p6) (h7:p7) (h8:p8):An9 p0 p1 p2 p3 p4 p5 p6 p7 p8
inductive ABh(p0 p1 p2 p3 p4 p5 p6 p7 p8 p9:Prop):Prop where
 | i (h0:p0) (h1:p1) (h2:p2) (h3:p3) (h4:p4) (h5:p5) (h6:p6) (h7:p7) (h8:p8) (h9:p9):ABh p0 p1 p2 p3 p4 p5 p6 p7 p8 p9
inductive ADh(p0 p1 p2 p3 p4 p5 p6 p7 p8 p9 p10 p11 p12:Prop):Prop where
 | i (h0:p0) (h1:p1) (h2:p2) (h3:p3) (h4:p4) (h5:p5) (h6:p6) (h7:p7) (h8:p8) (h9:p9) (h10:p10) (h11:p11) (h12:p12):ADh p0 p1 p2 p3 p4 p5 p6 p7 p8 p9 p10 p11 p12
theorem Ls(r d:Int)(hd:d≠0):0<=r.fmod d*d/\(r.fmod d).natAbs<d.natAbs:=by
 rcases(by omega:0<d\/d<0) with h | h
 ·have a:=jn0 r h;have b:=Int.fmod_lt_of_pos r h;exact⟨jg5 a (ja0 h),by omega⟩
 ·have e:r.fmod d= -((-r).fmod (-d)):=by
   rw[Int.fmod_def,Int.fmod_def,Int.neg_fdiv_neg,jw0];omega
  have a:=jn0 (-r) (b:= -d) (by omega);have b:=Int.fmod_lt_of_pos (-r) (b:= -d) (by omega);rw[e];generalize (-r).fmod (-d)=z at*
  refine⟨?_,by omega⟩;have:=jg5 a (show 0<= -d by omega);rw[jw0];rw[ji1] at this;omega
structure EqI(a b u v r u' v' r':Int):Prop where
 e1:u*a+v*b=r
 e2:u'*a+v'*b=r'
 g:Int.gcd r r'=Int.gcd a b
 ph:(u=1/\v=0/\r=a/\u'=0/\v'=1/\r'=b)\/
  (b≠0/\r≠0/\0<=r'*r/\r.natAbs<=b.natAbs/\r'.natAbs<=b.natAbs/\u'.natAbs*r.natAbs+u.natAbs*r'.natAbs<=b.natAbs/\u.natAbs<=b.natAbs+1)
theorem EqI.start(a b:Int):EqI a b 1 0 a 0 1 b:=⟨⋯,⋯,rfl,.inl ⟨rfl,rfl,rfl,rfl,rfl,rfl⟩⟩
theorem J8(u q x:Int):(u-q*x).natAbs<=u.natAbs+q.natAbs*x.natAbs:=by
 have h:=Int.natAbs_sub_le u (q*x);rw[jn8] at h;exact h
variable{r d:Int}
theorem Rc(hd:d≠0)(hs:0<=d*r):(r-r.fdiv d*d).natAbs+(r.fdiv d).natAbs*d.natAbs=r.natAbs:=by
 have e:r.fmod d+r.fdiv d*d=r:=jo1 r d;have e2:r-r.fdiv d*d=r.fmod d:=by omega
 rw[e2,<-jn8];have fs:=Ls r d hd;rcases(by omega:0<d\/d<0) with h | h
 ·have r0:0<=r:=by
   rcases(by omega:0<=r\/r<0) with z | z
   ·exact z
   ·have:=js8 h z;omega
  have q0:0<=r.fdiv d:=Int.fdiv_nonneg r0 (ja0 h);have a:=jn0 r h;have p:=jg5 q0 (ja0 h);omega
 ·have r0:r<=0:=by
   rcases(by omega:r<=0\/0<r) with z | z
   ·exact z
   ·have:=Int.mul_neg_of_neg_of_pos h z;omega
  have q0:0<=r.fdiv d:=Int.fdiv_nonneg_of_nonpos_of_nonpos r0 (ja0 h);have a:r.fmod d<=0:=by
   rcases(by omega:r.fmod d<=0\/0<r.fmod d) with z | z
   ·exact z
   ·have:=js8 z h;omega
  have p:=jg5 q0 (show 0<= -d by omega);rw[ji1] at p;omega
variable{a r':Int}
theorem EqI.step{b u v u' v':Int}(I:EqI a b u v r u' v' r')(h:r'≠0):
 EqI a b u' v' r' (u-r.fdiv r'*u') (v-r.fdiv r'*v') (r-r.fdiv r'*r')/\(r-r.fdiv r'*r').natAbs<r'.natAbs:=by
 have e:r.fmod r'+r.fdiv r'*r'=r:=jo1 r r';have e2:r-r.fdiv r'*r'=r.fmod r':=⋯;have fs:=Ls r r' h;refine⟨⟨I.e2,?_,?_,?_⟩,by rw[e2];exact fs.2⟩
 ·have:=I.e1;have:=I.e2
  grind
 ·rw[Int.gcd_sub_mul_right_right,Int.gcd_comm];exact I.g
 ·right;rcases I.ph with ⟨h1,h2,h3,h4,h5,h6⟩ | ⟨hb,hr,hs,l1,l2,l3,l4⟩
  ·subst h1 h2 h3 h4 h5 h6;refine⟨h,h,by rw[e2];exact fs.1,qo _,by rw[e2];lia,?_,by simp⟩;simp
  ·have q:=Rc h hs;refine⟨hb,h,by rw[e2];exact fs.1,l2,by rw[e2];lia,?_,?_⟩
   ·have m:=J8 u (r.fdiv r') u';generalize (r-r.fdiv r'*r').natAbs=A at*
    generalize (u-r.fdiv r'*u').natAbs=B at*
    generalize (r.fdiv r').natAbs=C at*
    have k1:B*r'.natAbs<=(u.natAbs+C*u'.natAbs)*r'.natAbs:=jg9 _ m;have k2:(u.natAbs+C*u'.natAbs)*r'.natAbs+u'.natAbs*A=u.natAbs*r'.natAbs+u'.natAbs*(A+C*r'.natAbs):=by grind
    rw[q] at k2;lia
   ·have:u'.natAbs*1<=u'.natAbs*r.natAbs:=ji5 _ ⋯;lia
theorem v_bound{b u v:Int}(hb:b≠0)(e:u*a+v*b=r)(l1:r.natAbs<=b.natAbs)(l4:u.natAbs<=b.natAbs+1):v.natAbs<=1+2*a.natAbs:=by
 have e1:v*b=r-u*a:=⋯;have h:=J8 r u a;rw[<-e1,jn8] at h;have hb':0<b.natAbs:=⋯;have k:u.natAbs*a.natAbs<=(b.natAbs+1)*a.natAbs:=jg9 _ l4;have k2:a.natAbs*1<=a.natAbs*b.natAbs:=ji5 _ hb';have k3:v.natAbs*b.natAbs<=(1+2*a.natAbs)*b.natAbs:=by grind
 exact Nat.le_of_mul_le_mul_right k3 hb'
theorem EqI.bounds{b u v u' v':Int}(I:EqI a b u v r u' v' r'):
 u.natAbs<=b.natAbs+1/\v.natAbs<=1+2*a.natAbs/\u'.natAbs<=b.natAbs+1/\v'.natAbs<=1+2*a.natAbs/\r.natAbs<=a.natAbs+b.natAbs/\r'.natAbs<=b.natAbs:=by
 rcases I.ph with ⟨h1,h2,h3,h4,h5,h6⟩ | ⟨hb,hr,hs,l1,l2,l3,l4⟩
 ·subst h1 h2 h3 h4 h5 h6;refine⟨by simp,by simp,by simp,by simp,⋯,⋯⟩
 ·have:u'.natAbs*1<=u'.natAbs*r.natAbs:=ji5 _ ⋯;have lu:u'.natAbs<=b.natAbs+1:=⋯
  exact⟨l4,v_bound hb I.e1 l1 l4,lu,v_bound hb I.e2 l2 lu,⋯,l2⟩
theorem bz(hd:d≠0):(r.fdiv d).natAbs<=r.natAbs+1:=by
 have e:r.fmod d+r.fdiv d*d=r:=jo1 r d;have fs:=(Ls r d hd).2;have h:(r.fdiv d*d).natAbs<=r.natAbs+(r.fmod d).natAbs:=by omega
 rw[jn8] at h;have d1:1<=d.natAbs:=by omega
 generalize (r.fdiv d).natAbs=x at*
 generalize d.natAbs=y at*
 generalize r.natAbs=z at*
 rcases(by omega:x<=1\/2<=x) with c | c
 ·omega
 ·obtain⟨k,rfl⟩:∃k,x=k+1:=⟨x-1,by omega⟩;have:(k+1)*y=k*y+y:=js5 k y;have:k*1<=k*y:=ji5 k d1;omega
structure Eqn(a b u v g:Int):Prop where
 eq:u*a+v*b=g
 gd:g=(Int.gcd a b:Int)
 bu:u.natAbs<=b.natAbs+1
 bv:v.natAbs<=1+2*a.natAbs
theorem EqI.done{b u v u' v':Int}(I:EqI a b u v r u' v' 0):(r<0->Eqn a b (-u) (-v) (-r))/\(¬r<0->Eqn a b u v r):=by
 have g:=I.g;rw[Int.gcd_zero_right] at g;have B:=I.bounds;refine⟨fun h=>⟨?_,⋯,⋯,⋯⟩,fun h=>⟨I.e1,⋯,B.1,B.2.1⟩⟩;have:=I.e1;rw[jw0,jw0];lia
theorem Mz{b:Int}(ha:0<a):0<(Int.gcd a b:Int):=by
 have:Int.gcd a b≠0:=fun z=>by
  have:=Int.eq_zero_of_gcd_eq_zero_left z;lia
 lia
theorem c7{b:Int}(ha:0<a):(Int.gcd a b:Int)<=a:=jp7 ha (ji9 ..)
noncomputable def CQ(a b:Int):Int:=a/(Int.gcd a b:Int)*b
theorem Bj{b:Int}(ha:0<a)(hb:0<b):
 0<CQ a b/\a∣CQ a b/\b∣CQ a b/\CQ a b*(Int.gcd a b:Int)=a*b/\(∀t,a∣t->b∣t->CQ a b∣t)/\CQ a b=(Int.lcm a b:Int):=by
 have gp:=Mz (b:=b) ha;obtain⟨x,hx⟩:(Int.gcd a b:Int)∣a:=ji9 ..;obtain⟨y,hy⟩:(Int.gcd a b:Int)∣b:=jk3 ..;have e1:a/(Int.gcd a b:Int)=x:=by
  have gne:(Int.gcd a b:Int)≠0:=⋯;generalize hg:(Int.gcd a b:Int)=g at*
  rw[hx];exact jl0 x gne
 have e:CQ a b=x*b:=by unfold CQ;rw[e1]
 have pr:CQ a b*(Int.gcd a b:Int)=a*b:=by rw[e];conv=>rhs;rw[hx]
                                          grind
 have pl:(Int.lcm a b:Int)*(Int.gcd a b:Int)=a*b:=by
  have h:=Int.gcd_mul_lcm a b;have h2:((Int.gcd a b*Int.lcm a b:Nat):Int)=((a.natAbs*b.natAbs:Nat):Int):=by rw[h]
  rw[jh2,jh2,Int.natAbs_of_nonneg (ja0 ha),Int.natAbs_of_nonneg (ja0 hb)] at h2;rw[Jn];exact h2
 have el:CQ a b=(Int.lcm a b:Int):=Int.eq_of_mul_eq_mul_right (by lia:(Int.gcd a b:Int)≠0) (pr.trans pl.symm);refine⟨?_,?_,?_,pr,?_,el⟩
 ·have:0<CQ a b*(Int.gcd a b:Int):=by rw[pr];exact jv9 ha hb
  exact Int.pos_of_mul_pos_left this gp
 ·rw[el];exact Int.dvd_lcm_left ..
 ·rw[el];exact Int.dvd_lcm_right ..
 ·intro t h1 h2;rw[el];exact Int.coe_lcm_dvd h1 h2
theorem Vr{b:Int}(ha:0<a)(hb:0<b):CQ a b=CQ b a:=by
 rw[(Bj ha hb).2.2.2.2.2,(Bj hb ha).2.2.2.2.2,Int.lcm_comm]
theorem vQ{b:Int}(ha:0<a)(hb:0<b):CQ a b<=a*b:=by
 have f:=Bj ha hb;have gp:=Mz (b:=b) ha;have h:CQ a b*1<=CQ a b*(Int.gcd a b:Int):=Zl ⋯ (ja0 f.1);rw[f.2.2.2.1] at h;lia
noncomputable def On(n:Int)(b:Nat)(d:Int):Bool:=b.testBit (d%n).toNat
theorem ACr(b k:Nat):decide (((b:Nat):Int)/2^k%2=1)=b.testBit k:=by
 rw[jm9];have e:((b:Nat):Int)/2^k%2=((b/2^k%2:Nat):Int):=by
  rw[Zp,jk5,jh3];rfl
 rw[e,ko];simp only[decide_eq_true_eq];lia
theorem HD(b k:Nat):((b:Nat):Int)/2^k=((b >>> k:Nat):Int):=by
 rw[ub,jk5,jh3];rfl
theorem RZ(b k:Nat):((b:Nat):Int)*2^k=((b <<< k:Nat):Int):=by
 rw[Nat.shiftLeft_eq,jh2,jh3];rfl
theorem j8(k:Nat):(1:Int)*2^k-1=((2^k-1:Nat):Int):=by
 have:0<2^k:=kz k;rw[Int.natCast_sub ⋯,jh3];simp
theorem oV(k:Nat):(1:Int)*2^k=((2^k:Nat):Int):=by
 rw[jh3];simp
variable{b c:Nat}
theorem Ni{w:Nat}(hb:b<2^w)(hc:c<2^w)(h:∀i,i<w->b.testBit i=c.testBit i):b=c:=by
 refine vi fun i=>?_;by_cases hi:i<w
 ·exact h i hi
 ·have p:2^w<=2^i:=vj nofun ⋯;rw[jj4 ⋯,jj4 ⋯]
theorem high{n i:Nat}(hb:b<2^n)(h:n<=i):b.testBit i=false:=by
 have p:2^n<=2^i:=vj nofun h;exact jj4 ⋯
theorem HW(c w:Nat):c &&& (2^w-1)<2^w:=by
 rw[jo5];exact jl3 _ (kz w)
theorem GJ(c w i:Nat)(h:i<w):(c &&& (2^w-1)).testBit i=c.testBit i:=by
 rw[jb0,jk0];simp[h]
noncomputable def lat(n b s:Nat):Nat:=((b <<< s) ||| (b >>> (n-s))) &&& (2^n-1)
theorem KQ(n b s:Nat):lat n b s<2^n:=HW _ _
theorem vR{n s i:Nat}(hb:b<2^n)(hs:s<n)(hi:i<n):(lat n b s).testBit i=b.testBit ((i+n-s)%n):=by
 unfold lat;rw[GJ _ _ _ hi,jd4,jo6,ja3];by_cases h:s<=i
 ·have e:(i+n-s)%n=i-s:=by
   have:i+n-s=i-s+n:=⋯;rw[this,Nat.add_mod_right,je1 ⋯]
  rw[e,high hb (show n<=n-s+i by lia)];simp[h]
 ·have e:(i+n-s)%n=n-s+i:=by
   rw[je1 ⋯];lia
  rw[e];simp[h]
theorem idx{n num:Int}(hn:0<n):(((d%n).toNat+n.toNat-(num%n).toNat)%n.toNat)=((d-num)%n).toNat:=by
 have h1:=qh d (show n≠0 by lia);have h2:=qg d hn;have h3:=qh num (show n≠0 by lia);have h4:=qg num hn;have e:(d-num)%n=(d%n+n-num%n)%n:=by
  rw[ju9,ju9 (d%n+n),jf7,Int.emod_emod,Int.emod_emod]
 have h5:=qh (d%n+n-num%n) (show n≠0 by lia);rw[e];have k:(((d%n).toNat+n.toNat-(num%n).toNat:Nat):Int)=d%n+n-num%n:=⋯;have k2:(n.toNat:Int)=n:=⋯;have:((((d%n).toNat+n.toNat-(num%n).toNat)%n.toNat:Nat):Int)=(d%n+n-num%n)%n:=by
  rw[Zp,k,k2]
 lia
theorem KN{n:Int}{num:Int}(hn:0<n)(hb:b<2^n.toNat):On n (lat n.toNat b (num%n).toNat) d=On n b (d-num):=by
 unfold On;have h1:=qh d (show n≠0 by lia);have h2:=qg d hn;have h3:=qh num (show n≠0 by lia);have h4:=qg num hn;rw[vR hb ⋯ ⋯,idx hn]
structure FZ(n b w c:Nat):Prop where
 lt:c<2^w
 bit:∀i,i<w->c.testBit i=b.testBit (i%n)
theorem FZ.start{n:Nat}(h:b<2^n):FZ n b n b:=⟨h,fun i hi=>by rw[je1 hi]⟩
theorem FZ.dbl{n w:Nat}(S:FZ n b w c)(hd:n∣w):FZ n b (w*2) (c ||| (c <<< w)):=by
 have e:2^(w*2)=2^w*2^w:=by rw[Nat.mul_two,jq6]
 refine⟨?_,fun i hi=>?_⟩
 ·refine jt6 (xk S.lt (vj nofun ⋯)) ?_;rw[Nat.shiftLeft_eq,e];exact Nat.mul_lt_mul_of_pos_right S.lt (kz w)
 ·rw[jd4,jo6];by_cases h:i<w
  ·rw[S.bit i h];simp[Nat.not_le.mpr h]
  ·rw[high S.lt ⋯,S.bit (i-w) ⋯];obtain⟨k,rfl⟩:=hd;have e2:i=(i-n*k)+n*k:=⋯
   have e3:i%n=(i-n*k)%n:=by conv=>lhs;rw[e2,Nat.add_mul_mod_self_left]
   rw[e3];simp;intro z;lia
variable{z:Nat}
theorem FZ.cut{n w:Nat}(S:FZ n b w c)(h:z<=w):FZ n b z (c &&& (2^z-1)):=
 ⟨HW _ _,fun i hi=>by rw[GJ _ _ _ hi,S.bit i ⋯]⟩
theorem FZ.on{n m:Int}(hn:0<n)(hm:0<m)(hd:n∣m)(S:FZ n.toNat b m.toNat c)(d:Int):On m c d=On n b d:=by
 unfold On;have h1:=qh d (show m≠0 by lia);have h2:=qg d hm;rw[S.bit _ ⋯]
 congr 1
 have e:(d%m)%n=d%n:=je3 d hd;have h3:=qh d (show n≠0 by lia);have k:(((d%m).toNat%n.toNat:Nat):Int)=d%m%n:=by
  rw[Zp];have a1:((d%m).toNat:Int)=d%m:=⋯;have a2:(n.toNat:Int)=n:=⋯;rw[a1,a2]
 rw[e] at k;lia
noncomputable def hit(n:Int)(ds:List Int)(d:Int):Bool:=ds.any fun x=>decide ((d-x)%n=0)
structure RB(n:Int)(ds:List Int)(b:Nat):Prop where
 lt:b<2^n.toNat
 bit:∀d,On n b d=hit n ds d
theorem RB.nil(n:Int):RB n [] 0:=⟨kz _,fun d=>by unfold On hit;simp⟩
theorem Wq{n x:Int}(hn:0<n):(d-x)%n=0<->d%n=x%n:=by
 rw[ju9];have h1:=qh d (show n≠0 by lia);have h2:=qg d hn;have h3:=qh x (show n≠0 by lia);have h4:=qg x hn;constructor
 ·intro h;have:=ji0 h;obtain⟨k,hk⟩:=this;have:k=0:=by
   rcases jn3 k 0 with z | z | z
   ·have:n*k<=n*(-1):=Zl ⋯ ⋯;lia
   ·exact z
   ·have:n*1<=n*k:=Zl ⋯ ⋯;lia
  subst this;lia
 ·intro h;rw[h];simp
theorem RB.snoc{n:Int}{ds:List Int}{x:Int}(hn:0<n)(h:RB n ds b):RB n (ds++[x]) (b ||| 2^(x%n).toNat):=by
 have h3:=qh x (show n≠0 by lia);have h4:=qg x hn;refine⟨jt6 h.lt (Nat.pow_lt_pow_right nofun ⋯),fun d=>?_⟩;have h1:=qh d (show n≠0 by lia);have hb:=h.bit d;unfold On hit at*
 rw[jd4,hb,List.any_append,jk9]
 congr 1
 rw[jm1,List.any_nil,jt9,ko,decide_eq_true_eq,decide_eq_true_eq,Wq hn];lia
def Prm(r:Nat):Prop:=2<=r/\∀d,d∣r->d=1\/d=r
theorem Prm.euclid{r a:Nat}(h:Prm r)(hd:r∣a*b):r∣a\/r∣b:=by
 rcases h.2 _ (jj2 r a) with g | g
 ·exact .inr (Nat.Coprime.dvd_of_dvd_mul_left g hd)
 ·left;have:=je9 r a
  rwa [g] at this
theorem TV:∀(k q:Nat),q<=k->2<=q->∃r,Prm r/\r∣q
 | 0,q,h,h2=>⋯
 | k+1,q,h,h2=>by
  by_cases c:∃d,d∣q/\d≠1/\d≠q
  ·obtain⟨d,hd,h1,hq⟩:=c;have d0:d≠0:=fun z=>by subst z;have:=Nat.eq_zero_of_zero_dvd hd;lia
   have dl:=kc ⋯ hd;obtain⟨r,hr,hrd⟩:=TV k d ⋯ ⋯;exact⟨r,hr,jm5 hrd hd⟩
  ·refine⟨q,⟨h2,fun d hd=>?_⟩,Nat.dvd_refl q⟩;by_cases h1:d=1
   ·exact .inl h1
   ·by_cases hq:d=q
    ·exact .inr hq
    ·exact absurd ⟨d,hd,h1,hq⟩ c
structure PI0(n:Nat)(ps:List Nat)(l f:Nat):Prop where
 l0:0<l
 ln:l<=n
 f2:2<=f
 low:∀q,2<=q->q∣l->f<=q
 all:∀r,Prm r->r∣n->r∈ps\/r∣l
 mem:∀p∈ps,2<=p/\p<=n
theorem PI0.start{n:Nat}(h:0<n):PI0 n [] n 2:=⟨h,qo _,⋯,fun q h _=>h,fun r _ h=>.inr h,fun p hp=>by cases hp⟩
theorem PI0.app{n:Nat}{ps:List Nat}{l f:Nat}(h:PI0 n ps l f)(hf:f∣l):PI0 n (ps++[f]) l f:=
 ⟨h.l0,h.ln,h.f2,h.low,fun r hr hd=>(h.all r hr hd).imp (fun z=>ja1 _ z) id,fun p hp=>by
  rcases yb.mp hp with z | z
  ·exact h.mem p z
  ·have e:p=f:=by simpa using z
   subst e;exact⟨h.f2,zo (kc h.l0 hf) h.ln⟩⟩
theorem PI0.div{n:Nat}{ps:List Nat}{l f:Nat}(h:PI0 n ps l f)(hf:f∣l)(hm:f∈ps):PI0 n ps (l/f) f/\l/f<l:=by
 obtain⟨k,rfl⟩:=hf;have f0:0<f:=by have:=h.f2;lia
 have e:f*k/f=k:=ji4 k f0;have k0:0<k:=Nat.pos_of_mul_pos_left h.l0;have kl:k<f*k:=by
  have:=jg9 k h.f2;lia
 rw[e];refine⟨⟨k0,by have:=h.ln;lia,h.f2,fun q h2 hq=>h.low q h2 (Nat.dvd_mul_left_of_dvd hq f),fun r hr hd=>?_,h.mem⟩,kl⟩;rcases h.all r hr hd with z | z
 ·exact .inl z
 ·rcases hr.euclid z with y | y
  ·have:f<=r:=h.low r hr.1 z;have:r<=f:=kc f0 y;have:r=f:=⋯
   subst this;exact .inl hm
  ·exact .inr y
theorem PI0.next{n:Nat}{ps:List Nat}{l f:Nat}(h:PI0 n ps l f)(hf:¬f∣l):PI0 n ps l (f+1):=
 ⟨h.l0,h.ln,by have:=h.f2;lia,fun q h2 hq=>by
  have:=h.low q h2 hq;have:q≠f:=fun z=>hf (z ▸ hq);lia,h.all,h.mem⟩
structure rN(n:Nat)(ps:List Nat):Prop where
 all:∀r,Prm r->r∣n->r∈ps
 mem:∀p∈ps,2<=p/\p<=n
theorem PI0.one{n:Nat}{ps:List Nat}{l f:Nat}(h:PI0 n ps l f)(e:¬1<l):rN n ps:=
 ⟨fun r hr hd=>by
  rcases h.all r hr hd with z | z
  ·exact z
  ·have:=kc h.l0 z;have:=hr.1;lia,h.mem⟩
theorem PI0.fin{n:Nat}{ps:List Nat}{l f:Nat}(h:PI0 n ps l f)(hf:¬f*f<=l)(e:1<l):rN n (ps++[l]):=
 ⟨fun r hr hd=>by
  rcases h.all r hr hd with z | z
  ·exact ja1 _ z
  ·refine yi _ ?_;obtain⟨k,hk⟩:=z;have k0:0<k:=by
    rcases jd6 k with z | z
    ·subst z;simp at hk;lia
    ·exact z
   have hk1:k=1:=by
    by_cases c:k=1
    ·exact c
    ·exfalso;have a:=h.low k ⋯ ⟨r,by rw[hk,jv4]⟩;have b:=h.low r hr.1 ⟨k,hk⟩;have:=Nat.mul_le_mul b a;lia
   subst hk1;simp at hk;simp[hk],fun p hp=>by
  rcases yb.mp hp with z | z
  ·exact h.mem p z
  ·have e:p=l:=by simpa using z
   subst e;exact⟨⋯,h.ln⟩⟩
structure Per(z c t:Nat):Prop where
 t0:0<t
 dv:t∣z
 bit:∀i j,i<z->j<z->i%t=j%t->c.testBit i=c.testBit j
theorem Per.mul{t u:Nat}(h:Per z c t)(u0:0<u)(h1:t∣u)(h2:u∣z):Per z c u:=⟨u0,h2,fun i j hi hj e=>h.bit i j hi hj (by
 obtain⟨k,rfl⟩:=h1;have a:=jg1 i t k;have b:=jg1 j t k;rw[<-a,<-b,e])⟩
theorem Per.of_shift{s:Nat}(s0:0<s)(hd:s∣z)(h:∀i,i+s<z->c.testBit i=c.testBit (i+s)):Per z c s:=by
 have up:∀k i,i+s*k<z->c.testBit i=c.testBit (i+s*k):=by
  intro k
  induction k with
  | zero=>intro i _;simp
  | succ k ih=>
   intro i hi;rw[Nat.mul_succ] at hi ⊢;rw[ih i ⋯,h (i+s*k) ⋯,ju0]
 have red:∀i,i<z->c.testBit i=c.testBit (i%s):=fun i hi=>by
  have e:=jq5 i s;have:=up (i/s) (i%s) ⋯;rw[e] at this;exact this.symm
 exact⟨s0,hd,fun i j hi hj e=>by rw[red i hi,red j hj,e]⟩
theorem Per.shift{s:Nat}(h:Per z c s):∀i,i+s<z->c.testBit i=c.testBit (i+s):=fun i hi=>h.bit i (i+s) ⋯ hi (by rw[Nat.add_mod_right])
theorem lL{s:Nat}(hc:c<2^z)(s0:0<s)(hd:s∣z)(z0:0<z):(c >>> s=c &&& (2^(z-s)-1))<->Per z c s:=by
 have sz:=kc z0 hd;constructor
 ·intro h;refine Per.of_shift s0 hd fun i hi=>?_;have:=ya (fun x=>x.testBit i) h;simp only[ja3] at this;rw[GJ _ _ _ ⋯] at this;rw[<-this,js1]
 ·intro h;refine vi fun i=>?_;rw[ja3];by_cases hi:i<z-s
  ·rw[GJ _ _ _ hi,h.shift i ⋯,js1]
  ·rw[high hc ⋯,high (HW c (z-s)) ⋯]
theorem Per.strt{s:Nat}(h:Per z c s)(hc:c<2^z)(z0:0<z):FZ s (c &&& (2^s-1)) z c:=⟨hc,fun i hi=>by
 have l:=jl3 i h.t0;have sz:=kc z0 h.dv;rw[GJ _ _ _ l];exact h.bit i (i%s) hi ⋯ (by rw[Nat.mod_mod])⟩
theorem FZ.comp{s c' n:Nat}(h:FZ s c' z c)(g:FZ z c n b)(hd:s∣z)(z0:0<z):FZ s c' n b:=⟨g.lt,fun i hi=>by
 rw[g.bit i hi,h.bit _ (jl3 i z0)];obtain⟨k,rfl⟩:=hd;rw[jg1]⟩
theorem Per.up{s c' t:Nat}(h:FZ s c' z c)(hd:s∣z)(s0:0<s)(g:Per s c' t):Per z c t:=by
 have hts:t∣s:=g.dv;refine⟨g.t0,jm5 hts hd,fun i j hi hj e=>?_⟩;rw[h.bit i hi,h.bit j hj];refine g.bit _ _ (jl3 i s0) (jl3 j s0) ?_;obtain⟨k,rfl⟩:=hts;rw[jg1,jg1,e]
def Tight(z c p:Nat):Prop:=¬(p∣z/\Per z c (z/p))
theorem Tight.keep{s c' p:Nat}(h:FZ s c' z c)(hd:s∣z)(s0:0<s)(z0:0<z)(p0:0<p)(g:Tight z c p):Tight s c' p:=fun⟨h1,h2⟩=>by
 refine g ⟨jm5 h1 hd,?_⟩;have a:=Per.up h hd s0 h2;obtain⟨k,rfl⟩:=h1;obtain⟨m,rfl⟩:=hd;have e1:p*k/p=k:=ji4 k p0;have e2:p*k*m/p=k*m:=by rw[ju1,ji4 _ p0]
 rw[e1] at a;rw[e2];have km:0<k*m:=by
  rcases jd6 (k*m) with z | z
  ·rw[ju1,z] at z0;simp at z0
  ·exact z
 exact a.mul km ⟨m,rfl⟩ ⟨p,by rw[ju1,jv4]⟩
structure Lst(n b z c:Nat):Prop where
 z0:0<z
 dv:z∣n
 lt:c<2^z
 st:FZ z c n b
 min:∀s,s<z->¬Per z c s
theorem Lst.of{n:Nat}{ps:List Nat}(P:rN n ps)(n0:0<n)(z0:0<z)(dv:z∣n)(lt:c<2^z)(st:FZ z c n b)(t:∀p∈ps,Tight z c p):Lst n b z c:=by
 refine⟨z0,dv,lt,st,fun s hs hp=>?_⟩;obtain⟨k,hk⟩:=hp.dv;have s0:=hp.t0;have k2:2<=k:=by
  rcases(by lia:k=0\/k=1\/2<=k) with z | z | z
  ·subst z;simp at hk;lia
  ·subst z;simp at hk;lia
  ·exact z
 obtain⟨r,hr,⟨m,hm⟩⟩:=TV k k (qo _) k2;have rz:r∣z:=⟨s*m,by rw[hk,hm,jn5]⟩;refine t r (P.all r hr (jm5 rz dv)) ⟨rz,?_⟩;have r0:0<r:=by have:=hr.1;lia
 have e:z/r=s*m:=by rw[hk,hm,jn5,ji4 _ r0]
 rw[e];have sm:0<s*m:=by
  rcases jd6 (s*m) with q | q
  ·rw[hk,hm,jn5,q] at z0;simp at z0
  ·exact q
 exact hp.mul sm ⟨m,rfl⟩ ⟨r,by rw[hk,hm,jn5,jv4]⟩
noncomputable def cnt(b:Nat):Nat->Nat
 | 0=>0
 | k+1=>cnt b k+(if b.testBit k then 1 else 0)
theorem Zz(b:Nat):∀k,cnt b (k+1)=b%2+cnt (b/2) k
 | 0=>by
  simp only[cnt,jk6];have:=Nat.mod_two_eq_zero_or_one b;rcases this with h | h<;>simp[h]
 | k+1=>by
  have ih:=Zz b k;rw[cnt,ih];show b%2+cnt (b/2) k+_=b%2+(cnt (b/2) k+_);rw[je2];lia
noncomputable def CC(n:Int)(b:Nat)(d:Int):Int:=d/n*(cnt b n.toNat:Int)+(cnt b (d%n).toNat:Int)
theorem Gd{n:Int}(hn:0<n)(d:Int):CC n b (d+1)=CC n b d+(if On n b d then 1 else 0):=by
 have h1:=qh d (show n≠0 by lia);have h2:=qg d hn;have h3:=ja4 d n;unfold CC On;by_cases hl:d%n=n-1
 ·have hd:d+1=n*(d/n+1):=by rw[ja2,jb6];lia
  have e1:(d+1)/n=d/n+1:=by rw[hd];exact jl0 _ ⋯
  have e2:(d+1)%n=0:=by rw[hd];exact jr7 _ _
  have e3:n.toNat=(d%n).toNat+1:=⋯;rw[e1,e2];show(d/n+1)*(cnt b n.toNat:Int)+((cnt b 0:Nat):Int)=_;have e4:(cnt b n.toNat:Int)=(cnt b (d%n).toNat:Int)+(if b.testBit (d%n).toNat then 1 else 0):=by
   rw[e3,cnt];split<;>simp
  have e5:((cnt b 0:Nat):Int)=0:=rfl;rw[jj6,jg6,e5];lia
 ·have e1:(d+1)/n=d/n:=by
   have:d+1=n*(d/n)+(d%n+1):=⋯;rw[this,jo3 _ _ ⋯,jc7 (a:=d%n+1) (b:=n) ⋯ ⋯,jd5]
  have e2:(d+1)%n=d%n+1:=by
   have:d+1=n*(d/n)+(d%n+1):=⋯;rw[this,Int.mul_add_emod_self_left];exact je6 ⋯ ⋯
  rw[e1,e2];have e3:(d%n+1).toNat=(d%n).toNat+1:=⋯;rw[e3,cnt];split<;>simp<;>lia
theorem w5{n:Int}(hn:0<n)(d:Int):CC n b (d+n)=CC n b d+(cnt b n.toNat:Int):=by
 unfold CC;have e1:(d+n)/n=d/n+1:=by rw[Int.add_ediv_of_dvd_right (Xs n),Int.ediv_self ⋯]
 have e2:(d+n)%n=d%n:=jf7 d n;rw[e1,e2,jj6,jg6];lia
theorem QC{n:Int}{b:Nat}(hn:0<n)(d:Int):∀k:Nat,CC n b d<=CC n b (d+(k:Int))
 | 0=>by simp
 | k+1=>by
  have ih:=QC (b:=b) hn d k;have e:=Gd (b:=b) hn (d+(k:Int));have:d+((k+1:Nat):Int)=d+(k:Int)+1:=⋯;rw[this,e];split<;>lia
theorem Nt{n:Int}(hn:0<n){d e:Int}(h:d<=e):CC n b d<=CC n b e:=by
 have:=QC (b:=b) hn d (e-d).toNat
 rwa [show d+((e-d).toNat:Int)=e by lia] at this
theorem qP(c d:Nat):(2*c) &&& (2*d+1)=2*(c &&& d):=by
 refine vi fun i=>?_;cases i with
 | zero=>rw[jb0];simp[jk6]
 | succ i=>
  rw[jb0,je2,je2,je2,show 2*c/2=c by lia,show(2*d+1)/2=d by lia,show 2*(c &&& d)/2=c &&& d by lia,jb0]
theorem u9(c:Nat):(2*c+1) &&& (2*c)=2*c:=by
 refine vi fun i=>?_;cases i with
 | zero=>rw[jb0];simp[jk6]
 | succ i=>
  rw[jb0,je2,je2,show 2*c/2=c by lia,show(2*c+1)/2=c by lia,Bool.and_self]
theorem gF:∀(k b:Nat),b.testBit k=true->(∀i,i<k->b.testBit i=false)->(b &&& (b-1))+2^k=b
 | 0,b,h,_=>by
  rw[jk6,decide_eq_true_eq] at h;obtain⟨c,rfl⟩:∃c,b=2*c+1:=⟨b/2,⋯⟩;rw[show 2*c+1-1=2*c by lia,u9]
 | k+1,b,h,g=>by
  have g0:=g 0 ⋯;rw[jk6,decide_eq_false_iff_not] at g0;obtain⟨c,rfl⟩:∃c,b=2*c:=⟨b/2,⋯⟩;rw[je2,show 2*c/2=c by lia] at h;have c0:c≠0:=by
   rintro rfl;rw[jf5] at h;exact Bool.noConfusion h
  have ih:=gF k c h fun i hi=>by
   have:=g (i+1) ⋯
   rwa [je2,show 2*c/2=c by lia] at this
  rw[show 2*c-1=2*(c-1)+1 by lia,qP,Nat.pow_succ];lia
theorem AAg(h:b≠0):∃k,b.testBit k=true/\∀i,i<k->b.testBit i=false:=by
 obtain⟨j,hj⟩:=Nat.exists_testBit_of_ne_zero h;have:∀n j,j<=n->b.testBit j=true->∃k,b.testBit k=true/\∀i,i<k->b.testBit i=false:=by
  intro n
  induction n with
  | zero=>
   intro j hj hb;exact⟨j,hb,fun i hi=>⋯⟩
  | succ n ih=>
   intro j hj hb;by_cases c:∃i,i<j/\b.testBit i=true
   ·obtain⟨i,hi,hb'⟩:=c;exact ih i ⋯ hb'
   ·exact⟨j,hb,fun i hi=>by
     cases e:b.testBit i with
     | false=>rfl
     | true=>exact absurd ⟨i,hi,e⟩ c⟩
 exact this j j (qo _) hj
theorem pO(k:Nat):(2^k).log2=k:=by
 have h0:(2:Nat)^k≠0:=by have:=kz k;lia
 exact Nat.log2_two_pow
noncomputable def K7(w:Nat):List Nat->Nat
 | []=>0
 | a::l=>a+2^w*K7 w l
noncomputable def fsum:List Nat->Nat
 | []=>0
 | a::l=>a+fsum l
def Dg(w f s:Nat):Prop:=∃l:List Nat,(∀a∈l,a<=w)/\f=K7 w l/\s=fsum l
theorem Dg.nil{w:Nat}:Dg w 0 0:=⟨[],(fun _ h=>nomatch h),rfl,rfl⟩
theorem Dg.cons{w a f s:Nat}(h:a<=w)(g:Dg w f s):Dg w (a+2^w*f) (a+s):=by
 obtain⟨l,h1,rfl,rfl⟩:=g;exact⟨a::l,fun x hx=>(zh.mp hx).elim (fun e=>e ▸ h) (h1 x),rfl,rfl⟩
def Ev(w f e:Nat):Prop:=∀i,e.testBit i=(f.testBit i&&decide (i%(2*w)<w))
theorem V0{w:Nat}:∀l:List Nat,K7 w l=0->fsum l=0
 | [],_=>rfl
 | a::l,e=>by
  have e:a+2^w*K7 w l=0:=e;have e1:a=0:=⋯;have e2:2^w*K7 w l=0:=⋯;have p:=kz w;rcases Nat.mul_eq_zero.mp e2 with z | z
  ·lia
  ·show a+fsum l=0;rw[e1,V0 l z]
theorem Dg.last{w f s:Nat}(h:Dg w f s)(hl:f<2^w):f=s:=by
 obtain⟨l,_,rfl,rfl⟩:=h;cases l with
 | nil=>rfl
 | cons a l=>
  have hl:a+2^w*K7 w l<2^w:=hl;have z:K7 w l=0:=by
   rcases jd6 (K7 w l) with z | z
   ·exact z
   ·have:=Nat.le_mul_of_pos_right (2^w) z;lia
  show a+2^w*K7 w l=a+fsum l;rw[V0 l z,z];simp
theorem WQ{w a h:Nat}(ha:a<2^w)(i:Nat):(a+2^w*h).testBit i=if i<w then a.testBit i else h.testBit (i-w):=by
 rw[js1,Nat.testBit_two_pow_mul_add h ha]
theorem Ev.peel{w a h e:Nat}(w0:0<w)(ha:a<2^w)(H:Ev w (a+2^w*h) e):e=a+2^(2*w)*(e/2^(2*w))/\Ev w (h/2^w) (e/2^(2*w)):=by
 have e1:e%2^(2*w)=a:=by
  refine vi fun i=>?_;rw[jc3,H i,WQ ha];by_cases c:i<w
  ·rw[xp c,je1 ⋯];simp[c,show i<2*w by lia]
  ·rw[xy c];have:a.testBit i=false:=jj4 (xk ha (vj nofun ⋯));rw[this];by_cases c2:i<2*w
   ·rw[je1 c2];simp[c]
   ·simp[c2]
 refine⟨?_,fun i=>?_⟩
 ·have:=jq5 e (2^(2*w));rw[e1] at this;exact this.symm
 ·rw[<-ub,<-ub,ja3,ja3,H,WQ ha,xy ⋯,show 2*w+i-w=w+i by lia,Nat.add_mod_left]
theorem yH{w:Nat}(w0:0<w):∀l:List Nat,(∀a∈l,a<=w)->∀e1 e2,Ev w (K7 w l) e1->Ev w (K7 w l/2^w) e2->Dg (2*w) (e1+e2) (fsum l)/\e1+e2<=K7 w l
 | [],_,e1,e2,h1,h2=>by
  have z:∀e,Ev w 0 e->e=0:=fun e he=>vi fun i=>by rw[he i,jf5];rfl
  have h2:Ev w (0/2^w) e2:=h2;rw[Nat.zero_div] at h2;rw[z e1 h1,z e2 h2];exact⟨.nil,qo _⟩
 | [a],ha,e1,e2,h1,h2=>by
  have ha:=ha a qf;have h1:Ev w (a+2^w*0) e1:=h1;have h2:Ev w ((a+2^w*0)/2^w) e2:=h2;show Dg (2*w) (e1+e2) (a+0)/\e1+e2<=a+2^w*0;have al:a<2^w:=uj ha jq4;have z:∀e,Ev w 0 e->e=0:=fun e he=>vi fun i=>by rw[he i,jf5];rfl
  obtain⟨p1,p2⟩:=h1.peel w0 al;rw[Nat.zero_div] at p2;have p3:=z _ p2;rw[js4,Nat.add_zero,jp2 al] at h2;have p4:=z _ h2;rw[p3,js4,Nat.add_zero] at p1;rw[p1,p4,js4];refine⟨?_,⋯⟩;have:=Dg.cons (w:=2*w) (a:=a) ⋯ (.nil)
  rwa [js4] at this
 | a::b::l,hl,e1,e2,h1,h2=>by
  have ha:=hl a qf;have hb:=hl b (qk _ qf);have hg:∀x∈l,x<=w:=fun x hx=>hl x (qk _ (qk _ hx));have h1:Ev w (a+2^w*(b+2^w*K7 w l)) e1:=h1;have h2:Ev w ((a+2^w*(b+2^w*K7 w l))/2^w) e2:=h2;have ih:=yH w0 l hg;show Dg (2*w) (e1+e2) (a+(b+fsum l))/\e1+e2<=a+2^w*(b+2^w*K7 w l);generalize K7 w l=g at*
  generalize fsum l=s at*
  have al:a<2^w:=uj ha jq4;have bl:b<2^w:=uj hb jq4;have p:=kz w;have d1:(a+2^w*(b+2^w*g))/2^w=b+2^w*g:=by rw[Nat.add_mul_div_left _ _ p,jp2 al,jo7]
  have d2:(b+2^w*g)/2^w=g:=by rw[Nat.add_mul_div_left _ _ p,jp2 bl,jo7]
  rw[d1] at h2;obtain⟨p1,p2⟩:=h1.peel w0 al;obtain⟨p3,p4⟩:=h2.peel w0 bl;rw[d2] at p2;obtain⟨i1,i2⟩:=ih _ _ p2 p4;have:=Dg.cons (w:=2*w) (a:=a+b) ⋯ i1;refine⟨?_,?_⟩
  ·rw[p1,p3];rw[Nat.mul_add] at this;have e:a+2^(2*w)*(e1/2^(2*w))+(b+2^(2*w)*(e2/2^(2*w)))=a+b+(2^(2*w)*(e1/2^(2*w))+2^(2*w)*(e2/2^(2*w))):=⋯
   rw[e,<-ju0 a b s];exact this
  ·have m:=ji5 (2^(2*w)) i2;rw[Nat.mul_add] at m;have q1:b<=2^w*b:=Nat.le_mul_of_pos_left b p;have q2:2^w*(2^w*g)=2^(2*w)*g:=by rw[<-ju1,<-jq6,Nat.two_mul]
   rw[Nat.mul_add,q2];lia
theorem Dg.pair{w f s:Nat}(w0:0<w)(h:Dg w f s){e1 e2:Nat}(h1:Ev w f e1)(h2:Ev w (f/2^w) e2):Dg (2*w) (e1+e2) s/\e1+e2<=f:=by
 obtain⟨l,hl,rfl,rfl⟩:=h;exact yH w0 l hl e1 e2 h1 h2
theorem Dg.start:∀(n b:Nat),b<2^n->Dg 1 b (cnt b n)
 | 0,b,h=>by
  have:b=0:=by simp at h;exact h
  subst this;exact .nil
 | n+1,b,h=>by
  have:=Dg.cons (w:=1) (a:=b%2) ⋯ (Dg.start n (b/2) (by rw[Nat.pow_succ] at h;lia));rw[Zz]
  rwa [Nat.pow_one,jq5] at this
theorem Z0:∀{k:Nat},(∀i,i<k->b.testBit i=c.testBit i)->cnt b k=cnt c k
 | 0,_=>rfl
 | k+1,h=>by
  rw[cnt,cnt,Z0 (fun i hi=>h i ⋯),h k ⋯]
theorem qj(b:Nat):∀k,cnt b k<=k
 | 0=>qo _
 | k+1=>by
  have:=qj b k;rw[cnt];split<;>lia
noncomputable def pc(b j:Nat):Nat:=b/2^(256*j)%2^256
theorem Sh(b j i:Nat):(pc b j).testBit i=(decide (i<256)&&b.testBit (256*j+i)):=by
 unfold pc;rw[jc3,<-ub,ja3]
theorem ACq(b j:Nat):pc b j<2^256:=jl3 _ (kz _)
theorem pC(b p:Nat):pc (b ||| 2^p) (p/256)=pc b (p/256) ||| 2^(p%256):=by
 refine vi fun i=>?_;rw[Sh,jd4,jd4,Sh,jk9,jk9];by_cases c:i<256
 ·have:(p=256*(p/256)+i)=(p%256=i):=propext ⟨fun h=>⋯,fun h=>⋯⟩;simp[c,this]
 ·have:¬p%256=i:=⋯
  simp[c,this]
theorem pA{p j:Nat}(h:j≠p/256):pc (b ||| 2^p) j=pc b j:=by
 refine vi fun i=>?_;rw[Sh,jd4,Sh,jk9];by_cases c:i<256
 ·have:¬p=256*j+i:=⋯
  simp[c,this]
 ·simp[c]
theorem uv(b m:Nat):b%2^(256*m) ||| (pc b m <<< (256*m))=b%2^(256*(m+1)):=by
 refine vi fun i=>?_;rw[jd4,jo6,jc3,jc3,Sh];by_cases c:i<256*m
 ·simp[c,show ¬256*m<=i by lia,show i<256*(m+1) by lia]
 ·by_cases c2:i<256*(m+1)
  ·simp[c,c2,show 256*m<=i by lia,show i-256*m<256 by lia,show 256*m+(i-256*m)=i by lia]
  ·simp[c,c2,show ¬i-256*m<256 by lia]
structure Rw(on:Int->Bool)(rw:List Int):Prop where
 srt:rw.Pairwise (· < ·)
 all:∀r∈rw,on r=true
 cov:∀r,on r=true->(∃x∈rw,x<=r)->(∃y∈rw,r<=y)->r∈rw
theorem R8{l:List Int}(h:l.Pairwise (· < ·)){i j:Nat}{x y:Int}(hij:i<j)(hx:l[i]?=some x)(hy:l[j]?=some y):x<y:=by
 obtain⟨hi,rfl⟩:=zk.mp hx;obtain⟨hj,rfl⟩:=zk.mp hy;exact List.pairwise_iff_getElem.mp h i j hi hj hij
theorem Rw.gap{on:Int->Bool}{rw:List Int}(h:Rw on rw){p:Nat}{x y r:Int}(hx:rw[p]?=some x)(hy:rw[p+1]?=some y)(h1:x<r)(h2:r<y):on r=false:=by
 cases e:on r with
 | false=>rfl
 | true=>
  have m:=h.cov r e ⟨x,qv hx,⋯⟩ ⟨y,qv hy,⋯⟩;obtain⟨j,hj⟩:=Qb.mp m;rcases jt5 j p with z | z | z
  ·have:=R8 h.srt z hj hx;lia
  ·subst z;rw[hj] at hx;injection hx with hx;lia
  ·rcases jt5 j (p+1) with w | w | w
   ·lia
   ·subst w;rw[hj] at hy;injection hy with hy;lia
   ·have:=R8 h.srt w hy hj;lia
theorem Uj{n m:Int}(hd:n∣m)(d k:Int):On n b (d+m*k)=On n b d:=by
 unfold On;obtain⟨c,rfl⟩:=hd;rw[jd2,jc6]
theorem Rw.mk'{on:Int->Bool}{z:Int}{ds:List Int}(z0:0<z)(per:∀d k,on (d+z*k)=on d)(srt:ds.Pairwise (· < ·))(mem:∀d,d∈ds<->0<=d/\d<z/\on d=true){f g:Int}
 (hf:ds[0]?=some f)(hg:ds[ds.length-1]?=some g):Rw on ([g-z]++ds++[f+z])/\g-z<0/\z<=f+z:=by
 have fm:=(mem f).mp (qv hf);have gm:=(mem g).mp (qv hg);have lo:∀d∈ds,f<=d:=fun d hd=>by
  obtain⟨j,hj⟩:=Qb.mp hd;rcases jd6 j with e | e
  ·subst e;rw[hj] at hf;injection hf with hf;lia
  ·have:=R8 srt e hf hj;lia
 have hi:∀d∈ds,d<=g:=fun d hd=>by
  obtain⟨j,hj⟩:=Qb.mp hd;have jl:j<ds.length:=(zk.mp hj).1;rcases Nat.lt_or_eq_of_le (Nat.le_sub_one_of_lt jl) with e | e
  ·have:=R8 srt e hj hg;lia
  ·subst e;rw[hj] at hg;injection hg with hg;lia
 have p1:on (g-z)=true:=by
  have:=per (g-z) 1;rw[show g-z+z*1=g by lia] at this;rw[<-this];exact gm.2.2
 have p2:on (f+z)=true:=by
  have:=per f 1;rw[jb6] at this;rw[this];exact fm.2.2
 refine⟨⟨?_,?_,?_⟩,⋯,⋯⟩
 ·rw[List.pairwise_append,List.pairwise_append];refine⟨⟨List.pairwise_singleton _ _,srt,fun a ha b hb=>?_⟩,List.pairwise_singleton _ _,fun a ha b hb=>?_⟩
  ·cases xb.mp ha;have:=((mem b).mp hb).1;lia
  ·cases xb.mp hb;rcases yb.mp ha with h | h
   ·cases xb.mp h;lia
   ·have:=((mem a).mp h).2.1;lia
 ·intro r hr;rcases yb.mp hr with h | h
  ·rcases yb.mp h with h | h
   ·cases xb.mp h;exact p1
   ·exact((mem r).mp h).2.2
  ·cases xb.mp h;exact p2
 ·rintro r hr ⟨x,hx,xr⟩ ⟨y,hy,ry⟩;have x0:g-z<=x:=by
   rcases yb.mp hx with h | h
   ·rcases yb.mp h with h | h
    ·cases xb.mp h;lia
    ·have:=((mem x).mp h).1;lia
   ·cases xb.mp h;lia
  have y0:y<=f+z:=by
   rcases yb.mp hy with h | h
   ·rcases yb.mp h with h | h
    ·cases xb.mp h;lia
    ·have:=((mem y).mp h).2.1;lia
   ·cases xb.mp h;lia
  rcases jh7 r 0 with c | c
  ·have e:=per r 1;rw[jb6,hr] at e;have m:=(mem (r+z)).mpr ⟨⋯,⋯,e⟩;have:=hi _ m;exact ja1 _ (ja1 _ (xb.mpr ⋯))
  ·rcases jh7 r z with c2 | c2
   ·exact ja1 _ (yi _ ((mem r).mpr ⟨c,c2,hr⟩))
   ·have e:=per (r-z) 1;rw[show r-z+z*1=r by lia,hr] at e;have m:=(mem (r-z)).mpr ⟨⋯,⋯,e.symm⟩;have:=lo _ m;exact yi _ (xb.mpr ⋯)
theorem gQ{z:Int}{xs:List Int}:hit z xs d=true<->∃x∈xs,∃k,d=x+z*k:=by
 unfold hit;rw[List.any_eq_true];constructor
 ·rintro⟨x,hx,h⟩;obtain⟨k,hk⟩:=ji0 (jn6 h);exact⟨x,hx,k,⋯⟩
 ·rintro⟨x,hx,k,hk⟩;refine⟨x,hx,decide_eq_true ?_⟩;rw[show d-x=z*k by lia];exact jr7 z k
variable{e:Int}
theorem Vs{on:Int->Bool}{s:Int}(hs:on s=true):∀(n:Nat) (d:Int),d-s=(n:Int)->∃x,x<=d/\on x=true/\∀r,x<r->r<=d->on r=false
 | 0,d,h=>⟨s,⋯,hs,fun r h1 h2=>⋯⟩
 | n+1,d,h=>by
  cases e:on d with
  | true=>exact⟨d,kx _,e,fun r h1 h2=>⋯⟩
  | false=>
   obtain⟨x,h1,h2,h3⟩:=Vs hs n (d-1) ⋯;refine⟨x,⋯,h2,fun r a b=>?_⟩;rcases jh7 r d with c | c
   ·exact h3 r a ⋯
   ·rw[show r=d by lia];exact e
theorem gK{on:Int->Bool}{z s:Int}(z0:0<z)(per:∀d k,on (d+z*k)=on d)(hs:on s=true)(d:Int):∃x,x<=d/\on x=true/\∀r,x<r->r<=d->on r=false:=by
 have e:=ja4 (d-s) z;have m0:=qh (d-s) (show z≠0 by lia);have h:on (s+z*((d-s)/z))=true:=by rw[per];exact hs
 exact Vs h ((d-s)%z).toNat d ⋯
theorem YT{n:Int}(hn:0<n):∀(k:Nat) (f:Int),(∀r,f<=r->r<f+(k:Int)->On n b r=false)->CC n b (f+(k:Int))=CC n b f
 | 0,f,_=>by simp
 | k+1,f,h=>by
  have ih:=YT hn k f fun r h1 h2=>h r h1 ⋯;have e:=Gd (b:=b) hn (f+(k:Int));rw[h (f+(k:Int)) ⋯ ⋯,xy zi,ih] at e;rw[show f+((k+1:Nat):Int)=f+(k:Int)+1 by lia,e];lia
theorem yR{n:Int}(hn:0<n){e:Int}:∀(rs:List Int) (f:Int),f<=e->rs.Pairwise (· < ·)->(∀r,r∈rs<->f<=r/\r<e/\On n b r=true)->
 (∀(i:Nat) (x:Int),rs[i]?=some x->CC n b x=CC n b f+(i:Int))/\CC n b e=CC n b f+(rs.length:Int)
 | [],f,fe,_,hm=>by
  refine⟨fun i x h=>by simp at h,?_⟩;have:=YT (b:=b) hn (e-f).toNat f fun r h1 h2=>by
   cases c:On n b r with
   | false=>rfl
   | true=>exact absurd ((hm r).mpr ⟨h1,⋯,c⟩) (by simp)
  rw[show f+((e-f).toNat:Int)=e by lia] at this;simpa using this
 | r::tl,f,fe,hs,hm=>by
  obtain⟨h1,h2,h3⟩:=(hm r).mp qf;obtain⟨s1,s2⟩:=List.pairwise_cons.mp hs;have c1:CC n b r=CC n b f:=by
   have:=YT (b:=b) hn (r-f).toNat f fun x x1 x2=>by
    cases c:On n b x with
    | false=>rfl
    | true=>
     rcases zh.mp ((hm x).mpr ⟨x1,⋯,c⟩) with z | z
     ·lia
     ·have:=s1 x z;lia
   rwa [show f+((r-f).toNat:Int)=r by lia] at this
  have c2:=Gd (b:=b) hn r;rw[h3,xp rfl] at c2;obtain⟨i1,i2⟩:=yR hn (e:=e) tl (r+1) ⋯ s2 fun x=>by
   constructor
   ·intro hx;have a:=(hm x).mp (qk _ hx);have:=s1 x hx;exact⟨⋯,a.2.1,a.2.2⟩
   ·rintro⟨x1,x2,x3⟩;rcases zh.mp ((hm x).mpr ⟨⋯,x2,x3⟩) with z | z
    ·lia
    ·exact z
  refine⟨fun i x hx=>?_,?_⟩
  ·cases i with
   | zero=>
    injection hx with hx;subst hx;rw[c1];simp
   | succ i=>
    have:=i1 i x hx;rw[this,c2,c1];lia
  ·rw[i2,c2,c1,qr];lia
def Kth(n1:Int)(b1:Nat)(n2:Int)(b2:Nat)(k d:Int):Prop:=On n1 b1 d=true/\∃b e,On n2 b2 b=true/\On n2 b2 e=true/\b<=d/\d<e/\(∀r,b<r->r<e->On n2 b2 r=false)/\(0<k->CC n1 b1 (d+1)-CC n1 b1 b=k)/\(k<0->CC n1 b1 e-CC n1 b1 d= -k)
theorem Vp{on:Int->Bool}{s:Int}(hs:on s=true):∀(n:Nat) (d:Int),s-d=(n:Int)->∃x,d<=x/\on x=true/\∀r,d<=r->r<x->on r=false
 | 0,d,h=>⟨s,⋯,hs,fun r h1 h2=>⋯⟩
 | n+1,d,h=>by
  cases e:on d with
  | true=>exact⟨d,kx _,e,fun r h1 h2=>⋯⟩
  | false=>
   obtain⟨x,h1,h2,h3⟩:=Vp hs n (d+1) ⋯;refine⟨x,⋯,h2,fun r a b=>?_⟩;rcases jh7 d r with c | c
   ·exact h3 r ⋯ b
   ·rw[show r=d by lia];exact e
theorem f9{on:Int->Bool}{z s:Int}(z0:0<z)(per:∀d k,on (d+z*k)=on d)(hs:on s=true)(d:Int):∃x,d<=x/\on x=true/\∀r,d<=r->r<x->on r=false:=by
 have e:=ja4 (s-d) z;have m0:=qh (s-d) (show z≠0 by omega);have h:on (s+z* -((s-d)/z))=true:=by rw[per];exact hs
 exact Vp h ((s-d)%z).toNat d (by rw[ji1];omega)
theorem sE{n:Int}(hn:0<n)(d j:Int):CC n b (d+n*j)=CC n b d+j*(cnt b n.toNat:Int):=by
 unfold CC;rw[jn9 _ _ ⋯,jc6,jj6];lia
theorem Nq{n:Int}:CC n b 0=0:=by
 unfold CC;rw[Int.zero_ediv,Int.zero_emod];show 0*_+((cnt b 0:Nat):Int)=0;rw[Int.zero_mul];rfl
theorem wz{n:Int}(hn:0<n){d e:Int}(h1:On n b d=true)(h2:On n b e=true)(h:CC n b d=CC n b e):d=e:=by
 have c1:=Gd (b:=b) hn d;have c2:=Gd (b:=b) hn e;rw[h1,xp rfl] at c1;rw[h2,xp rfl] at c2;rcases jn3 d e with c | c | c
 ·have:=Nt (b:=b) hn (show d+1<=e by lia);lia
 ·exact c
 ·have:=Nt (b:=b) hn (show e+1<=d by lia);lia
def Evr(n:Int)(b:Nat)(k day d:Int):Prop:=On n b d=true/\(CC n b d-CC n b day)%k=0
structure Dn(n:Int)(b:Nat)(ds:List Int):Prop where
 len:(ds.length:Int)=(cnt b n.toNat:Int)
 at':∀(j:Nat) (x:Int),ds[j]?=some x->On n b x=true/\CC n b x=(j:Int)/\0<=x/\x<n
theorem Dn.mk'{n:Int}{ds:List Int}(hn:0<n)(srt:ds.Pairwise (· < ·))(mem:∀d,d∈ds<->0<=d/\d<n/\On n b d=true):Dn n b ds:=by
 obtain⟨h1,h2⟩:=yR (b:=b) hn ds 0 (ja0 hn) srt mem;rw[Nq] at h1 h2;have t:=w5 (b:=b) hn 0;rw[Nq,jh9,jh9,h2,jh9] at t;refine⟨t,fun j x hx=>?_⟩;have m:=(mem x).mp (qv hx);have:=h1 j x hx;exact⟨m.2.2,⋯,m.1,m.2.1⟩
noncomputable def Ju(n:Int)(ds:List Int)(P:Int):Int:=P/(ds.length:Int)*n+(ds[(P%(ds.length:Int)).toNat]?).getD 0
theorem Dn.day{n:Int}{ds:List Int}(hn:0<n)(D:Dn n b ds)(h:0<ds.length)(P:Int):On n b (Ju n ds P)=true/\CC n b (Ju n ds P)=P:=by
 have m0:=qh P (show (ds.length:Int)≠0 by lia);have m1:=qg P (show (0:Int)<(ds.length:Int) by lia);have hl:(P%(ds.length:Int)).toNat<ds.length:=⋯;obtain⟨x,hx⟩:∃x,ds[(P%(ds.length:Int)).toNat]?=some x:=⟨_,qm hl⟩;obtain⟨a1,a2,a3,a4⟩:=D.at' _ _ hx;have e:Ju n ds P=x+n*(P/(ds.length:Int)):=by
  unfold Ju;rw[hx,Jn];show _+x=_;lia
 have p:=ja4 P (ds.length:Int);rw[e];constructor
 ·unfold On at a1 ⊢
  rwa [jc6]
 ·rw[sE hn,a2,<-D.len,Jn];lia
theorem vz{n:Int}{ds:List Int}{k day:Int}(hn:0<n)(k0:0<k)(D:Dn n b ds)(d:Int):
 hit (n*k) ((List.range ds.length).map fun(i:Nat)=>Ju n ds (CC n b day%k+(i:Int)*k)) d=true<->Evr n b k day d:=by
 have f0:=qh (CC n b day) (show k≠0 by lia);have f1:=qg (CC n b day) k0;have fe:=ja4 (CC n b day) k;have nk:0<n*k:=jv9 hn k0;have per:∀d q,On n b (d+n*k*q)=On n b d:=fun d q=>Uj ⟨k,rfl⟩ d q;have cmul:∀d q,CC n b (d+n*k*q)=CC n b d+k*(q*(ds.length:Int)):=fun d q=>by
  rw[jd2,sE hn,<-D.len,jd2]
 rw[gQ];constructor
 ·rintro⟨x,hx,q,rfl⟩;obtain⟨i,hi,rfl⟩:=yv.mp hx;have hi':=jd3.mp hi;obtain⟨a1,a2⟩:=D.day hn ⋯ (CC n b day%k+(i:Int)*k);refine⟨by rw[per];exact a1,?_⟩;rw[cmul,a2];have:CC n b day%k+(i:Int)*k+k*(q*(ds.length:Int))-CC n b day=k*((i:Int)+q*(ds.length:Int)-CC n b day/k):=by
   rw[Int.mul_sub,ja2,Jn k (i:Int)];lia
  rw[this];exact jr7 _ _
 ·rintro⟨o,hd⟩;have e:=ja4 d (n*k);have m0:=qh d (show n*k≠0 by lia);have m1:=qg d nk;have o':=per (d%(n*k)) (d/(n*k));have c':=cmul (d%(n*k)) (d/(n*k));rw[show d%(n*k)+n*k*(d/(n*k))=d by lia] at o' c';rw[o] at o';generalize d%(n*k)=d' at*
  generalize hq:d/(n*k)=q at*
  have g0:=Nt (b:=b) hn m0;rw[Nq] at g0;have g1:=Gd (b:=b) hn d';rw[<-o',xp rfl] at g1;have g2:=Nt (b:=b) hn (show d'+1<=n*k by lia);have g3:=cmul 0 1;rw[jh9,jb6,Nq,jg6,jh9] at g3;have hm:0<ds.length:=by
   rcases jd6 ds.length with z | z
   ·rw[z] at g3;simp at g3;lia
   ·exact z
  obtain⟨t,ht⟩:=ji0 hd;have hc:CC n b d'-CC n b day%k=k*(t+CC n b day/k-q*(ds.length:Int)):=by
   rw[Int.mul_sub,ja2];lia
  generalize t+CC n b day/k-q*(ds.length:Int)=i at hc;have i0:0<=i:=by
   refine Int.not_lt.mp fun z=>?_;have:=Zl (show i<= -1 by lia) (ja0 k0);lia
  have i1:i<(ds.length:Int):=by
   refine Int.not_le.mp fun z=>?_;have:=Zl z (ja0 k0);lia
  obtain⟨a1,a2⟩:=D.day hn hm (CC n b day%k+i*k);have ed:Ju n ds (CC n b day%k+i*k)=d':=wz hn a1 o'.symm (by rw[a2,Jn];lia);refine⟨d',yv.mpr ⟨i.toNat,jd3.mpr ⋯,?_⟩,q,⋯⟩;rw[show (i.toNat:Int)=i by lia];exact ed
def GUp(o1 o2:Int->Bool)(d:Int):Prop:=o1 d=true/\∃s,o2 s=true/\s<=d/\∀r,s<=r->r<d->o1 r=false
def GUn(o1 o2:Int->Bool)(d:Int):Prop:=o1 d=true/\∃s,o2 s=true/\d<=s/\∀r,d<r->r<=s->o1 r=false
def GNr(o1 o2:Int->Bool)(d:Int):Prop:=o1 d=true/\∃s,o2 s=true/\∀r,o1 r=true->(d<r->(d-s).natAbs<=(r-s).natAbs)/\(r<d->(d-s).natAbs<(r-s).natAbs)
def GTi(o1 o2:Int->Bool)(d:Int):Prop:=∃r,o1 r=true/\r<=d/\∀s,o2 s=true->r<s->d<s
section
variable{o1 o2 p1 p2:Int->Bool}{t:Int}
theorem back(h:∀d,p1 d=o1 (d-t))(d:Int):o1 d=p1 (d+t):=by rw[h,show d+t-t=d by lia]
theorem ABl(h1:∀d,p1 d=o1 (d-t))(h2:∀d,p2 d=o2 (d-t))(d:Int):GUp p1 p2 d<->GUp o1 o2 (d-t):=by
 have b1:=back h1;have b2:=back h2;constructor
 ·rintro⟨a,s,b,c,e⟩;refine⟨by rw[<-h1];exact a,s-t,by rw[<-h2];exact b,⋯,fun r r1 r2=>?_⟩;rw[b1];exact e _ ⋯ ⋯
 ·rintro⟨a,s,b,c,e⟩;refine⟨by rw[h1];exact a,s+t,by rw[<-b2];exact b,⋯,fun r r1 r2=>?_⟩;rw[h1];exact e _ ⋯ ⋯
theorem ACt(h1:∀d,p1 d=o1 (d-t))(h2:∀d,p2 d=o2 (d-t))(d:Int):GNr p1 p2 d<->GNr o1 o2 (d-t):=by
 have b1:=back h1;have b2:=back h2;constructor
 ·rintro⟨a,s,b,e⟩;refine⟨by rw[<-h1];exact a,s-t,by rw[<-h2];exact b,fun r hr=>?_⟩;rw[b1] at hr;obtain⟨e1,e2⟩:=e _ hr;exact⟨fun z=>by have:=e1 ⋯;lia,fun z=>by have:=e2 ⋯;lia⟩
 ·rintro⟨a,s,b,e⟩;refine⟨by rw[h1];exact a,s+t,by rw[<-b2];exact b,fun r hr=>?_⟩;rw[h1] at hr;obtain⟨e1,e2⟩:=e _ hr;exact⟨fun z=>by have:=e1 ⋯;lia,fun z=>by have:=e2 ⋯;lia⟩
end
section
variable{o1 o2:Int->Bool}{d r1 r2 p q:Int}
end
noncomputable abbrev Tm:=Int×Int×Int×Int
structure OkT(t:Tm):Prop where
 sg:t.1=1\/t.1= -1
 n0:1<=t.2.2.2
 n1:t.2.2.2<=1000
 a0:0<=t.2.1
 a1:t.2.1<=t.2.2.2
 b0:0<=t.2.2.1
 b1:t.2.2.1<t.2.2.2
noncomputable def onT(t:Tm)(k:Int):Bool:=decide (t.2.2.2<=(t.2.1*k+t.2.2.1)%t.2.2.2+t.2.1)
noncomputable def ctT(t:Tm)(k:Int):Int:=(t.2.1*k+t.2.2.1)/t.2.2.2
noncomputable def SU(ts:List Tm)(k:Int):Int:=(ts.map fun t=>t.1*ctT t k).sum
noncomputable def UP(base:Int)(ts:List Tm)(k:Int):Int:=base*k+SU ts k
noncomputable def ONS(ts:List Tm)(k:Int):Int:=((ts.filter fun t=>onT t k).map fun t=>t.1).sum
noncomputable def AT(base:Int)(ts:List Tm)(k:Int):Int:=base+ONS ts k
noncomputable def falls(ts:List Tm):Int:=((ts.filter fun t=>decide (t.1= -1)).length:Int)
theorem wJ{t:Tm}(h:OkT t)(k:Int):ctT t (k+1)=ctT t k+(if onT t k=true then 1 else 0):=by
 unfold ctT onT;obtain⟨s,a,b,n⟩:=t;have n0:=h.n0;have a0:=h.a0;have a1:=h.a1;dsimp only at n0 a0 a1 ⊢;have e:a*(k+1)+b=a*k+b+a:=by rw[ja2,jb6];lia
 rw[e];generalize a*k+b=y;have q:=ja4 y n;have r0:=qh y (show n≠0 by lia);have r1:=qg y (show 0<n by lia);by_cases c:n<=y%n+a
 ·rw[decide_eq_true c,xp rfl];have h:y+a=n*(y/n+1)+(y%n+a-n):=by rw[ja2,jb6];lia
  conv=>lhs;rw[h]
  rw[jo3 _ _ ⋯,jc7 (a:=y%n+a-n) (b:=n) ⋯ ⋯];lia
 ·rw[decide_eq_false c,xy zi];have h:y+a=n*(y/n)+(y%n+a):=⋯
  conv=>lhs;rw[h]
  rw[jo3 _ _ ⋯,jc7 (a:=y%n+a) (b:=n) ⋯ ⋯]
theorem wI{t:Tm}(h:OkT t):ctT t 0=0:=by
 unfold ctT;rw[Int.mul_zero,jh9];exact jc7 h.b0 h.b1
theorem iK:∀{ts:List Tm} (_:∀t∈ts,OkT t) (k:Int),SU ts (k+1)=SU ts k+ONS ts k
 | [],_,k=>rfl
 | t::ts,h,k=>by
  have ih:=iK (ts:=ts) (fun x hx=>h x (qk _ hx)) k;have s:=wJ (h t qf) k;unfold SU ONS at*
  rw[zv,zv,kq,kq,ih,s,jj1];by_cases c:onT t k=true
  ·rw[xp c,xp c,zv,kq,ja2,jb6];lia
  ·rw[xy c,xy c,jd5];lia
theorem iJ:∀{ts:List Tm} (_:∀t∈ts,OkT t),SU ts 0=0
 | [],_=>rfl
 | t::ts,h=>by
  have ih:=iJ (ts:=ts) (fun x hx=>h x (qk _ hx));unfold SU at*
  rw[zv,kq,ih,wI (h t qf)];simp
theorem RK:∀{ts:List Tm} (_:∀t∈ts,OkT t) (k:Int),-falls ts<=ONS ts k
 | [],_,k=>by show(-((0:Nat):Int))<=0;lia
 | t::ts,h,k=>by
  have ih:=RK (ts:=ts) (fun x hx=>h x (qk _ hx)) k;have sg:=(h t qf).sg;unfold falls ONS at*
  rw[jj1,jj1];by_cases c:onT t k=true
  ·rw[xp c,zv,kq];rcases sg with z | z
   ·rw[xy (by rw[decide_eq_true_eq];lia)];lia
   ·rw[xp (decide_eq_true z),qr];lia
  ·rw[xy c];split
   ·rw[qr];lia
   ·lia
variable{base:Int}{ts:List Tm}
theorem wk(h:∀t∈ts,OkT t)(k:Int):UP base ts (k+1)=UP base ts k+AT base ts k:=by
 unfold UP AT;rw[iK h,ja2,jb6];lia
theorem wj(h:∀t∈ts,OkT t):UP base ts 0=0:=by
 unfold UP;rw[iJ h,Int.mul_zero];rfl
theorem iH(h:∀t∈ts,OkT t)(hf:falls ts<=base){j k:Int}(jk:j<=k):UP base ts j<=UP base ts k:=by
 have:∀m:Nat,UP base ts j<=UP base ts (j+(m:Int)):=by
  intro m
  induction m with
  | zero=>simp
  | succ m ih=>
   have e:=wk (base:=base) h (j+(m:Int));have l:=RK h (j+(m:Int));unfold AT at e;rw[show j+((m+1:Nat):Int)=j+(m:Int)+1 by lia,e];lia
 have:=this (k-j).toNat
 rwa [show j+((k-j).toNat:Int)=k by lia] at this
theorem ADQ{t:Tm}(h:OkT t){k:Int}(k0:0<=k):0<=ctT t k/\ctT t k<=k:=by
 have n0:=h.n0;have a0:=h.a0;have b0:=h.b0;have b1:=h.b1;have p0:0<=t.2.1*k:=jg5 a0 k0;have p1:t.2.1*k<=t.2.2.2*k:=ke h.a1 k0;unfold ctT;refine⟨jh1 ⋯ ⋯,?_⟩;have:(t.2.1*k+t.2.2.1)/t.2.2.2<k+1:=by
  rw[Int.ediv_lt_iff_lt_mul ⋯,jj6,jg6,Jn k];lia
 lia
theorem yP:∀{ts:List Tm} (_:∀t∈ts,OkT t) {k:Int} (_:0<=k),-((ts.length:Int)*k)<=SU ts k/\SU ts k<=(ts.length:Int)*k
 | [],_,k,_=>by unfold SU;simp
 | t::ts,h,k,k0=>by
  have ih:=yP (ts:=ts) (fun x hx=>h x (qk _ hx)) k0;have c:=ADQ (h t qf) k0;have sg:=(h t qf).sg;unfold SU at*
  rw[zv,kq,qr,ui,jj6];have e1:((1:Nat):Int)*k=k:=by simp
  rcases sg with z | z
  ·rw[z,jg6];lia
  ·rw[z,show(-1:Int)*ctT t k= -ctT t k by lia];lia
noncomputable def PER(ts:List Tm):Int:=ts.foldl (fun p t=>CQ p t.2.2.2) 1
theorem YS(h:∀t∈ts,OkT t)(hf:falls ts<base){P:Int}(P0:0<P):0<UP base ts P:=by
 have m:=iH h (kx (falls ts)) (show (0:Int)<=P by lia);rw[wj h] at m;unfold UP at*
 have:(falls ts+1)*P<=base*P:=ke ⋯ ⋯;rw[jj6,jg6] at this;lia
theorem ABJ{t:Tm}(h:OkT t){k:Int}(k0:k<=0):k<=ctT t k/\ctT t k<=0:=by
 have n0:=h.n0;have a0:=h.a0;have b0:=h.b0;have b1:=h.b1;have p0:t.2.1*k<=0:=jl7 a0 k0;have p1:t.2.2.2*k<=t.2.1*k:=jh8 h.a1 k0;unfold ctT;constructor
 ·rw[Int.le_ediv_iff_mul_le ⋯,Jn];lia
 ·have:(t.2.1*k+t.2.2.1)/t.2.2.2<1:=by
   rw[Int.ediv_lt_iff_lt_mul ⋯,jg6];lia
  lia
theorem rM:∀{ts:List Tm} (_:∀t∈ts,OkT t) {k:Int} (_:k<=0),(ts.length:Int)*k<=SU ts k/\SU ts k<= -((ts.length:Int)*k)
 | [],_,k,_=>by unfold SU;simp
 | t::ts,h,k,k0=>by
  have ih:=rM (ts:=ts) (fun x hx=>h x (qk _ hx)) k0;have c:=ABJ (h t qf) k0;have sg:=(h t qf).sg;unfold SU at*
  rw[zv,kq,qr,ui,jj6];have e1:((1:Nat):Int)*k=k:=by simp
  rcases sg with z | z
  ·rw[z,jg6];omega
  ·rw[z,show(-1:Int)*ctT t k= -ctT t k by omega];omega
theorem rK{b:Int}(h:∀t∈ts,OkT t)(b0:0<=b)(b1:b<=20000)(few:ts.length<=6){k K:Int}(h0: -K<=k)(h1:k<=K): -(20006*K)<=UP b ts k/\UP b ts k<=20006*K:=by
 unfold UP;rcases jh7 k 0 with c | c
 ·obtain⟨s1,s2⟩:=rM h (show k<=0 by lia);have m1:20000*k<=b*k:=jh8 b1 ⋯;have m2:b*k<=0:=jl7 b0 ⋯;have m3:6*k<=(ts.length:Int)*k:=jh8 ⋯ ⋯;lia
 ·obtain⟨s1,s2⟩:=yP h c;have m1:b*k<=20000*k:=ke b1 c;have m2:0<=b*k:=jg5 b0 c;have m3:(ts.length:Int)*k<=6*k:=ke ⋯ c;lia
theorem iU(h:∀t∈ts,OkT t)(k:Int):ONS ts k<=(ts.length:Int):=by
 unfold ONS
 induction ts with
 | nil=>exact kx 0
 | cons t ts ih=>
  have i:=ih fun x hx=>h x (qk _ hx);have sg:=(h t qf).sg;rw[jj1,qr];split
  ·rw[zv,kq];lia
  ·lia
theorem mY:∀{ls:List Int},(∀n∈ls,0<=n/\n<=1000)->0<=ls.sum/\ls.sum<=1000*(ls.length:Int)
 | [],_=>by simp
 | a::ls,h=>by
  have i:=mY (ls:=ls) fun n hn=>h n (qk _ hn);have:=h a qf;rw[kq,qr];lia
noncomputable def VR(ls:List Int)(lp:Int)(ts:List Tm)(y:Int):List Int:=ls.set (lp-1).toNat (ls.getD (lp-1).toNat 0+ONS ts y)
structure Hj(ls:List Int)(lp:Int)(ts:List Tm):Prop where
 l0:1<=ls.length
 l1:ls.length<=20
 m:∀n∈ls,0<=n/\n<=1000
 p0:1<=lp
 p1:lp<=(ls.length:Int)
 f0:falls ts<=ls.getD (lp-1).toNat 0
 f1:falls ts<ls.sum
 ok:∀t∈ts,OkT t
 few:ts.length<=6
theorem Hj.sum{ls:List Int}{lp:Int}(g:Hj ls lp ts):0<=ls.sum/\ls.sum<=20000:=by
 have:=mY g.m;have:=g.l1;lia
theorem getD_mem'{ls:List Int}{i:Nat}(h:i<ls.length):ls.getD i 0∈ls:=by
 rw[Qr,qm h];exact jp1 h
theorem rQ{ls:List Int}{lp:Int}(g:Hj ls lp ts)(y:Int):∀n∈VR ls lp ts y,0<=n/\n<=1006:=by
 intro n hn;have p0:=g.p0;have p1:=g.p1;unfold VR at hn;rcases List.mem_or_eq_of_mem_set hn with z | z
 ·have:=g.m n z;omega
 ·have:=g.m _ (getD_mem' (ls:=ls) (i:=(lp-1).toNat) (by omega));have l:=RK g.ok y;have u:=iU g.ok y;have:=g.few;have:=g.f0;omega
theorem rR{ls:List Int}{lp:Int}{y:Int}:(VR ls lp ts y).length=ls.length:=by
 unfold VR;rw[List.length_set]
structure Im(bd:Int)(td:List Tm)(bm:Int)(tm:List Tm):Prop where
 fd:falls td<bd
 gd:bd<=1000
 fm:falls tm<bm
 gm:bm<=20
 okd:∀t∈td,OkT t
 okm:∀t∈tm,OkT t
 fwd:td.length<=6
 fwm:tm.length<=6
noncomputable def MYS(s bd:Int)(td:List Tm)(bm:Int)(tm:List Tm)(y:Int):Int:=s+UP bd td (UP bm tm y)
noncomputable def dZ(bd:Int)(td:List Tm)(bm:Int)(tm:List Tm)(y:Int):List Int:=(List.range (AT bm tm y).toNat).map fun i:Nat=>AT bd td (UP bm tm y+(i:Int))
theorem qO:0<=falls ts:=by
 unfold falls;lia
theorem dq{b:Int}(h:∀t∈ts,OkT t)(hf:falls ts<b)(k:Int):1<=AT b ts k:=by
 have:=RK h k;unfold AT;lia
theorem sG{b:Int}(h:∀t∈ts,OkT t)(few:ts.length<=6)(k:Int):AT b ts k<=b+6:=by
 have:=iU h k;unfold AT;lia
theorem rO{bd:Int}{td:List Tm}{bm:Int}{tm:List Tm}(g:Im bd td bm tm)(y:Int):∀n∈dZ bd td bm tm y,0<=n/\n<=1006:=by
 intro n hn;unfold dZ at hn;obtain⟨i,_,rfl⟩:=yv.mp hn;have:=dq g.okd g.fd (UP bm tm y+(i:Int));have:=sG g.okd g.fwd (b:=bd) (UP bm tm y+(i:Int));have:=g.gd;lia
theorem rP{bd:Int}{td:List Tm}{bm:Int}{tm:List Tm}(g:Im bd td bm tm)(y:Int):1<=(dZ bd td bm tm y).length/\(dZ bd td bm tm y).length<=26:=by
 unfold dZ;rw[js,vt];have:=dq g.okm g.fm y;have:=sG g.okm g.fwm (b:=bm) y;have:=g.gm;lia
inductive Bs where
 | sun (s:Int) (ls:List Int) (lp:Int) (ts:List Tm)
 | moon (s bd:Int) (td:List Tm) (bm:Int) (tm:List Tm)
noncomputable def Bs.Y:Bs->Int->Int
 | .sun s ls _ ts,y=>s+UP ls.sum ts y
 | .moon s bd td bm tm,y=>MYS s bd td bm tm y
noncomputable def Bs.L:Bs->Int->List Int
 | .sun _ ls lp ts,y=>VR ls lp ts y
 | .moon _ bd td bm tm,y=>dZ bd td bm tm y
def Bs.good:Bs->Prop
 | .sun _ ls lp ts=>Hj ls lp ts
 | .moon _ bd td bm tm=>Im bd td bm tm
noncomputable def Bs.st:Bs->Int
 | .sun s _ _ _=>s
 | .moon s _ _ _ _=>s
noncomputable def PS(l:List Int)(j:Nat):Int:=(l.take j).sum
theorem ww{l:List Int}:PS l 0=0:=rfl
theorem iM{l:List Int}{j:Nat}(h:j<l.length):PS l (j+1)=PS l j+l.getD j 0:=by
 unfold PS;rw[ky,Qr,qm h,List.sum_append];simp
theorem iQ{l:List Int}(h:∀n∈l,0<=n){i:Nat}:∀{j:Nat},i<=j->j<=l.length->PS l i<=PS l j
 | 0,hij,_=>by
  have:i=0:=⋯;subst this;exact kx _
 | j+1,hij,hj=>by
  rcases Nat.lt_or_eq_of_le hij with c | c
  ·have:=iQ (i:=i) h (show i<=j by lia) ⋯;have e:=iM (l:=l) (j:=j) ⋯;have:=h _ (getD_mem' (ls:=l) (i:=j) ⋯);lia
  ·subst c;exact kx _
theorem ABc{l:List Int}:PS l l.length=l.sum:=by
 unfold PS;rw[jb4]
theorem Bs.mem{d:Bs}(g:d.good)(y:Int):∀n∈d.L y,0<=n/\n<=1006:=by
 cases d with
 | sun s ls lp ts=>exact rQ g y
 | moon s bd td bm tm=>exact rO g y
theorem Bs.len{d:Bs}(g:d.good)(y:Int):1<=(d.L y).length/\(d.L y).length<=26:=by
 cases d with
 | sun s ls lp ts=>
  show 1<=(VR ls lp ts y).length/\(VR ls lp ts y).length<=26;rw[rR];have:=Hj.l0 g;have:=Hj.l1 g;lia
 | moon s bd td bm tm=>exact rP g y
noncomputable def moT(td:List Tm)(bm:Int)(tm:List Tm):Int:=PER td/(Int.gcd (PER td) (UP bm tm (PER tm)):Int)
noncomputable def Bs.cy:Bs->Int×Int
 | .sun _ ls _ ts=>(PER ts,UP ls.sum ts (PER ts))
 | .moon _ bd td bm tm=>(PER tm*moT td bm tm,UP bd td (UP bm tm (PER tm)*moT td bm tm))
theorem fV{p L:Nat}{f:Nat->Bool}(h:∀i,i+p<L->f i=f (i+p)):∀(k j:Nat),j<=k->j<L->f j=f (j%p)
 | 0,j,hk,_=>by
  have:j=0:=⋯;subst this;rw[Nat.zero_mod]
 | k+1,j,hk,hj=>by
  by_cases c:j<p
  ·rw[je1 c]
  ·by_cases p0:p=0
   ·subst p0;rw[Nat.mod_zero]
   ·have e:=h (j-p) ⋯;rw[Nat.sub_add_cancel ⋯] at e;have e2:j%p=(j-p)%p:=Nat.mod_eq_sub_mod ⋯;rw[<-e,fV h k (j-p) ⋯ ⋯,e2]
theorem gR:∀(k p q:Nat) (f:Nat->Bool),p+q<=k->0<p->0<q->(∀i,i+p<p+q-Nat.gcd p q->f i=f (i+p))->(∀i,i+q<p+q-Nat.gcd p q->f i=f (i+q))->
 ∀j,j<p+q-Nat.gcd p q->f j=f (j%Nat.gcd p q):=by
 intro k
 induction k with
 | zero=>intro p q f hk p0 q0;lia
 | succ k ih=>
  have main:∀(p q:Nat) (f:Nat->Bool),p+q<=k+1->0<p->p<q->(∀i,i+p<p+q-Nat.gcd p q->f i=f (i+p))->(∀i,i+q<p+q-Nat.gcd p q->f i=f (i+q))->
   ∀j,j<p+q-Nat.gcd p q->f j=f (j%Nat.gcd p q):=by
   intro p q f hk p0 pq hp hq j hj;have eg:Nat.gcd p (q-p)=Nat.gcd p q:=by
    have:q=(q-p)+p:=⋯
    conv=>rhs;rw[this,Nat.gcd_add_self_right]
   have gp:Nat.gcd p q∣p:=jj2 p q;have gr:Nat.gcd p q∣q-p:=by rw[<-eg];exact je9 p (q-p)
   have gl:=kc p0 gp;have gl2:=kc (show 0<q-p by lia) gr;have e1:p+(q-p)-Nat.gcd p q=q-Nat.gcd p q:=⋯;have:=ih p (q-p) f ⋯ p0 ⋯ (fun i hi=>by
    rw[eg,e1] at hi;exact hp i ⋯) (fun i hi=>by
    rw[eg,e1] at hi;have a:=hq i ⋯;have b:=hp (i+(q-p)) ⋯;rw[a,b]
    congr 1
    lia)
   rw[eg,e1] at this;rw[fV hp j j (qo _) hj,this (j%p) (by have:=jl3 j p0;lia),Nat.mod_mod_of_dvd j gp]
  intro p q f hk p0 q0 hp hq j hj;rcases jt5 p q with c | c | c
  ·exact main p q f hk p0 c hp hq j hj
  ·subst c;rw[Nat.gcd_self] at hj ⊢;rw[je1 ⋯]
  ·rw[Nat.gcd_comm] at hp hq hj ⊢;rw[js1 p q] at hp hq hj;exact main q p f ⋯ q0 c hq hp j hj
theorem On.turn{n:Int}(b:Nat){d e:Int}(h:d%n=e%n):On n b d=On n b e:=by unfold On;rw[h]
theorem Zm{p q:Nat}(p0:0<p)(q0:0<q){b c:Nat}{d:Int}(h:∀i:Nat,i<p+q-Nat.gcd p q->On (p:Int) b (d+i)=On (q:Int) c (d+i))(e:Int):On (p:Int) b e=On (q:Int) c e:=by
 have gp:Nat.gcd p q∣p:=jj2 p q;have gq:Nat.gcd p q∣q:=je9 p q;have g0:0<Nat.gcd p q:=ji3 q p0;have gl:=kc p0 gp;have gl2:=kc q0 gq;have P:∀i:Nat,On (p:Int) b (d+(i:Nat))=On (p:Int) b (d+((i+p:Nat):Int)):=fun i=>On.turn b (by
  rw[ui,<-Int.add_assoc,jf7])
 have Q:∀i:Nat,On (q:Int) c (d+(i:Nat))=On (q:Int) c (d+((i+q:Nat):Int)):=fun i=>On.turn c (by
  rw[ui,<-Int.add_assoc,jf7])
 have key:=gR (p+q) p q (fun i=>On (p:Int) b (d+(i:Nat))) (qo _) p0 q0 (fun i _=>P i) (fun i hi=>by
  show On (p:Int) b (d+(i:Nat))=On (p:Int) b (d+((i+q:Nat):Int));rw[h i ⋯,h (i+q) hi];exact Q i)
 have k1:=qh (e-d) (show (p:Int)≠0 by lia);have k2:=qg (e-d) (show (0:Int)<(p:Int) by lia);have k3:=qh (e-d) (show (q:Int)≠0 by lia);have k4:=qg (e-d) (show (0:Int)<(q:Int) by lia);have a1:On (p:Int) b e=On (p:Int) b (d+(((e-d)%(p:Int)).toNat:Nat)):=On.turn b (by
  rw[jb7 k1,Int.add_emod_emod]
  congr 1
  lia)
 have a2:On (q:Int) c e=On (q:Int) c (d+(((e-d)%(q:Int)).toNat:Nat)):=On.turn c (by
  rw[jb7 k3,Int.add_emod_emod]
  congr 1
  lia)
 have m1:=key ((e-d)%(p:Int)).toNat ⋯;have m2:=key ((e-d)%(q:Int)).toNat ⋯;have n1:((e-d)%(p:Int)).toNat%Nat.gcd p q=((e-d)%(q:Int)).toNat%Nat.gcd p q:=by
  have x1:((((e-d)%(p:Int)).toNat%Nat.gcd p q:Nat):Int)=(e-d)%(Nat.gcd p q:Int):=by
   rw[Zp,jb7 k1,je3 _ (je4.mpr gp)]
  have x2:((((e-d)%(q:Int)).toNat%Nat.gcd p q:Nat):Int)=(e-d)%(Nat.gcd p q:Int):=by
   rw[Zp,jb7 k3,je3 _ (je4.mpr gq)]
  lia
 have m1':On (p:Int) b (d+(((e-d)%(p:Int)).toNat:Nat))=On (p:Int) b (d+((((e-d)%(p:Int)).toNat%Nat.gcd p q:Nat):Int)):=m1;have m2':On (p:Int) b (d+(((e-d)%(q:Int)).toNat:Nat))=On (p:Int) b (d+((((e-d)%(q:Int)).toNat%Nat.gcd p q:Nat):Int)):=m2;rw[a1,a2,<-h _ ⋯,m1',m2',n1]
theorem Xj{n i:Nat}(h:i<n):On (n:Int) b (i:Int)=b.testBit i:=by
 unfold On;rw[je6 ⋯ ⋯,zw]
theorem Lst.on{n:Nat}(L:Lst n b z c)(n0:0<n)(e:Int):On (n:Int) b e=On (z:Int) c e:=by
 have:=L.z0;exact FZ.on (n:=(z:Int)) (m:=(n:Int)) ⋯ ⋯ (je4.mpr L.dv) (by rw[zw,zw];exact L.st) e
theorem Lst.tight{n n' b' z' c':Nat}(L:Lst n b z c)(L':Lst n' b' z' c')(h:∀e:Int,On (z:Int) c e=On (z':Int) c' e):z∣z':=by
 have z0:=L.z0;have z0':=L'.z0;have gz:Nat.gcd z z'∣z:=jj2 z z';have g0:0<Nat.gcd z z':=ji3 z' z0;have gl:=kc z0 gz;have gl2:=kc z0' (je9 z z');have key:=gR (z+z') z z' (fun i=>On (z:Int) c (i:Nat)) (qo _) z0 z0' (fun i _=>On.turn c (by
  rw[ui,jf7])) (fun i hi=>by
  show On (z:Int) c (i:Nat)=On (z:Int) c ((i+z':Nat):Int);rw[h,h];exact On.turn c' (by rw[ui,jf7]))
 have per:Per z c (Nat.gcd z z'):=⟨g0,gz,fun i j hi hj e=>by
  have a:On (z:Int) c (i:Nat)=On (z:Int) c ((i%Nat.gcd z z':Nat):Int):=key i ⋯;have b:On (z:Int) c (j:Nat)=On (z:Int) c ((j%Nat.gcd z z':Nat):Int):=key j ⋯;rw[Xj hi] at a;rw[Xj hj] at b;rw[a,b,e]⟩
 have ge:Nat.gcd z z'=z:=by
  rcases Nat.lt_or_ge (Nat.gcd z z') z with y | y
  ·exact absurd per (L.min _ y)
  ·lia
 rw[<-ge];exact je9 z z'
theorem Lst.same{n n' b' z' c':Nat}(L:Lst n b z c)(L':Lst n' b' z' c')(h:∀e:Int,On (z:Int) c e=On (z':Int) c' e):z=z'/\c=c':=by
 have e:z=z':=Nat.dvd_antisymm (L.tight L' h) (L'.tight L fun e=>(h e).symm);subst e;refine⟨rfl,Ni L.lt L'.lt fun i hi=>?_⟩;have:=h (i:Nat)
 rwa [Xj hi,Xj hi] at this
def Meets(n b m c:Nat):Prop:=∃i j,i<n/\j<m/\b.testBit i=true/\c.testBit j=true/\i%Nat.gcd n m=j%Nat.gcd n m
def Gt(T B:Int->Bool)(e:Int)(k:Nat)(d:Int):Prop:=∃j:Nat,j<k/\T (d-e*(j:Int))=true/\∀i:Nat,i<j->B (d-e*(i:Int))=false
def Fre(B:Int->Bool)(e:Int)(k:Nat)(d:Int):Prop:=∀i:Nat,i<k->B (d-e*(i:Int))=false
def Gat(T B:Int->Bool)(e d:Int):Prop:=∃j:Nat,T (d-e*(j:Int))=true/\∀i:Nat,i<j->B (d-e*(i:Int))=false
theorem Iz(d e:Int)(k i:Nat):d-e*(k:Int)-e*(i:Int)=d-e*((k+i:Nat):Int):=by
 rw[ui,ja2];lia
variable{B:Int->Bool}
theorem Gt.step{T:Int->Bool}{k:Nat}:Gt T B e (2*k) d<->Gt T B e k d\/(Gt T B e k (d-e*(k:Int))/\Fre B e k d):=by
 constructor
 ·rintro⟨j,hj,ht,hb⟩;by_cases c:j<k
  ·exact .inl ⟨j,c,ht,hb⟩
  ·refine .inr ⟨⟨j-k,⋯,?_,fun i hi=>?_⟩,fun i hi=>hb i ⋯⟩
   ·rw[Iz,show k+(j-k)=j by lia];exact ht
   ·rw[Iz];exact hb _ ⋯
 ·rintro(⟨j,hj,ht,hb⟩ | ⟨⟨j,hj,ht,hb⟩,hf⟩)
  ·exact⟨j,⋯,ht,hb⟩
  ·refine⟨k+j,⋯,?_,fun i hi=>?_⟩
   ·rw[<-Iz];exact ht
   ·by_cases c:i<k
    ·exact hf i c
    ·have:=hb (i-k) ⋯;rw[Iz,show k+(i-k)=i by lia] at this;exact this
theorem Fre.step{k:Nat}:Fre B e (2*k) d<->Fre B e k d/\Fre B e k (d-e*(k:Int)):=by
 constructor
 ·intro h;refine⟨fun i hi=>h i ⋯,fun i hi=>?_⟩;rw[Iz];exact h _ ⋯
 ·rintro⟨h1,h2⟩ i hi;by_cases c:i<k
  ·exact h1 i c
  ·have:=h2 (i-k) ⋯;rw[Iz,show k+(i-k)=i by lia] at this;exact this
theorem Gt.one{T:Int->Bool}:Gt T B e 1 d<->T d=true:=by
 constructor
 ·rintro⟨j,hj,ht,_⟩;have:j=0:=⋯
  subst this;simpa using ht
 ·intro h;exact⟨0,⋯,by simpa using h,fun i hi=>⋯⟩
theorem Fre.one:Fre B e 1 d<->B d=false:=by
 constructor
 ·intro h;have:=h 0 ⋯;simpa using this
 ·intro h i hi;have:i=0:=⋯
  subst this;simpa using h
theorem Gat.iff{T:Int->Bool}{n k:Nat}(n0:0<n)(hk:n<=k)(pT:∀x y:Int,(n:Int)∣x-y->T x=T y)(pB:∀x y:Int,(n:Int)∣x-y->B x=B y):Gt T B e k d<->Gat T B e d:=by
 constructor
 ·rintro⟨j,_,ht,hb⟩;exact⟨j,ht,hb⟩
 ·rintro⟨j,ht,hb⟩;by_cases c:j<k
  ·exact⟨j,c,ht,hb⟩
  ·have m:=jl3 j n0;have dv:∀a:Nat,(n:Int)∣d-e*(a:Int)-(d-e*((a%n:Nat):Int)):=fun a=>by
    have h:=jq5 a n;refine⟨-(e*((a/n:Nat):Int)),?_⟩;have h2:(a:Int)=((a%n:Nat):Int)+(n:Int)*((a/n:Nat):Int):=by
     rw[<-jh2,<-ui,h]
    generalize ((a%n:Nat):Int)=r at*
    generalize ((a/n:Nat):Int)=q at*
    rw[h2,ja2,ji1,jn4];lia
   refine⟨j%n,⋯,?_,fun i hi=>hb i ⋯⟩;rw[<-pT _ _ (dv j)];exact ht
theorem lcm_self{n:Int}(h:0<n):CQ n n=n:=by
 unfold CQ;have e:((Int.gcd n n:Nat):Int)=n:=by
  rw[Int.gcd_self];lia
 rw[e,Int.ediv_self ⋯,jg6]
theorem Lk{n:Int}{x y:Int}(h:n∣x-y):On n b x=On n b y:=by
 unfold On;rw[Int.emod_eq_emod_iff_emod_sub_eq_zero.mpr (Int.emod_eq_zero_of_dvd h)]
noncomputable def cG(T B:Int->Bool)(e:Int):Nat->Int->Nat
 | 0,_=>0
 | k+1,d=>(if T d=true then 1 else 0)+(if B d=true then 0 else cG T B e k (d-e))
def Bar(B:Int->Bool)(e:Int)(k:Nat)(d:Int):Prop:=∃j:Nat,j<k/\B (d-e*(j:Int))=true
theorem Bar.down{k:Nat}(h:Bar B e (k+1) d)(hb:¬B d=true):Bar B e k (d-e):=by
 obtain⟨j,hj,ht⟩:=h;cases j with
 | zero=>exact absurd (by simpa using ht) hb
 | succ j=>
  refine⟨j,⋯,?_⟩;rw[show d-e-e*(j:Int)=d-e*((j+1:Nat):Int) by rw[ui,ja2];simp;lia];exact ht
theorem YK{T:Int->Bool}:∀{k N:Nat} {d:Int},Bar B e k d->k<=N->cG T B e N d=cG T B e k d
 | 0,_,_,⟨j,hj,_⟩,_=>absurd hj ⋯
 | k+1,0,_,_,h=>absurd h ⋯
 | k+1,N+1,d,h,hk=>by
  unfold cG;by_cases hb:B d=true
  ·rw[xp hb,xp hb]
  ·rw[xy hb,xy hb,YK (h.down hb) ⋯]
theorem Ko{T:Int->Bool}{n:Nat}(hB:∀d,Bar B e n d)(d:Int):cG T B e n d=(if T d=true then 1 else 0)+(if B d=true then 0 else cG T B e n (d-e)):=by
 rw[<-YK (N:=n+1) (hB d) ⋯];rfl
theorem qy{T B:Int->Bool}{e:Int}(m:Nat):∀(k:Nat) (d:Int),(Fre B e k d->cG T B e (k+m) d=cG T B e k d+cG T B e m (d-e*(k:Int)))/\(¬Fre B e k d->cG T B e (k+m) d=cG T B e k d)
 | 0,d=>⟨fun _=>by rw[jo7];unfold cG;cases m<;>simp[cG],fun h=>absurd (fun i hi=>absurd hi ⋯) h⟩
 | k+1,d=>by
  have ih:=qy (T:=T) (B:=B) (e:=e) m k (d-e);have fr:Fre B e (k+1) d<->B d=false/\Fre B e k (d-e):=by
   constructor
   ·intro h;refine⟨by simpa using h 0 ⋯,fun i hi=>?_⟩;have:=h (i+1) ⋯;rw[show d-e*((i+1:Nat):Int)=d-e-e*(i:Int) by rw[ui,ja2];simp;lia] at this;exact this
   ·rintro⟨h1,h2⟩ i hi;cases i with
    | zero=>simpa using h1
    | succ i=>
     have:=h2 i ⋯;rw[show d-e*((i+1:Nat):Int)=d-e-e*(i:Int) by rw[ui,ja2];simp;lia];exact this
  have ek:d-e*((k+1:Nat):Int)=d-e-e*(k:Int):=by rw[ui,ja2];simp;lia
  rw[show k+1+m=(k+m)+1 by lia,ek];constructor
  ·intro h;obtain⟨h1,h2⟩:=fr.mp h;have hn:¬B d=true:=by rw[h1];exact zi
   show _+(if B d=true then 0 else _)=_+(if B d=true then 0 else _)+_;rw[xy hn,xy hn,ih.1 h2,ju0]
  ·intro h;show _+(if B d=true then 0 else _)=_+(if B d=true then 0 else _);by_cases hb:B d=true
   ·rw[xp hb,xp hb]
   ·rw[xy hb,xy hb,ih.2 fun h2=>h (fr.mpr ⟨by simpa using hb,h2⟩)]
theorem ABO{T:Int->Bool}{k:Nat}:cG T B e (2*k) d%2=1<->((cG T B e k d%2=1)≠(cG T B e k (d-e*(k:Int))%2=1/\Fre B e k d)):=by
 have h:=qy (T:=T) (B:=B) (e:=e) k k d;rw[show 2*k=k+k by lia];by_cases f:Fre B e k d
 ·rw[h.1 f];simp only[f,and_true,ne_eq,eq_iff_iff];lia
 ·rw[h.2 f];simp only[f,and_false,ne_eq,eq_iff_iff,iff_false,Decidable.not_not]
theorem qx{T T':Int->Bool}{n:Nat}(hB:∀d,Bar B e n d)(hT:∀d,T' d=true<->T d=true/\cG T B e n d%2=1):∀(k:Nat) (d:Int),Bar B e k d->cG T' B e n d=(cG T B e n d+1)/2
 | 0,_,⟨j,hj,_⟩=>absurd hj ⋯
 | k+1,d,h=>by
  have r:=Ko (T:=T) hB d;have r':=Ko (T:=T') hB d;have t:=hT d;by_cases hb:B d=true
  ·rw[xp hb] at r r';by_cases td:T d=true
   ·rw[xp td] at r;rw[xp (t.mpr ⟨td,⋯⟩)] at r';lia
   ·rw[xy td] at r;rw[xy (fun x=>td (t.mp x).1)] at r';lia
  ·have ih:=qx hB hT k (d-e) (h.down hb);rw[xy hb] at r r';by_cases td:T d=true
   ·rw[xp td] at r;by_cases o:cG T B e n d%2=1
    ·rw[xp (t.mpr ⟨td,o⟩)] at r';lia
    ·rw[xy (fun x=>o (t.mp x).2)] at r';lia
   ·rw[xy td] at r;rw[xy (fun x=>td (t.mp x).1)] at r';lia
theorem iC{T T':Int->Bool}{n:Nat}(hB:∀d,Bar B e n d)(hT:∀d,T' d=true<->T d=true/\cG T B e n d%2=0):∀(k:Nat) (d:Int),Bar B e k d->cG T' B e n d=cG T B e n d/2
 | 0,_,⟨j,hj,_⟩=>absurd hj ⋯
 | k+1,d,h=>by
  have r:=Ko (T:=T) hB d;have r':=Ko (T:=T') hB d;have t:=hT d;by_cases hb:B d=true
  ·rw[xp hb] at r r';by_cases td:T d=true
   ·rw[xp td] at r;rw[xy (fun x=>by have:=(t.mp x).2;lia)] at r';lia
   ·rw[xy td] at r;rw[xy (fun x=>td (t.mp x).1)] at r';lia
  ·have ih:=iC hB hT k (d-e) (h.down hb);rw[xy hb] at r r';by_cases td:T d=true
   ·rw[xp td] at r;by_cases o:cG T B e n d%2=0
    ·rw[xp (t.mpr ⟨td,o⟩)] at r';lia
    ·rw[xy (fun x=>o (t.mp x).2)] at r';lia
   ·rw[xy td] at r;rw[xy (fun x=>td (t.mp x).1)] at r';lia
theorem aQ{T:Int->Bool}{n:Nat}(hB:∀d,Bar B e n d):∀(k:Nat) (d:Int),Bar B e k d->(cG T B e n d=0<->∃j:Nat,B (d-e*(j:Int))=true/\∀i:Nat,i<=j->T (d-e*(i:Int))=false)
 | 0,_,⟨j,hj,_⟩=>absurd hj ⋯
 | k+1,d,h=>by
  have r:=Ko (T:=T) hB d;by_cases td:T d=true
  ·rw[xp td] at r;constructor
   ·intro h0;lia
   ·rintro⟨j,_,h2⟩;have:=h2 0 ⋯;rw[show d-e*((0:Nat):Int)=d by simp,td] at this;cases this
  ·rw[xy td] at r;by_cases hb:B d=true
   ·rw[xp hb] at r;refine⟨fun _=>⟨0,by simpa using hb,fun i hi=>?_⟩,fun _=>⋯⟩;have:i=0:=⋯
    subst this;simpa using td
   ·rw[xy hb,jo7] at r;rw[r,aQ hB k (d-e) (h.down hb)];have ek:∀j:Nat,d-e*((j+1:Nat):Int)=d-e-e*(j:Int):=fun j=>by rw[ui,ja2];simp;lia
    constructor
    ·rintro⟨j,h1,h2⟩;refine⟨j+1,by rw[ek];exact h1,fun i hi=>?_⟩;cases i with
     | zero=>simpa using td
     | succ i=>
      rw[ek];exact h2 i ⋯
    ·rintro⟨j,h1,h2⟩;cases j with
     | zero=>exact absurd (by simpa using h1) hb
     | succ j=>
      refine⟨j,by rw[<-ek];exact h1,fun i hi=>?_⟩;rw[<-ek];exact h2 _ ⋯
theorem yL{n1 n2:Int}{b1 b2 n:Nat}(h1:0<n1)(hB:∀d,Bar (On n2 b2) 1 n d):∀(k:Nat) (d:Int),Bar (On n2 b2) 1 k d->∃b,On n2 b2 b=true/\b<=d/\(∀r,b<r->r<=d->On n2 b2 r=false)/\CC n1 b1 (d+1)-CC n1 b1 b=(cG (On n1 b1) (On n2 b2) 1 n d:Int)
 | 0,_,⟨j,hj,_⟩=>absurd hj ⋯
 | k+1,d,h=>by
  have r:=Ko (T:=On n1 b1) hB d;have c:=Gd (b:=b1) h1 d;by_cases hb:On n2 b2 d=true
  ·rw[xp hb] at r;refine⟨d,hb,⋯,fun r h1 h2=>⋯,?_⟩;rw[r,c];split<;>simp_all<;>lia
  ·rw[xy hb] at r;obtain⟨b,g1,g2,g3,g4⟩:=yL h1 hB k (d-1) (h.down hb);rw[show d-1+1=d by lia] at g4;refine⟨b,g1,⋯,fun r h1 h2=>?_,?_⟩
   ·by_cases e:r=d
    ·rw[e];simpa using hb
    ·exact g3 r h1 ⋯
   ·rw[r,c,ui,<-g4];split<;>simp_all<;>lia
theorem yM{n1 n2:Int}{b1 b2 n:Nat}(hb':∀d,B d=On n2 b2 (d+1))(h1:0<n1)(hB:∀d,Bar B (-1) n d):∀(k:Nat) (d:Int),Bar B (-1) k d->∃e,On n2 b2 e=true/\d<e/\(∀r,d<r->r<e->On n2 b2 r=false)/\CC n1 b1 e-CC n1 b1 d=(cG (On n1 b1) B (-1) n d:Int)
 | 0,_,⟨j,hj,_⟩=>absurd hj ⋯
 | k+1,d,h=>by
  have r:=Ko (T:=On n1 b1) hB d;have c:=Gd (b:=b1) h1 d;by_cases hb:B d=true
  ·rw[xp hb] at r;refine⟨d+1,by rw[<-hb'];exact hb,⋯,fun r h1 h2=>⋯,?_⟩;rw[r,c];split<;>simp_all<;>lia
  ·rw[xy hb] at r;obtain⟨e,g1,g2,g3,g4⟩:=yM hb' h1 hB k (d- -1) (h.down hb);rw[show d- -1=d+1 by lia] at g2 g3 g4 r;refine⟨e,g1,⋯,fun r h1 h2=>?_,?_⟩
   ·by_cases e:r=d+1
    ·rw[e,<-hb'];simpa using hb
    ·exact g3 r ⋯ h2
   ·rw[r,ui,<-g4,c];split<;>simp_all<;>lia
theorem rB{z:Int}(z0:0<z)(per:∀x y:Int,z∣x-y->B x=B y){x:Int}(hx:B x=true)(he:e=1\/e= -1)(d:Int):Bar B e z.toNat d:=by
 rcases he with rfl | rfl
 ·have h1:=qh (d-x) (show z≠0 by lia);have h2:=qg (d-x) z0;have h3:=jo0 (d-x) z;refine⟨((d-x)%z).toNat,⋯,?_⟩;rw[show d-1*((((d-x)%z).toNat:Nat):Int)=d-(d-x)%z by lia,per _ x ⟨(d-x)/z,⋯⟩];exact hx
 ·have h1:=qh (x-d) (show z≠0 by lia);have h2:=qg (x-d) z0;have h3:=jo0 (x-d) z;refine⟨((x-d)%z).toNat,⋯,?_⟩;rw[show d- -1*((((x-d)%z).toNat:Nat):Int)=d+(x-d)%z by lia,per _ x ⟨-((x-d)/z),by rw[ji1];lia⟩];exact hx
theorem ABP{T:Int->Bool}{n:Nat}(hB:∀d,Bar B e n d){d:Int}(td:T d=true):cG T B e n d=1<->∃j:Nat,B (d-e*(j:Int))=true/\∀i:Nat,0<i->i<=j->T (d-e*(i:Int))=false:=by
 have r:=Ko (T:=T) hB d;have f:=aQ (T:=T) hB n (d-e) (hB _);have ek:∀j:Nat,d-e*((j+1:Nat):Int)=d-e-e*(j:Int):=fun j=>by rw[ui,ja2];simp;lia
 rw[xp td] at r;by_cases hb:B d=true
 ·rw[xp hb] at r;exact⟨fun _=>⟨0,by simpa using hb,fun i h1 h2=>⋯⟩,fun _=>⋯⟩
 ·rw[xy hb] at r;constructor
  ·intro h;obtain⟨j,h1,h2⟩:=f.mp ⋯;refine⟨j+1,by rw[ek];exact h1,fun i i0 hi=>?_⟩;have:=h2 (i-1) ⋯;rw[<-ek,show i-1+1=i by lia] at this;exact this
  ·rintro⟨j,h1,h2⟩;cases j with
   | zero=>exact absurd (by simpa using h1) hb
   | succ j=>
    have:=f.mpr ⟨j,by rw[<-ek];exact h1,fun i hi=>by rw[<-ek];exact h2 _ ⋯ ⋯⟩;lia
theorem AAl{n1 n2 k:Int}{b1 b2 n:Nat}(hb':∀d,B d=On n2 b2 (d+1))(h1:0<n1)(hU:∀d,Bar (On n2 b2) 1 n d)(hD:∀d,Bar B (-1) n d)(k0:k≠0):
 Kth n1 b1 n2 b2 k d<->On n1 b1 d=true/\(if 0<k then cG (On n1 b1) (On n2 b2) 1 n d else cG (On n1 b1) B (-1) n d)=k.natAbs:=by
 obtain⟨b,p1,p2,p3,p4⟩:=yL (b1:=b1) h1 hU n d (hU d);obtain⟨e,q1,q2,q3,q4⟩:=yM (b1:=b1) hb' h1 hD n d (hD d);constructor
 ·rintro⟨od,b',e',g1,g2,g3,g4,g5,g6,g7⟩;have eb:b=b':=by
   rcases jn3 b b' with h | h | h
   ·rw[p3 b' h g3] at g1;cases g1
   ·exact h
   ·rw[g5 b h ⋯] at p1;cases p1
  have ee:e=e':=by
   rcases jn3 e e' with h | h | h
   ·rw[g5 e ⋯ h] at q1;cases q1
   ·exact h
   ·rw[q3 e' ⋯ h] at g2;cases g2
  subst eb;subst ee;refine⟨od,?_⟩;split
  ·next h=>
   have:=g6 h;lia
  ·next h=>
   have:=g7 ⋯;lia
 ·rintro⟨od,h⟩;refine⟨od,b,e,p1,q1,p2,q2,fun r r1 r2=>?_,fun h0=>?_,fun h0=>?_⟩
  ·by_cases c:r<=d
   ·exact p3 r r1 c
   ·exact q3 r ⋯ r2
  ·rw[xp h0] at h;lia
  ·rw[xy ⋯] at h;lia
structure Nx(on:Int->Bool)(r r':Int):Prop where
 o1:on r=true
 o2:on r'=true
 lt:r<r'
 no:∀x,r<x->x<r'->on x=false
theorem Nx.per{on:Int->Bool}{z:Int}(per:∀d k,on (d+z*k)=on d)(h:Nx on r r')(k:Int):Nx on (r+z*k) (r'+z*k):=by
 refine⟨by rw[per];exact h.o1,by rw[per];exact h.o2,by have:=h.lt;lia,fun x h1 h2=>?_⟩;have:=h.no (x+z* -k) (by rw[ji1];lia) (by rw[ji1];lia)
 rwa [per] at this
theorem Nx.ge{on:Int->Bool}{x:Int}(h:Nx on r r')(hx:on x=true)(l:r<x):r'<=x:=by
 by_cases c:r'<=x
 ·exact c
 ·have:=h.no x l ⋯;rw[hx] at this;cases this
theorem Nx.le{on:Int->Bool}{x:Int}(h:Nx on r r')(hx:on x=true)(l:x<r'):x<=r:=by
 by_cases c:x<=r
 ·exact c
 ·have:=h.no x ⋯ l;rw[hx] at this;cases this
theorem Nx.un{on:Int->Bool}{u u' s:Int}(h:Nx on r r')(g:Nx on u u')(h1:r<=s)(h2:s<r')(g1:u<=s)(g2:s<u'):r=u/\r'=u':=by
 have a1:=h.le g.o1 ⋯;have a2:=g.le h.o1 ⋯;have b1:=h.ge g.o2 ⋯;have b2:=g.ge h.o2 ⋯;lia
theorem vG{on:Int->Bool}{z s:Int}(z0:0<z)(per:∀d k,on (d+z*k)=on d)(hs:on s=true)(d:Int):∃y,d<y/\on y=true/\∀r,d<r->r<y->on r=false:=by
 obtain⟨x,h1,h2,h3⟩:=gK (on:=fun t=>on (-t)) (z:=z) (s:= -s) z0 (fun t k=>by show on (-(t+z*k))=on (-t);rw[<-per (-t) (-k),ji1];congr 1;lia) (by show on (- -s)=true;rw[Int.neg_neg];exact hs) (-(d+1));refine⟨-x,⋯,h2,fun r a b=>?_⟩;have:=h3 (-r) ⋯ ⋯
 rwa [Int.neg_neg] at this
theorem pJ{on:Int->Bool}{z s:Int}(z0:0<z)(per:∀d k,on (d+z*k)=on d)(hs:on s=true)(d:Int):∃r r',Nx on r r'/\r<=d/\d<r':=by
 obtain⟨r,a1,a2,a3⟩:=gK z0 per hs d;obtain⟨r',b1,b2,b3⟩:=vG z0 per hs d;refine⟨r,r',⟨a2,b2,⋯,fun x h1 h2=>?_⟩,a1,b1⟩;rcases jh7 d x with c | c
 ·exact b3 x c h2
 ·exact a3 x h1 c
noncomputable def HS(z:Int)(ds:List Int):List Int:=ds.drop 1++(ds.take 1).map (· +z)
noncomputable def mids(z:Int)(ds:List Int):List Int:=List.zipWith (fun x y=>(x+y)/2+1) ds (HS z ds)
theorem Ui(z:Int)(ds:List Int):(HS z ds).length=ds.length:=by
 unfold HS;rw[ze,jb3,js,je0];lia
theorem Wa{on:Int->Bool}{z:Int}{ds:List Int}(z0:0<z)(per:∀d k,on (d+z*k)=on d)(srt:ds.Pairwise (· < ·))(mem:∀d,d∈ds<->0<=d/\d<z/\on d=true){i:Nat}{x y:Int}
 (hx:ds[i]?=some x)(hy:(HS z ds)[i]?=some y):Nx on x y:=by
 have il:i<ds.length:=(zk.mp hx).1;obtain⟨f,hf⟩:∃f,ds[0]?=some f:=⟨_,qm ⋯⟩;obtain⟨g,hg⟩:∃g,ds[ds.length-1]?=some g:=⟨_,qm ⋯⟩;obtain⟨R,_,_⟩:=Rw.mk' z0 per srt mem hf hg;have e1:([g-z]++ds++[f+z])[i+1]?=some x:=by
  rw[Zs,jf9,jm3,jg7 il];exact hx
 have ht:ds.take 1=[f]:=by
  cases ds with
  | nil=>simp at hf
  | cons a r=>
   have:a=f:=by simpa using hf
   rw[this];rfl
 have hd:ds=f::ds.drop 1:=by
  cases ds with
  | nil=>simp at hf
  | cons a r=>
   have:a=f:=by simpa using hf
   rw[this];rfl
 have e2:([g-z]++ds++[f+z])[i+1+1]?=some y:=by
  rw[Zs,jf9,jm3];have:ds++[f+z]=f::(ds.drop 1++[f+z]):=by
   conv=>lhs;rw[hd]
   rfl
  rw[this,jm3];unfold HS at hy;rw[ht] at hy;exact hy
 exact⟨R.all _ (qv e1),R.all _ (qv e2),R8 R.srt (jp3 _) e1 e2,fun r a b=>R.gap e1 e2 a b⟩
theorem pM{on:Int->Bool}{z:Int}{ds:List Int}(z0:0<z)(per:∀d k,on (d+z*k)=on d)(srt:ds.Pairwise (· < ·))(mem:∀d,d∈ds<->0<=d/\d<z/\on d=true)(d:Int):
 hit z (mids z ds) d=true<->∃r r',Nx on r r'/\d=(r+r')/2+1:=by
 rw[gQ];have bl:=Ui z ds;constructor
 ·rintro⟨m,hm,k,rfl⟩;obtain⟨i,hi⟩:=Qb.mp hm;unfold mids at hi;rw[jn2] at hi;cases ex:ds[i]? with
  | none=>rw[ex] at hi;simp at hi
  | some x=>
   cases ey:(HS z ds)[i]? with
   | none=>rw[ex,ey] at hi;simp at hi
   | some y=>
    rw[ex,ey] at hi;have hi':(x+y)/2+1=m:=by simpa using hi
    have N:=(Wa z0 per srt mem ex ey).per per k;exact⟨_,_,N,⋯⟩
 ·rintro⟨r,r',N,rfl⟩;have e:=ja4 r z;have m0:=qh r (show z≠0 by lia);have m1:=qg r z0;have N0:=N.per per (-(r/z));rw[ji1,show r+ -(z*(r/z))=r%z by lia] at N0;obtain⟨i,hi⟩:=Qb.mp ((mem (r%z)).mpr ⟨m0,m1,N0.o1⟩);have il:i<ds.length:=(zk.mp hi).1;obtain⟨y,hy⟩:∃y,(HS z ds)[i]?=some y:=⟨_,qm ⋯⟩;have N1:=Wa z0 per srt mem hi hy;obtain⟨_,ey⟩:=N0.un N1 (kx _) N0.lt (kx _) N1.lt;refine⟨(r%z+y)/2+1,?_,r/z,⋯⟩;refine Qb.mpr ⟨i,?_⟩;unfold mids;rw[jn2,hi,hy];rfl
def Wh(on:Int->Bool)(d:Int):Prop:=∃r r',Nx on r r'/\r<=d/\d<r'/\d-r<=r'-d
theorem kI{on on2:Int->Bool}{z:Int}(z0:0<z)(per:∀d k,on (d+z*k)=on d)(hm:∀d,on2 d=true<->∃r r',Nx on r r'/\d=(r+r')/2+1):
 (∃r,on r=true/\r<=d/\∀s,on2 s=true->r<s->d<s)<->Wh on d:=by
 constructor
 ·rintro⟨r,h1,h2,h3⟩;obtain⟨x,y,N,a,b⟩:=pJ z0 per h1 d;refine⟨x,y,N,a,b,?_⟩;have rx:=N.le h1 ⋯;have lt:=N.lt;have:=h3 _ ((hm _).mpr ⟨x,y,N,rfl⟩) ⋯;lia
 ·rintro⟨r,r',N,h1,h2,h3⟩;refine⟨r,N.o1,h1,fun s hs rs=>?_⟩;obtain⟨u,u',M,e⟩:=(hm s).mp hs;by_cases c:d<s
  ·exact c
  ·have lt:=N.lt;have lt':=M.lt;by_cases c2:u<r
   ·have:=M.ge N.o1 c2;lia
   ·obtain⟨rfl,rfl⟩:=N.un M (s:=s-1) ⋯ ⋯ (by have:=N.le M.o1 ⋯;lia) ⋯;lia
theorem pL{on on2:Int->Bool}{z:Int}(z0:0<z)(per:∀d k,on (d+z*k)=on d):
 ((on d=true/\∃s,(on2 s=true/\Wh on s)/\d<=s/\∀r,d<r->r<=s->on r=false)\/(on d=true/\∃s,(on2 s=true/\¬Wh on s)/\s<=d/\∀r,s<=r->r<d->on r=false))<->
  (on d=true/\∃s,on2 s=true/\∀r,on r=true->(d<r->(d-s).natAbs<=(r-s).natAbs)/\(r<d->(d-s).natAbs<(r-s).natAbs)):=by
 constructor
 ·rintro(⟨hd,s,⟨hs,r,r',N,h1,h2,h3⟩,ds,no⟩ | ⟨hd,s,⟨hs,ne⟩,sd,no⟩)
  ·have e1:=N.le hd ⋯;have e:r=d:=by
    by_cases c:r=d
    ·exact c
    ·have:=no r ⋯ h1;rw[N.o1] at this;cases this
   subst e;refine⟨hd,s,hs,fun x hx=>⟨fun l=>?_,fun l=>⋯⟩⟩;have:=N.ge hx l;lia
  ·refine⟨hd,s,hs,fun x hx=>⟨fun l=>⋯,fun l=>?_⟩⟩;by_cases c:s=d
   ·lia
   obtain⟨r,r',N,h1,h2⟩:=pJ z0 per hd s;have g1:=N.ge hd ⋯;have g2:r'=d:=by
    by_cases c:r'=d
    ·exact c
    ·have:=no r' ⋯ ⋯;rw[N.o2] at this;cases this
   subst g2;have:=N.le hx l;by_cases c2:s-r<=r'-s
   ·exact absurd ⟨r,r',N,h1,h2,c2⟩ ne
   ·lia
 ·rintro⟨hd,s,hs,all⟩;rcases jh7 s d with c | c
  ·refine .inr ⟨hd,s,⟨hs,?_⟩,⋯,fun r h1 h2=>?_⟩
   ·rintro⟨r,r',N,h1,h2,h3⟩;have g1:=N.ge hd ⋯;have:=(all r N.o1).2 ⋯;have:=(all r' N.o2);by_cases c2:r'=d
    ·lia
    ·have:=this.2 ⋯;lia
   ·cases e:on r with
    | false=>rfl
    | true=>
     have:=(all r e).2 h2;lia
  ·obtain⟨r,r',N,h1,h2⟩:=pJ z0 per hd s;refine .inl ⟨hd,s,⟨hs,r,r',N,h1,h2,?_⟩,c,fun x a b=>?_⟩
   ·have g1:=N.le hd ⋯;have g2:r=d:=by
     by_cases c2:r=d
     ·exact c2
     ·have:=(all r N.o1).1 ⋯;lia
    subst g2;have:=(all r' N.o2).1 ⋯;lia
   ·cases e:on x with
    | false=>rfl
    | true=>
     have:=(all x e).1 a;lia
noncomputable abbrev Wd:=List Nat
noncomputable def kL:Wd:=[40]
noncomputable def kR:Wd:=[41]
noncomputable def opd(p:Wd):Wd:=p.dropWhile (· ==40)
noncomputable def core(p:Wd):Wd:=((opd p).reverse.dropWhile (· ==41)).reverse
noncomputable def Hk(p:Wd):List Wd:=List.replicate (p.length-(opd p).length) kL++[core p]++List.replicate ((opd p).length-(core p).length) kR
theorem Ol(p:Wd):(opd p).length<=p.length:=(jn1 _).length_le
theorem RJ(p:Wd):(core p).length<=(opd p).length:=by
 unfold core;rw[jk7];have:=(jn1 (· ==41) (l:=(opd p).reverse)).length_le
 rwa [jk7] at this
noncomputable def jn:List Wd->Wd
 | []=>[]
 | [w]=>w
 | w::y::r=>w++32::jn (y::r)
noncomputable def bA:List Wd->List Wd
 | []=>[]
 | p::r=>(40::p)::r
noncomputable def bB:List Wd->List Wd
 | []=>[]
 | [p]=>[p++[41]]
 | p::q::r=>p::bB (q::r)
theorem JV{w:Wd}{r:List Wd}(h:r≠[]):jn (w::r)=w++32::jn r:=by
 cases r with
 | nil=>exact absurd rfl h
 | cons y r=>rfl
theorem pY:∀{ps qs:List Wd},ps≠[]->qs≠[]->jn (ps++qs)=jn ps++32::jn qs
 | [],_,h,_=>absurd rfl h
 | [w],qs,_,h=>by rw[jf9,JV h];rfl
 | w::y::r,qs,_,h=>by
  rw[jj0,JV (by simp),pY (by simp) h];show _=(w++32::jn (y::r))++_;simp
theorem ADG{ps:List Wd}(h:ps≠[]):jn (bA ps)=40::jn ps:=by
 match ps,h with
 | [w],_=>rfl
 | w::y::r,_=>rfl
theorem xx:∀{ps:List Wd},ps≠[]->jn (bB ps)=jn ps++[41]
 | [],h=>absurd rfl h
 | [w],_=>rfl
 | w::y::r,_=>by
  have ih:=xx (ps:=y::r) (by simp);have ne:bB (y::r)≠[]:=by cases r<;>simp[bB]
  show jn (w::bB (y::r))=_;rw[JV ne,ih];show _=(w++32::jn (y::r))++[41];simp
theorem mq:∀{w:Wd} {ws:List Wd},(∀p∈w::ws,32∉p)->L2.spl 32 (jn (w::ws))=w::ws
 | w,[],h=>L2.Wu 32 w (h w qf)
 | w,y::r,h=>by
  show L2.spl 32 (w++32::jn (y::r))=_;rw[L2.MK 32 w _ (h w qf),mq fun p hp=>h p (qk _ hp)]
theorem Nj{ps:List Wd}(h:ps≠[]):bA ps≠[]:=by cases ps<;>simp_all [bA]
theorem Wb{ps:List Wd}(h:ps≠[]):bB ps≠[]:=by
 match ps,h with
 | [w],_=>simp[bB]
 | w::y::r,_=>simp[bB]
theorem rC:∀(ps:List Wd) {qs:List Wd},qs≠[]->bB (ps++qs)=ps++bB qs
 | [],_,_=>rfl
 | [p],q::r,_=>rfl
 | p::y::r,qs,h=>by
  have:=rC (y::r) h;rw[jj0] at this ⊢;show bB (p::y::(r++qs))=_;show p::bB (y::(r++qs))=_;rw[this];rfl
theorem Ms(p:Wd):opd (40::p)=opd p:=by simp[opd,jb8]
theorem G5(p:Wd):core (40::p)=core p:=by unfold core;rw[Ms]
theorem Xh{p q:Wd}(h:opd p≠[]):opd (p++q)=opd p++q:=by
 unfold opd at*
 induction p with
 | nil=>exact absurd rfl h
 | cons a p ih=>
  by_cases e:a=40
  ·subst e;simp only[jj0,jb8,beq_self_eq_true,if_true] at*
   exact ih h
  ·simp[jb8,e]
theorem K1{p:Wd}(h:opd p≠[]):core (p++[41])=core p:=by
 unfold core;rw[Xh h,List.reverse_append];simp[jb8]
theorem Ka{p:Wd}(h:core p≠[]):opd p≠[]:=fun e=>h (by unfold core;rw[e];rfl)
theorem Vj(p:Wd):Hk (40::p)=kL::Hk p:=by
 have:=Ol p;unfold Hk;rw[Ms,G5,qr,Nat.succ_sub this,ja5];rfl
theorem Vi{p:Wd}(h:core p≠[]):Hk (p++[41])=Hk p++[kR]:=by
 have h2:=Ka h;have:=RJ p;unfold Hk;rw[K1 h2,Xh h2,ze,ze,show p.length+[41].length-((opd p).length+[41].length)=p.length-(opd p).length by simp,show(opd p).length+[41].length-(core p).length=(opd p).length-(core p).length+1 by simp;lia,List.replicate_succ'];simp
theorem Ov{p:Wd}(h1:p.head?≠some 40)(h2:p.getLast?≠some 41):core p=p:=by
 have e1:opd p=p:=by
  cases p with
  | nil=>rfl
  | cons a r=>
   have:a≠40:=fun e=>h1 (by rw[e];rfl);simp[opd,jb8,this]
 unfold core;rw[e1];cases e:p.reverse with
 | nil=>rw[List.dropWhile_nil];rw[List.reverse_eq_nil_iff.mp e];rfl
 | cons a r=>
  have:a≠41:=fun z=>h2 (by rw[List.getLast?_eq_head?_reverse,e,z];rfl);have e2:(a::r).dropWhile (· ==41)=a::r:=by simp[jb8,this]
  rw[e2,<-e,List.reverse_reverse]
theorem jT{p:Wd}(h1:p.head?≠some 40)(h2:p.getLast?≠some 41):Hk p=[p]:=by
 have e1:opd p=p:=by
  cases p with
  | nil=>rfl
  | cons a r=>
   have:a≠40:=fun e=>h1 (by rw[e];rfl);simp[opd,jb8,this]
 unfold Hk;rw[Ov h1 h2,e1];simp
theorem gA{ps:List Wd}(h:ps≠[]):∃l p,ps=l++[p]:=⟨ps.dropLast,ps.getLast h,(List.dropLast_concat_getLast h).symm⟩
theorem iG{l:List Wd}{p:Wd}:bB (l++[p])=l++[p++[41]]:=rC l (by simp)
noncomputable def tks(ps:List Wd):List Wd:=ps.flatMap Hk
theorem mJ{w:Wd}{ps:List Wd}(h:Hk w=[w]):tks (w::ps)=w::tks ps:=by
 unfold tks;rw[je7,h];rfl
theorem sX(ps qs:List Wd):tks (ps++qs)=tks ps++tks qs:=ji2
theorem mH{ps:List Wd}(ne:ps≠[])(co:∀p∈ps,core p≠[]):tks (bB (bA ps))=kL::(tks ps++[kR]):=by
 match ps,ne with
 | [f],_=>
  show Hk ((40::f)++[41])++[]=kL::((Hk f++[])++[kR]);rw[Vi (by rw[G5];exact co f qf),Vj];simp
 | f::y::r,_=>
  obtain⟨l,p,e⟩:=gA (ps:=y::r) (by simp);have E:bB (bA (f::y::r))=(40::f)::(l++[p++[41]]):=by
   show(40::f)::bB (y::r)=_;rw[e,iG]
  rw[E,e];unfold tks;rw[je7,ji2,je7,ju4,je7,ji2,je7,ju4,Vj,Vi (co p (by rw[e];simp))];simp
theorem Wt{ps:List Wd}(ne:ps≠[])(bl:∀p∈ps,32∉p):L2.spl 32 (jn ps)=ps:=by
 cases ps with
 | nil=>exact absurd rfl ne
 | cons w ws=>exact mq bl
theorem Yb{ws:List Wd}{q:Wd}(h:q∈bB (bA ws))(ne:ws≠[]):∃w∈ws,q=w\/q=40::w\/q=w++[41]\/q=40::w++[41]:=by
 have A:∀q∈bA ws,∃w∈ws,q=w\/q=40::w:=fun q hq=>by
  cases ws with
  | nil=>exact absurd rfl ne
  | cons f r=>
   rcases zh.mp hq with z | z
   ·exact⟨f,qf,.inr z⟩
   ·exact⟨q,qk _ z,.inl rfl⟩
 obtain⟨l,p,e⟩:=gA (Nj ne);rw[e] at A;rw[e,iG] at h;rcases yb.mp h with z | z
 ·obtain⟨w,hw,h⟩:=A q (ja1 _ z);exact⟨w,hw,h.elim .inl fun h=>.inr (.inl h)⟩
 ·obtain⟨w,hw,h⟩:=A p (yi _ qf);rw[xb.mp z];rcases h with h | h
  ·exact⟨w,hw,.inr (.inr (.inl (by rw[h])))⟩
  ·exact⟨w,hw,.inr (.inr (.inr (by rw[h])))⟩
theorem Xx(h:c≠32):∀{ws:List Wd},c∈jn ws->∃w∈ws,c∈w
 | [],m=>(nomatch m)
 | [w],m=>⟨w,qf,m⟩
 | w::x::r,m=>by
  rw[JV (by simp)] at m;rcases yb.mp m with m | m
  ·exact⟨w,qf,m⟩
  ·rcases zh.mp m with m | m
   ·exact absurd m h
   ·obtain⟨y,hy,z⟩:=Xx h m;exact⟨y,qk _ hy,z⟩
end Fw
namespace Fw
open PySem L2 PyProof.Rows
noncomputable def top(i:Nat):Stmt:=PySem.Challenge.pw_feastwheel_k93_whole_the_same_for_ever.main.body.getD i (.Pass ⟨0,0,0,0⟩)
noncomputable abbrev jO:Stmt:=top 19
noncomputable abbrev U3:Stmt:=top 20
noncomputable abbrev ZG:Stmt:=top 21
noncomputable abbrev Ux:Stmt:=top 22
noncomputable abbrev Y6:Stmt:=top 24
noncomputable abbrev Le:Stmt:=top 33
noncomputable abbrev jP:Stmt:=top 34
noncomputable abbrev bY:Stmt:=top 35
noncomputable abbrev oA:Stmt:=top 36
noncomputable abbrev MT:Stmt:=top 42
noncomputable abbrev bJ:Stmt:=top 43
noncomputable abbrev jQ:Stmt:=top 44
noncomputable abbrev zc:Stmt:=top 45
noncomputable abbrev ZJ:Stmt:=top 47
noncomputable abbrev jR:Stmt:=top 48
noncomputable abbrev Yy:Stmt:=top 49
noncomputable abbrev Y7:Stmt:=top 50
noncomputable abbrev U5:Stmt:=top 51
noncomputable abbrev uU:Stmt:=top 52
noncomputable abbrev U4:Stmt:=top 53
noncomputable abbrev zm:Stmt:=top 54
noncomputable abbrev n8:Stmt:=top 55
noncomputable abbrev nq:Stmt:=top 56
noncomputable abbrev jF:Stmt:=top 57
noncomputable abbrev XC:Stmt:=top 58
noncomputable abbrev uV:Stmt:=top 59
noncomputable abbrev jJ:Stmt:=top 64
noncomputable abbrev XH:Stmt:=top 65
noncomputable abbrev bU:Stmt:=top 66
noncomputable abbrev jG:Stmt:=top 73
noncomputable abbrev W7:Stmt:=top 74
noncomputable abbrev jN:Stmt:=top 75
noncomputable abbrev Ri:Stmt:=top 76
noncomputable abbrev N8:Stmt:=top 77
noncomputable abbrev Y8:Stmt:=top 78
noncomputable abbrev Gf:Stmt:=inClass (top 79) 0
noncomputable abbrev XR:Stmt:=inClass (top 79) 1
noncomputable abbrev Rp:Stmt:=inClass (top 79) 2
noncomputable abbrev Ob:Stmt:=inClass (top 79) 3
noncomputable abbrev QV:Stmt:=top 86
noncomputable abbrev Gn:Stmt:=inClass (top 87) 0
noncomputable abbrev OJ:Stmt:=inClass (top 87) 1
noncomputable abbrev U6:Stmt:=inClass (top 87) 3
noncomputable abbrev ZL:Stmt:=inClass (top 87) 4
noncomputable abbrev Uw:Stmt:=top 88
noncomputable abbrev Qf:Stmt:=inClass (top 89) 0
noncomputable abbrev Mh:Stmt:=inClass (top 89) 1
noncomputable abbrev Ro:Stmt:=inClass (top 89) 3
noncomputable abbrev XQ:Stmt:=inClass (top 89) 4
noncomputable abbrev Rg:Stmt:=top 91
noncomputable abbrev Yz:Stmt:=top 92
noncomputable abbrev W8:Stmt:=top 93
noncomputable abbrev bK:Stmt:=top 94
noncomputable abbrev Y5:Stmt:=top 95
noncomputable abbrev QW:Stmt:=top 96
noncomputable abbrev Mj:Stmt:=inClass (top 98) 0
noncomputable abbrev Rk:Stmt:=top 102
noncomputable abbrev s_same:Stmt:=top 103
noncomputable abbrev QT:Stmt:=top 110
noncomputable abbrev QZ:Stmt:=top 111
noncomputable abbrev Rm:Stmt:=top 112
noncomputable abbrev XM:Stmt:=top 113
noncomputable abbrev bV:Stmt:=top 115
noncomputable abbrev za:Stmt:=top 116
noncomputable abbrev uT:Stmt:=top 117
noncomputable abbrev zb:Stmt:=top 118
noncomputable abbrev Rh:Stmt:=top 119
noncomputable abbrev zf:Stmt:=top 120
noncomputable abbrev ACa:Stmt:=top 121
noncomputable abbrev uW:Stmt:=top 122
noncomputable abbrev HY:Stmt:=inClass (top 124) 0
noncomputable abbrev Oa:Stmt:=inClass (top 124) 1
noncomputable abbrev J1:Stmt:=inClass (top 124) 3
noncomputable abbrev Ru:Stmt:=inClass (top 125) 0
noncomputable abbrev U9:Stmt:=inClass (top 126) 0
noncomputable abbrev ZK:Stmt:=top 127
noncomputable abbrev Qg:Stmt:=inClass (top 128) 0
noncomputable abbrev Ut:Stmt:=top 129
noncomputable abbrev XJ:Stmt:=top 130
noncomputable abbrev G3:Stmt:=inClass (top 131) 0
noncomputable abbrev Rn:Stmt:=inClass (top 132) 0
noncomputable abbrev Qi:Stmt:=inClass (top 133) 0
noncomputable abbrev Mi:Stmt:=inClass (top 134) 0
noncomputable abbrev Rt:Stmt:=inClass (top 135) 0
noncomputable abbrev Mf:Stmt:=inClass (top 136) 0
noncomputable abbrev Oc:Stmt:=inClass (top 137) 0
noncomputable abbrev Qa:Stmt:=inClass (top 138) 0
noncomputable abbrev OD:Stmt:=inClass (top 139) 0
noncomputable abbrev Qd:Stmt:=inClass (top 140) 0
noncomputable abbrev Qc:Stmt:=inClass (top 141) 0
noncomputable abbrev Rq:Stmt:=inClass (top 142) 0
noncomputable abbrev Od:Stmt:=inClass (top 143) 0
noncomputable abbrev Mg:Stmt:=inClass (top 147) 0
noncomputable abbrev U8:Stmt:=inClass (top 147) 1
noncomputable abbrev U7:Stmt:=inClass (top 147) 2
noncomputable abbrev bI:Stmt:=top 148
noncomputable abbrev Yv:Stmt:=top 149
noncomputable abbrev Uv:Stmt:=top 150
noncomputable abbrev Uu:Stmt:=top 151
noncomputable abbrev Yw:Stmt:=top 152
noncomputable abbrev Yx:Stmt:=top 153
noncomputable abbrev HX:Stmt:=top 154
noncomputable abbrev JF:Stmt:=top 155
noncomputable abbrev J0:Stmt:=top 156
noncomputable abbrev Ig:Stmt:=top 157
noncomputable abbrev Jz:Stmt:=top 158
noncomputable abbrev ZC:Stmt:=top 159
noncomputable abbrev Y9:Stmt:=top 160
noncomputable abbrev bL:Stmt:=top 161
noncomputable abbrev Y4:Stmt:=top 162
noncomputable abbrev jH:Stmt:=top 172
noncomputable abbrev Yt:Stmt:=top 178
noncomputable abbrev Yu:Stmt:=top 179
noncomputable abbrev W9:Stmt:=top 180
noncomputable abbrev Rf:Stmt:=top 187
noncomputable abbrev jM:Stmt:=top 188
noncomputable abbrev ZD:Stmt:=top 189
noncomputable abbrev Uy:Stmt:=top 190
noncomputable abbrev zg:Stmt:=top 191
noncomputable abbrev Qh:Stmt:=inClass (top 192) 0
noncomputable abbrev bZ:Stmt:=inClass (top 192) 1
noncomputable abbrev Uz:Stmt:=top 194
noncomputable abbrev XF:Stmt:=top 195
noncomputable abbrev bQ:Stmt:=top 196
noncomputable abbrev Rj:Stmt:=top 197
noncomputable abbrev bR:Stmt:=top 198
noncomputable abbrev jK:Stmt:=top 199
noncomputable abbrev ZF:Stmt:=top 200
noncomputable abbrev n6:Stmt:=top 201
noncomputable abbrev bN:Stmt:=top 202
noncomputable abbrev jL:Stmt:=top 203
noncomputable abbrev U0:Stmt:=top 204
noncomputable abbrev QX:Stmt:=top 205
noncomputable abbrev Ma:Stmt:=top 206
noncomputable abbrev bO:Stmt:=top 207
noncomputable abbrev XD:Stmt:=top 208
noncomputable abbrev fD:Stmt:=top 209
def nZ(K:Fr):Sp:=fun vs H Q _=>Ex3 fun(a:Addr) (ns:List Int) (k:Int)=>An5 (vs=[.ref a,.int k]) (SqL K H a (ns.map V.int)) (0<=k) (ns.length<=63) (Q (.int (ns.getD k.toNat 0)) H)
def tK:Sp:=fun vs H Q _=>∃i:Int,vs=[.int i]/\Q (.bl true) H
variable{K:Fr}{a:Addr}{H:Hp}{Q:VK}{E:XK}
theorem fO{ns:List Int}{k:Int}(hS:SqL K H a (ns.map V.int))(hl:ns.length<=63)(hk:0<=k)(h:Q (.int (ns.getD k.toNat 0)) H):nZ K ([.ref a,.int k]++[]) H Q E:=⟨a,ns,k,rfl,hS,hk,hl,h⟩
variable{i:Int}
theorem ZP(h:Q (.bl true) H):tK ([.int i]++[]) H Q E:=⟨i,rfl,h⟩
theorem wV{ns:List Int}{k:Int}(h0:0<=k)(h:k<(ns.length:Int)):atI (ns.map V.int) k=some (.int (ns.getD k.toNat 0)):=by
 have hk:k.toNat<ns.length:=⋯;have ek:k=((k.toNat:Nat):Int):=⋯;have q:atI (ns.map V.int) ((k.toNat:Nat):Int)=some (.int ns[k.toNat]):=Dw (by rw[xo,qm hk]<;>rfl);rw[<-ek] at q;rw[q];simp[List.getD,hk]
theorem p40:(10:Int)^(40:Int).toNat=10000000000000000000000000000000000000000:=nofun
theorem p39:(10:Int)^(39:Int).toNat=1000000000000000000000000000000000000000:=nofun
theorem bt_of{x:Int}(h1: -1000000000000000000000000000000000000000000000000000000000000<=x)(h2:x<=1000000000000000000000000000000000000000000000000000000000000):Bt 200 x:=by
 unfold Bt;have:(2:Nat)^200=1606938044258990275541962092341162602522202993782792835301376:=nofun;lia
theorem DQ{a b:V}:([a,b]:List V).length<=sizeLine:=by show 2<=sizeLine;decide
variable{y:V}
theorem at0{x:V}:atI [x,y] 0=some x:=rfl
theorem at1{x:V}:atI [x,y] 1=some y:=rfl
local macro_rules | `(tactic| symm)=> `(tactic| (repeat (first | fail "r" | ((with_reducible refine' Fw.fO ?hc1 ?hc2 ?hc3 ?_);(case hc1=>assumption);(case hc2=>assumption);(case hc3=>decide)) | with_reducible refine Fw.ZP ?_)))
local macro_rules | `(tactic| exists $e)=> `(tactic| (refine $e;symm))
def m8:Sp:=fun vs H Q _=>∃n:Int,An3 (vs=[.int n]) (1<=n) (Q .non H)
def ADr:Sp:=fun vs H Q _=>Ex2 fun(a b:Int)=>An4 (vs=[.int a,.int b]) (Bt 500 a) (Bt 500 b) (∀(p:Addr) (u v g:Int) (H':Hp),BR H H'->H' p=some (.tup [.int u,.int v,.int g])->Eqn a b u v g->Q (.ref p) H')
def jA:Sp:=fun vs H Q _=>Ex2 fun(a b:Int)=>An4 (vs=[.int a,.int b]) (Bt 500 a) (Bt 500 b) (∀H',BR H H'->Q (.int (Int.gcd a b:Int)) H')
def nY:Sp:=fun vs H Q _=>Ex2 fun(a b:Int)=>An6 (vs=[.int a,.int b]) (0<a) (0<b) (Bt 500 a) (Bt 500 b) (∀H',BR H H'->Q (.int (CQ a b)) H')
theorem ABW{x z:V}:atI [x,y,z] 0=some x:=rfl
theorem ABV{x z:V}:atI [x,y,z] 1=some y:=rfl
theorem aU{x z:V}:atI [x,y,z] 2=some z:=rfl
theorem three{a b c:V}:([a,b,c]:List V).length<=sizeLine:=by show 3<=sizeLine;decide
theorem two{a b:V}:([a,b]:List V).length<=sizeLine:=by show 2<=sizeLine;decide
theorem iD{k m:Nat}{x y:Int}(h:Bt k y)(l:x.natAbs<=4*y.natAbs+4)(hk:k+4<=m):Bt m x:=by
 unfold Bt at*
 have p:2^(k+4)<=2^m:=vj nofun hk;have e:2^(k+4)=2^k*16:=by rw[jq6]
 lia
variable{z:Int}
theorem ABQ{k m:Nat}{x y:Int}(h:Bt k y)(h':Bt k z)(l:x.natAbs<=y.natAbs+z.natAbs+4)(hk:k+4<=m):Bt m x:=by
 unfold Bt at*
 have p:2^(k+4)<=2^m:=vj nofun hk;have e:2^(k+4)=2^k*16:=by rw[jq6]
 lia
theorem CP{k:Nat}{x:Int}(h0:0<=x)(h1:x<18446744073709551616)(hk:64<=k):Bt k x:=Bt.mono (k:=64) (by unfold Bt;lia) hk
def zU:Sp:=fun vs H Q _=>∃n:Int,An4 (vs=[.int n]) (0<=n) (n<=1000000) (Q (.int ((2^n.toNat-1:Nat):Int)) H)
def ACM(K:Fr):Sp:=fun vs H Q _=>Ex4 fun(a:Addr) (n d:Int) (b:Nat)=>An4 (vs=[.ref a,.int d]) (SqT K H a [.int n,.int (b:Int)]) (0<n) (Q (.bl (On n b d)) H)
variable{b:Nat}
theorem Ji{n:Nat}(h:b<2^n):Bt n (b:Int):=by unfold Bt;rw[jl8];exact h
theorem AAZ(b k:Nat):decide (V.int (((b:Nat):Int)/2^k%2)=V.int 1)=b.testBit k:=by
 rw[<-ACr,ko];simp
theorem bt1:Bt 1 1:=by unfold Bt;decide
variable{c:Nat}
theorem eq2{n:Int}(h:b=c):Zt [V.int n,V.int (b:Int)] [V.int n,V.int (c:Int)]=true:=by
 subst h;show((n==n)&&(((b:Int)==(b:Int))&&true))=true;simp
variable{d:Int}
theorem q9{k:Nat}{n:Int}(h:Bt k d)(hn:0<n):Bt k (d/n):=by
 refine h.le ?_;rcases jh7 d 0 with c | c
 ·have h1:d/n<0:=Int.ediv_neg_of_neg_of_pos c hn;have h2:d<=d/n:=(Int.le_ediv_iff_mul_le hn).mpr (by
   have:=Int.mul_le_mul_of_nonpos_left (show d<=0 by lia) (show 1<=n by lia);lia)
  lia
 ·have h1:0<=d/n:=jh1 c ⋯;have h2:d/n<=d:=jf3 n c;lia
theorem J4{f:Int->Int->V}{j:Int}(h:Q (f i j) H)(a:0<=i:=by lia)(b:i<18446744073709551616:=by lia)(c:0<=j:=by lia)(d:j<18446744073709551616:=by lia):rI iT f (.int i) (.int j) H Q:=Dq ⟨64,64,CP a b nofun,CP c d nofun,nofun⟩ h
def ir:Sp:=fun vs H Q _=>∃n:Int,An3 (vs=[.int n]) (n<=150000) (Q .non H)
def jB(K:Fr):Sp:=fun vs H Q _=>Ex4 fun(a:Addr) (n z:Int) (b:Nat)=>An8 (vs=[.ref a,.int z]) (SqT K H a [.int n,.int (b:Int)]) (0<n) (n<=300000) (b<2^n.toNat) (0<z) (z<=150000) (∀c:Nat,FZ n.toNat b z.toNat c->Q (.int (c:Int)) H)
theorem wY(b k:Nat):decide (V.int (Builtin.bitAnd ((b:Int)/2^k) 1)=V.int 1)=b.testBit k:=by
 rw[HD,show(1:Int)=((1:Nat):Int) from rfl,DP,Nat.and_one_is_mod,<-AAZ]
 congr 1
 rw[HD];have e:(((b >>> k:Nat):Int)%2)=((b >>> k%2:Nat):Int):=⋯;rw[e];rfl
noncomputable def Sg(b k:Nat):List V:=(List.range k).map fun j=>V.int ((pc b j:Nat):Int)
theorem Mp(b k:Nat):(Sg b k).length=k:=by unfold Sg;simp
theorem Mq{k j:Nat}(h:j<k):(Sg b k)[j]?=some (V.int ((pc b j:Nat):Int)):=by
 unfold Sg;rw[xo,List.getElem?_range h];rfl
theorem jX(k:Nat):(List.replicate k [V.int 0]).flatten=Sg 0 k:=by
 unfold Sg;have:(fun j=>V.int ((pc 0 j:Nat):Int))=fun _=>V.int 0:=by
  funext j
  unfold pc;simp
 rw[this,List.map_const',vt]
 induction k with
 | zero=>rfl
 | succ k ih=>rw[ja5,je8,ih,ja5];rfl
theorem o9{k p:Nat}(h:p/256<k):(Sg b k).set (p/256) (V.int ((pc b (p/256) ||| 2^(p%256):Nat):Int))=Sg (b ||| 2^p) k:=by
 refine List.ext_getElem? fun j=>?_;rw[List.getElem?_set];by_cases hj:j<k
 ·rw[Mq hj];by_cases c:p/256=j
  ·rw[xp c,xp (by rw[Mp];lia)];subst c;rw[Mq hj,pC]
  ·rw[xy c,Mq hj,pA (Ne.symm c)]
 ·have e:∀b,(Sg b k)[j]?=none:=fun b=>jj8 (by rw[Mp];lia);rw[xy ⋯,e,e]
def iu(K:Fr):Sp:=fun vs H Q _=>Ex3 fun(a:Addr) (ds:List Int) (n:Int)=>An5 (vs=[.int n,.ref a]) (SqL K H a (ds.map V.int)) (0<n) (n<=150000) (∀(p:Addr) (b:Nat) (H':Hp),BR H H'->H' p=some (.tup [.int n,.int (b:Int)])->RB n ds b->Q (.ref p) H')
theorem ud{n:Int}(hn:0<n)(hb:b<2^n.toNat):b%2^(256*((n/256+1).toNat))=b:=
 je1 (xk hb (vj nofun ⋯))
structure Bo(f:Bool->Bool->Bool)(n1:Int)(b1:Nat)(n2:Int)(b2:Nat)(z:Int)(c:Nat):Prop where
 lt:c<2^z.toNat
 bit:∀i,i<z.toNat->c.testBit i=f (b1.testBit (i%n1.toNat)) (b2.testBit (i%n2.toNat))
def tY(K:Fr):Sp:=fun vs H Q _=>Ex3 fun(a:Addr) (n:Int) (b:Nat)=>An6 (vs=[.ref a]) (SqT K H a [.int n,.int (b:Int)]) (0<n) (n<=150000) (b<2^n.toNat) (∀(p:Addr) (c:Nat),H p=none->c<2^n.toNat->(∀i,i<n.toNat->c.testBit i=!b.testBit i)->Q (.ref p) (upd H p (.tup [.int n,.int (c:Int)])))
noncomputable def dl(b m:Nat):List Nat:=(List.range m).filter fun i=>b.testBit i
noncomputable def dli(b m:Nat):List Int:=(dl b m).map fun(i:Nat)=>(i:Int)
theorem qW(b m k:Nat):dl b (m+k)=dl b m++((List.range k).filter fun i=>b.testBit (m+i)).map fun i=>m+i:=by
 unfold dl;rw[List.range_add,jr9,List.filter_map];rfl
theorem wB{n:Nat}(hb:b<2^n)(k:Nat):dl b (n+k)=dl b n:=by
 rw[qW];have:((List.range k).filter fun i=>b.testBit (n+i))=[]:=by
  rw[List.filter_eq_nil_iff];intro i _;rw[high hb ⋯];exact zi
 rw[this,jl2,yk]
theorem ABG(b m:Nat):(dl b m).length<=m:=by
 unfold dl;exact zo (jo4 _ _) (by simp)
theorem mem_dl{m i:Nat}:i∈dl b m<->i<m/\b.testBit i=true:=by
 unfold dl;rw[jv1,jd3]
theorem vK{m:Nat}:d∈dli b m<->0<=d/\d<m/\b.testBit d.toNat=true:=by
 unfold dli;rw[yv];constructor
 ·rintro⟨i,hi,rfl⟩;obtain⟨h1,h2⟩:=mem_dl.mp hi;exact⟨⋯,⋯,by rw[zw];exact h2⟩
 ·rintro⟨h1,h2,h3⟩;exact⟨d.toNat,mem_dl.mpr ⟨⋯,h3⟩,⋯⟩
theorem wA(b m:Nat):(dl b m).Pairwise (· < ·):=List.Pairwise.filter _ List.pairwise_lt_range
theorem Zv(b m:Nat):(dli b m).Pairwise (· < ·):=by
 unfold dli;rw[jt4];exact(wA b m).imp fun h=>⋯
theorem X8(b m:Nat):(dli b m).length<=m:=by
 unfold dli;rw[js];exact ABG b m
def nU(K:Fr):Sp:=fun vs H Q _=>Ex3 fun(a:Addr) (n:Int) (b:Nat)=>An6 (vs=[.ref a]) (SqT K H a [.int n,.int (b:Int)]) (0<n) (n<=150000) (b<2^n.toNat) (∀(l:Addr) (H':Hp),H l=none->BR H H'->H' l=some (.lst ((dli b n.toNat).map V.int))->Q (.ref l) H')
theorem jV(b m i:Nat):(Builtin.bitAnd (((b/2^m%2^256:Nat):Int)/2^i) 1 != 0)=(decide (i<256)&&b.testBit (m+i)):=by
 have h:(b/2^m%2^256).testBit i=(decide (i<256)&&b.testBit (m+i)):=by
  rw[jc3,<-ub,ja3]
 rw[HD,show(1:Int)=((1:Nat):Int) from rfl,DP,Nat.and_one_is_mod,<-h,jm9,ub,ko];simp only[bne_iff_ne,decide_eq_true_eq];lia
theorem Zu(b m:Nat):((dli b m).map V.int)++(((((List.range 256).map fun i=>V.int (0+(i:Nat)))).filter fun v=>match v with | .int d=>b.testBit (m+d.toNat) | _=>false).map fun v=>match v with | .int d=>V.int ((m:Int)+d) | _=>.non)=(dli b (m+256)).map V.int:=by
 unfold dli;rw[qW,ve,ve]
 congr 1
 rw[List.filter_map,ua,ua,ua];have e:((fun v:V=>match v with | .int d=>b.testBit (m+d.toNat) | _=>false) ∘ fun i:Nat=>V.int (0+(i:Nat)))=fun i=>b.testBit (m+i):=by
  funext i
  show b.testBit (m+(0+(i:Int)).toNat)=_;rw[show (0+(i:Int)).toNat=i by lia]
 rw[e];refine jq1 fun i _=>?_;show V.int ((m:Int)+(0+(i:Int)))=V.int (((m+i:Nat):Int));rw[show (m:Int)+(0+(i:Int))=((m+i:Nat):Int) by lia]
theorem gb{n:Int}(n0:0<n)(d:Int):d∈dli b n.toNat<->0<=d/\d<n/\On n b d=true:=by
 rw[vK];constructor
 ·rintro⟨h1,h2,h3⟩;refine⟨h1,⋯,?_⟩;unfold On
  rwa [je6 h1 ⋯]
 ·rintro⟨h1,h2,h3⟩;refine⟨h1,⋯,?_⟩;unfold On at h3
  rwa [je6 h1 h2] at h3
theorem kY(xs:List Int):Ij (xs.map V.int) (some 1) none=(xs.drop 1).map V.int:=kh xs 1
theorem kW(xs:List V):Ij xs none (some 1)=xs.take 1:=qd xs 1
theorem qe{b:Addr}{xs ys:List Int}{Z:L2.St}{te:TE}(ha:SqL K H a (xs.map V.int))(hb:SqL K H b (ys.map V.int))(hl:xs.length<sizeLine)(f:Int->Int->Int)
 (he:∀(x y:Int) (H':Hp) (Q':VK),Q' (.int (f x y)) H'->te (some (.int x)::some (.int y)::Z) H' Q')
 (h:∀(D:Addr) (H':Hp),H D=none->BR H H'->H' D=some (.lst ((List.zipWith f xs ys).map V.int))->Q (.ref D) H'):
 Uk 2 (qK K 2 (Vz (Ht 0) (Vz (Ht 1) vf))) eE te Z Q (rT K a b false) H:=by
 intro D hD;have zl:(List.zipWith f xs ys).length=min xs.length ys.length:=List.length_zipWith;refine⟨fun i m zs H2=>i<=min xs.length ys.length/\m=min xs.length ys.length-i/\zs=((List.zipWith f xs ys).take i).map V.int/\H2 D=some (.lst zs)/\BR H H2,⟨_,ka _,rfl,rfl,Ao,Av hD _⟩,?_⟩;rintro i m zs H2 ⟨hi,rfl,rfl,hz,s2⟩;refine⟨hz,?_⟩;by_cases c:i<min xs.length ys.length
 ·have c1:i<xs.length:=⋯
  have c2:i<ys.length:=⋯;have ex:(xs.map V.int)[i]?=some (.int xs[i]):=by rw[xo,qm c1];rfl
  have ey:(ys.map V.int)[i]?=some (.int ys[i]):=by rw[xo,qm c2];rfl
  refine .inr ⟨⟨_,_,_,_,s2.seq ha,s2.seq hb,ex,ey⟩,?_,min xs.length ys.length-(i+1),⋯,?_⟩
  ·rw[js,je0];lia
  rintro v H3 ⟨T,x,y,hT,rfl,rfl,hxy⟩ ρ hρ;obtain⟨gx,gy⟩:=hxy _ _ (s2.seq ha) (s2.seq hb);rw[ex] at gx;rw[ey] at gy;cases gx;cases gy;obtain⟨p,q,rfl⟩:∃p q,ρ=[p,q]:=by
   match ρ,hρ with
   | [p,q],_=>exact⟨p,q,rfl⟩
  refine⟨T,[.int xs[i],.int ys[i]],rfl,SqT.of Ao,rfl,.int xs[i],[.int ys[i]],rfl,.int ys[i],[],rfl,⟨rfl,[some (.int xs[i]),some (.int ys[i])],rfl,rfl,?_⟩⟩;refine JG ?_;rw[xp rfl];have nT:D≠T:=Bx hz hT;refine he _ _ _ _ ⟨by rw[BP nT];exact hz,⋯,rfl,?_,Ao,?_⟩
  ·rw[List.take_succ,ve]
   congr 1
   have:(List.zipWith f xs ys)[i]?=some (f xs[i] ys[i]):=by
    rw[jn2,qm c1,qm c2];rfl
   rw[this];rfl
  ·exact Fp hD (s2.trans (Av hT _))
 ·have e:i=min xs.length ys.length:=⋯
  refine .inl ⟨⟨_,_,s2.seq ha,s2.seq hb,by rw[js,js];exact e⟩,h D H2 hD s2 ?_⟩;rw[hz,va ⋯]
def zO(K:Fr):Sp:=fun vs H Q _=>Ex5 fun(a:Addr) (n f e:Int) (b:Nat)=>An8 (vs=[.ref a,.int f,.int e]) (SqT K H a [.int n,.int (b:Int)]) (0<n) (n<=150000) (b<2^n.toNat) (Bt 250 f) (Bt 250 e) (∀H',BR H H'->Q (.int (CC n b e-CC n b f)) H')
def zM:Sp:=fun vs H Q _=>Ex2 fun(b n:Nat)=>An4 (vs=[.int (b:Int)]) (b<2^n) (n<=150000) (∀H',BR H H'->Q (.int ((cnt b n:Nat):Int)) H')
def uL(K:Fr):Sp:=fun vs H Q _=>Ex4 fun(a:Addr) (n d:Int) (b:Nat)=>An7 (vs=[.ref a,.int d]) (SqT K H a [.int n,.int (b:Int)]) (0<n) (n<=150000) (b<2^n.toNat) (Bt 260 d) (∀H',BR H H'->Q (.int (CC n b d)) H')
theorem gU{w z f:Nat}(w0:0<w)(hf:f<2^z)(S:FZ (2*w) (2^w-1) z c)(k:Nat):Ev w (f/2^k) ((f/2^k) &&& c):=fun i=>by
 rw[jb0];have fl:f/2^k<2^z:=uj (Nat.div_le_self _ _) hf;by_cases h:i<z
 ·rw[S.bit i h,jk0]
 ·rw[high fl ⋯];rfl
structure RC(K:Fr)(CR C:Addr):Prop where
 cl:Cls K C
 k:Dj K C "kept"
 m:Dj K C "made_of"
 w:Dj K C "words"
 ca:PySem.W.findIn K (.ref C) "__class__"=some (some (.builtin "object.__class__"))
 ob:PySem.W.mroIn K C (.type "object")=some true
 isr:PySem.W.kitOne K (.ref C) (.ref CR)=some true
noncomputable def rF(p pm pw:Addr):List (Str×V):=[("kept",.ref p),("made_of",.ref pm),("words",.ref pw)]
structure Cw(K:Fr)(CR:Addr)(CL:List Addr)(H:Hp)(x:Addr)(n:Int)(b:Nat):Prop where
 ex:∃C dx p pm pw,C∈CL/\RC K CR C/\H x=some (.ins C dx (rF p pm pw))/\H p=some (.tup [.int n,.int (b:Int)])
 n0:0<n
 n1:n<=150000
 lt:b<2^n.toNat
variable{x:Addr}{H':Hp}
theorem Cw.same{CR:Addr}{CL:List Addr}{n:Int}(R:Cw K CR CL H x n b)(s:BR H H'):Cw K CR CL H' x n b:=by
 obtain⟨C,dx,p,pm,pw,h1,h2,h3,h4⟩:=R.ex;exact⟨⟨C,dx,p,pm,pw,h1,h2,s _ _ h3,s _ _ h4⟩,R.n0,R.n1,R.lt⟩
def KB(x:Addr)(H H':Hp):Prop:=∀y o,y≠x->H y=some o->H' y=some o
variable{H1:Hp}
theorem KB.pre(s:BR H H1)(k:KB x H1 H'):KB x H H':=fun y o h e=>k y o h (s _ _ e)
variable{o:HO}
theorem Vq{dx:Addr}{o':HO}(hx:H1 x=none)(hd:H1 dx=none)(ne:dx≠x)(k:KB x (upd (upd H1 dx o) x o') H'):BR H1 H':=fun y u e=>by
 have y1:y≠x:=Bx e hx;have y2:y≠dx:=Bx e hd;exact k y u y1 (by rw[BP y1,BP y2];exact e)
def Wx(K:Fr)(CR:Addr):Sp:=fun vs H Q _=>Ex6 fun(x p pm pw C dx:Addr)=>An4 (vs=[.ref x,.ref p,.ref pm,.ref pw]) (H x=some (.ins C dx [])) (RC K CR C) (∀H',KB x H H'->H' x=some (.ins C dx (rF p pm pw))->Q .non H')
def Lb(K:Fr)(CR:Addr)(CL:List Addr)(C:Addr)(H:Hp)(x:Addr)(Q:VK)(n:Int)(G:Nat->Prop):Prop:=(∃dx,H x=some (.ins C dx []))/\∀(b:Nat) H',KB x H H'->Cw K CR CL H' x n b->G b->Q .non H'
def ACU(K:Fr)(CR:Addr)(CL:List Addr)(C:Addr)(b0:Nat):Sp:=fun vs H Q _=>∃x,vs=[.ref x]/\Lb K CR CL C H x Q 1 (fun b=>b=b0)
def Ku(K:Fr)(CR:Addr)(CL:List Addr):Sp:=fun vs H Q _=>Ex3 fun(x:Addr) (n:Int) (b:Nat)=>An3 (vs=[.ref x]) (Cw K CR CL H x n b) (∀p,H p=some (.tup [.int n,.int (b:Int)])->Q (.ref p) H)
def eX(K:Fr)(CR:Addr)(CL:List Addr):Sp:=fun vs H Q _=>Ex4 fun(x:Addr) (n d:Int) (b:Nat)=>An3 (vs=[.ref x,.int d]) (Cw K CR CL H x n b) (Q (.bl (On n b d)) H)
variable{p:Addr}
theorem Fy{CR:Addr}{CL:List Addr}{C dx pm pw:Addr}{H2:Hp}{n:Int}(hC:C∈CL)(R:RC K CR C)(hx:H2 x=some (.ins C dx []))(hp:H2 p=some (.tup [.int n,.int (b:Int)]))(k:KB x H2 H')(e:H' x=some (.ins C dx (rF p pm pw)))(n0:0<n)(n1:n<=150000)(lt:b<2^n.toNat):Cw K CR CL H' x n b:=
 ⟨⟨C,dx,p,pm,pw,hC,R,e,k _ _ (Hh hp hx (fun z=>nomatch z)) hp⟩,n0,n1,lt⟩
structure yO(K:Fr)(H:Hp)(a1 a2:Addr)(n1 n2:Int)(b1 b2:Nat):Prop where
 s1:SqT K H a1 [.int n1,.int (b1:Int)]
 s2:SqT K H a2 [.int n2,.int (b2:Int)]
 p1:0<n1
 p2:0<n2
 l1:n1<=150000
 l2:n2<=150000
 k1:b1<2^n1.toNat
 k2:b2<2^n2.toNat
def ADs(K:Fr):Sp:=fun vs H Q _=>Ex6 fun(a1 a2:Addr) (n1 n2:Int) (b1 b2:Nat)=>An9 (vs=[.ref a1,.ref a2]) (SqT K H a1 [.int n1,.int (b1:Int)]) (SqT K H a2 [.int n2,.int (b2:Int)]) (0<n1) (0<n2) (n1<=150000) (n2<=150000) (CQ n1 n2<=150000) (∀H',BR H H'->Q (.int (CQ n1 n2)) H')
def PL(K:Fr):Sp:=fun vs H Q _=>Ex4 fun(a:Addr) (n z:Int) (b:Nat)=>An9 (vs=[.ref a,.int z]) (SqT K H a [.int n,.int (b:Int)]) (0<n) (n<=150000) (b<2^n.toNat) (0<z) (z<=150000) (n∣z) (∀(p:Addr) (c:Nat),H p=none->FZ n.toNat b z.toNat c->Q (.ref p) (upd H p (.tup [.int z,.int (c:Int)])))
def uE(K:Fr):Sp:=fun vs H Q _=>Ex4 fun(a:Addr) (n num:Int) (b:Nat)=>An6 (vs=[.ref a,.int num]) (SqT K H a [.int n,.int (b:Int)]) (0<n) (n<=150000) (b<2^n.toNat) (∀p,H p=none->Q (.ref p) (upd H p (.tup [.int n,.int ((lat n.toNat b (num%n).toNat:Nat):Int)])))
theorem Xv{n:Int}(n0:0<n)(z0:0<z)(h:n∣z):CQ n z=z:=by
 have f:=Bj n0 z0;have h1:CQ n z∣z:=f.2.2.2.2.1 _ h (Xs _);exact Int.dvd_antisymm ⋯ ⋯ h1 f.2.2.1
noncomputable abbrev Rel:=Int->Nat->Int->Nat->Int->Nat->Prop
noncomputable abbrev rH:=Int->Nat->Int->Nat->Int->Prop
def WR(U:rH):Rel:=fun n1 b1 n2 b2 z c=>∀d,On z c d=true<->U n1 b1 n2 b2 d
variable{n1 n2:Int}{b1 b2:Nat}
theorem Bo.on{f:Bool->Bool->Bool}(B:Bo f n1 b1 n2 b2 z c)(h1:0<n1)(h2:0<n2)(hz:0<z)(d1:n1∣z)(d2:n2∣z)(d:Int):On z c d=f (On n1 b1 d) (On n2 b2 d):=by
 have k1:=qh d (show z≠0 by lia);have k2:=qg d hz;have m:∀n:Int,0<n->n∣z->(d%z).toNat%n.toNat=(d%n).toNat:=fun n hn hd=>by
  have e:(d%z)%n=d%n:=je3 d hd;have h3:=qh d (show n≠0 by lia);have k:(((d%z).toNat%n.toNat:Nat):Int)=d%z%n:=by
   rw[Zp];have a1:((d%z).toNat:Int)=d%z:=⋯;have a2:(n.toNat:Int)=n:=⋯;rw[a1,a2]
  rw[e] at k;lia
 unfold On;rw[B.bit _ ⋯,m n1 h1 d1,m n2 h2 d2]
theorem Bo.self{f:Bool->Bool->Bool}(B:Bo f z b1 z b2 z c)(h:0<z)(d:Int):On z c d=f (On z b1 d) (On z b2 d):=B.on h h h (Xs z) (Xs z) d
theorem Xk{c':Nat}(h:c<2^z.toNat)(h':c'<2^z.toNat)(e:∀d,On z c d=true<->On z c' d=true):c=c':=Ni h h' fun i hi=>by
 have:=e (i:Int);unfold On at this;rw[je6 ⋯ ⋯,zw] at this;exact ko.mpr this
theorem Bo.uniq{f:Bool->Bool->Bool}{c':Nat}(B:Bo f n1 b1 n2 b2 z c)(B':Bo f n1 b1 n2 b2 z c'):c=c':=Ni B.lt B'.lt fun i hi=>by rw[B.bit i hi,B'.bit i hi]
theorem RB.uniq{n:Int}{ds:List Int}{b':Nat}(B:RB n ds b)(B':RB n ds b'):b=b':=Xk B.lt B'.lt fun d=>by rw[B.bit,B'.bit]
def OtR(n:Int)(b c:Nat):Prop:=c<2^n.toNat/\∀i,i<n.toNat->c.testBit i=!b.testBit i
theorem OtR.uniq{n:Int}{c':Nat}(h:OtR n b c)(g:OtR n b c'):c=c':=Ni h.1 g.1 fun i hi=>by rw[h.2 i hi,g.2 i hi]
noncomputable def ltr(n:Int)(b:Nat)(s:Int):Nat:=lat n.toNat b (s%n).toNat
theorem Za{n:Int}(n0:0<n)(h:∀i,i<n.toNat->c.testBit i=!b.testBit i)(d:Int):On n c d=!On n b d:=by
 have h1:=qh d (show n≠0 by lia);have h2:=qg d n0;unfold On;exact h _ ⋯
def UpJ(e:Int):rH:=fun n1 b1 n2 b2 d=>On n1 b1 d=true/\∃j:Nat,On n2 b2 (d-e*(j:Int))=true/\∀i:Nat,0<i->i<=j->On n1 b1 (d-e*(i:Int))=false
variable{e:Int}
theorem lr{cr cs l g:Nat}(oR:∀d,On z cr d=On n1 b1 d)(oS:∀d,On z cs d=On n2 b2 d)(oL:∀d,On z l d=On z cr (d-e))(og:∀d,On z g d=true<->Gat (On z cs) (On z l) e d)(d:Int):(On z cr d=true/\On z g d=true)<->UpJ e n1 b1 n2 b2 d:=by
 have sh:∀i:Nat,d-e*(i:Int)-e=d-e*((i+1:Nat):Int):=fun i=>by rw[ui,ja2];simp;lia
 rw[oR,og];refine and_congr_right fun _=>⟨fun ⟨j,ht,hb⟩=>⟨j,by rw[<-oS];exact ht,fun i i0 hi=>?_⟩,fun⟨j,ht,hb⟩=>⟨j,by rw[oS];exact ht,fun i hi=>by rw[oL,oR,sh];exact hb _ ⋯ ⋯⟩⟩;obtain⟨k,rfl⟩:∃k,i=k+1:=⟨i-1,⋯⟩;have:=hb k ⋯
 rwa [oL,oR,sh] at this
theorem lq{t ce:Nat}:UpJ 1 n1 t n2 ce d<->GUp (On n1 t) (On n2 ce) d:=by
 refine and_congr_right fun _=>?_;constructor
 ·rintro⟨j,h1,h2⟩;refine⟨_,h1,⋯,fun r r1 r2=>?_⟩;have:=h2 (d-r).toNat ⋯ ⋯;rw[show d-1*(((d-r).toNat:Nat):Int)=r by lia] at this;exact this
 ·rintro⟨s,h1,h2,h3⟩;exact⟨(d-s).toNat,by rw[show d-1*(((d-s).toNat:Nat):Int)=s by lia];exact h1,fun i i0 hi=>h3 _ ⋯ ⋯⟩
theorem d9{t ce:Nat}:UpJ (-1) n1 t n2 ce d<->GUn (On n1 t) (On n2 ce) d:=by
 refine and_congr_right fun _=>?_;constructor
 ·rintro⟨j,h1,h2⟩;refine⟨_,h1,⋯,fun r r1 r2=>?_⟩;have:=h2 (r-d).toNat ⋯ ⋯;rw[show d- -1*(((r-d).toNat:Nat):Int)=r by lia] at this;exact this
 ·rintro⟨s,h1,h2,h3⟩;exact⟨(s-d).toNat,by rw[show d- -1*(((s-d).toNat:Nat):Int)=s by lia];exact h1,fun i i0 hi=>h3 _ ⋯ ⋯⟩
def TiU:rH:=fun n1 b1 n2 b2 d=>GTi (On n1 b1) (On n2 b2) d
def NrU:rH:=fun n1 b1 n2 b2 d=>GNr (On n1 b1) (On n2 b2) d
def KtU(k:Int):rH:=fun n1 b1 n2 b2 d=>Kth n1 b1 n2 b2 k d
noncomputable def bn(a b:Bool):Bool:=a&&!b
theorem KR{T B:Int->Bool}(k:Nat)(d:Int)(u v:Bool)(hu:u=true<->Gt T B e k d)(hv:v=true<->Gt T B e k (d-e*(k:Int))/\Fre B e k d):(or u v=true<->Gt T B e (2*k) d):=by
 rw[Gt.step,jh0,hu,hv]
theorem Zj{T B:Int->Bool}(k:Nat)(d:Int)(u v:Bool)(hu:u=true<->cG T B e k d%2=1)(hv:v=true<->cG T B e k (d-e*(k:Int))%2=1/\Fre B e k d):((xor u v)=true<->cG T B e (2*k) d%2=1):=by
 rw[ABO,<-hu,<-hv];cases u<;>cases v<;>simp
theorem qw{T B:Int->Bool}:T d=true<->cG T B e 1 d%2=1:=by
 unfold cG;cases T d<;>simp[cG]
theorem pR{p:Int}{t g t' ce kk:Nat}(hB:∀d,Bar (On z ce) e z.toNat d)(kn:z.toNat<=kk)(og:∀d,On z g d=true<->cG (On z t) (On z ce) e kk d%2=1)(oB:∀d,On z c d=(On z t d&&On z g d))(p1:1<p)(h1:p%2=1->∀d,On z t' d=On z c d)(h2:¬p%2=1->∀d,On z t' d=(On z t d&&!On z c d))(d:Int):
 (On z t' d=true/\(cG (On z t') (On z ce) e z.toNat d:Int)=(p+1)/2)<->(On z t d=true/\(cG (On z t) (On z ce) e z.toNat d:Int)=p):=by
 have oc:∀d,On z c d=true<->On z t d=true/\cG (On z t) (On z ce) e z.toNat d%2=1:=fun d=>by
  rw[oB,yy,og,YK (hB d) kn]
 by_cases h:p%2=1
 ·have hT:∀d,On z t' d=true<->On z t d=true/\cG (On z t) (On z ce) e z.toNat d%2=1:=fun d=>by rw[h1 h,oc]
  rw[qx hB hT z.toNat d (hB d),hT];generalize cG (On z t) (On z ce) e z.toNat d=m;constructor
  ·rintro⟨⟨g1,g2⟩,g3⟩;exact⟨g1,⋯⟩
  ·rintro⟨g1,g2⟩;exact⟨⟨g1,⋯⟩,⋯⟩
 ·have hT:∀d,On z t' d=true<->On z t d=true/\cG (On z t) (On z ce) e z.toNat d%2=0:=fun d=>by
   rw[h2 h,yy,jt2,<-jp0,oc];generalize cG (On z t) (On z ce) e z.toNat d=m;constructor
   ·rintro⟨g1,g2⟩;refine⟨g1,?_⟩;by_cases o:m%2=1
    ·exact absurd ⟨g1,o⟩ g2
    ·lia
   ·rintro⟨g1,g2⟩;exact⟨g1,fun⟨_,o⟩=>⋯⟩
  rw[iC hB hT z.toNat d (hB d),hT];generalize cG (On z t) (On z ce) e z.toNat d=m;constructor
  ·rintro⟨⟨g1,g2⟩,g3⟩;exact⟨g1,⋯⟩
  ·rintro⟨g1,g2⟩;exact⟨⟨g1,⋯⟩,⋯⟩
theorem du(z d:Int):On z 0 d=false:=by
 unfold On;exact jf5 _
theorem vU{k p p0:Int}{t ce:Nat}(z0:0<z)(d2:n2∣z)(h1:0<n1)(k0:k≠0)(hek:e=if 0<k then 1 else -1)(ap:p0=(k.natAbs:Int))(oe:∀d,On z ce d=On n2 b2 (if 0<k then d else d+1))
 (hT:(∀d,Bar (On z ce) e z.toNat d)->∀d,(On z t d=true/\(cG (On z t) (On z ce) e z.toNat d:Int)=p)<->(On n1 b1 d=true/\(cG (On n1 b1) (On z ce) e z.toNat d:Int)=p0))(hp:p=1\/t=0)(d:Int):
 Kth n1 b1 n2 b2 k d<->UpJ e z t z ce d:=by
 unfold UpJ;have he:e=1\/e= -1:=by split at hek<;>lia
 by_cases hx:∃x,On n2 b2 x=true
 ·obtain⟨x,hx⟩:=hx;have pe:∀u v:Int,z∣u-v->On n2 b2 u=On n2 b2 v:=fun u v h=>Lk (jk2 d2 h);have hU:∀d,Bar (On n2 b2) 1 z.toNat d:=fun d=>rB z0 pe hx (.inl rfl) d;have hD:∀d,Bar (fun d=>On n2 b2 (d+1)) (-1) z.toNat d:=fun d=>rB (B:=fun d=>On n2 b2 (d+1)) z0 (fun u v h=>pe _ _ (by rw[show u+1-(v+1)=u-v by lia];exact h)) (x:=x-1) (by show On n2 b2 (x-1+1)=true;rw[show x-1+1=x by lia];exact hx) (.inr rfl) d;have key:(∀d,Bar (On z ce) e z.toNat d)/\(Kth n1 b1 n2 b2 k d<->On n1 b1 d=true/\cG (On n1 b1) (On z ce) e z.toNat d=k.natAbs):=by
   have kk:=AAl (n1:=n1) (b1:=b1) (d:=d) (k:=k) (B:=fun d=>On n2 b2 (d+1)) (fun _=>rfl) h1 hU hD k0;by_cases c:0<k
   ·have fe:On z ce=On n2 b2:=funext fun d=>by rw[oe,xp c]
    rw[xp c] at hek kk;rw[fe,hek];exact⟨hU,kk⟩
   ·have fe:On z ce=fun d=>On n2 b2 (d+1):=funext fun d=>by rw[oe,xy c]
    rw[xy c] at hek kk;rw[fe,hek];exact⟨hD,kk⟩
  obtain⟨hB,kk⟩:=key;have hTd:=hT hB d;rw[kk];have e1:(On n1 b1 d=true/\cG (On n1 b1) (On z ce) e z.toNat d=k.natAbs)<->(On n1 b1 d=true/\(cG (On n1 b1) (On z ce) e z.toNat d:Int)=p0):=by
   refine and_congr_right fun _=>?_;lia
  rw[e1,<-hTd];rcases hp with rfl | rfl
  ·refine and_congr_right fun td=>?_;rw[<-ABP hB td];lia
  ·rw[du];simp
 ·constructor
  ·rintro⟨_,b,_,hb,_⟩;exact absurd ⟨b,hb⟩ hx
  ·rintro⟨_,j,hj,_⟩;rw[oe] at hj;exact absurd ⟨_,hj⟩ hx
section
variable(K:Fr)
def spJ(R:Rel):Sp:=fun vs H Q _=>Ex6 fun(a1 a2:Addr) (n1 n2:Int) (b1 b2:Nat)=>An4 (vs=[.ref a1,.ref a2]) (yO K H a1 a2 n1 n2 b1 b2) (CQ n1 n2<=150000) (∀(p:Addr) (c:Nat) (H':Hp),BR H H'->H' p=some (.tup [.int (CQ n1 n2),.int (c:Int)])->c<2^(CQ n1 n2).toNat->R n1 b1 n2 b2 (CQ n1 n2) c->Q (.ref p) H')
def ADp(mg:Str->Option Value)(L:List (Str×Sp)):Sp:=fun vs H Q _=>ADb fun(a1 a2 f:Addr) (n e:Int) (b c:Nat) (x:Str) (J:Bool->Bool->Bool) (G:Nat->Int->Prop)=>ADh (vs=[.ref a1,.ref a2,.int e,.ref f]) ((x,spJ K (Bo J))∈L) (mg x=some (.ref f)) (H a1=some (.tup [.int n,.int (b:Int)])) (SqT K H a2 [.int n,.int (c:Int)]) (0<n) (n<=150000) (b<2^n.toNat) (c<2^n.toNat) (e=1\/e= -1) (∀d,On n b d=true<->G 1 d) (∀k d u v,(u=true<->G k d)->(v=true<->G k (d-e*(k:Int))/\Fre (On n c) e k d)->(J u v=true<->G (2*k) d)) (∀(p:Addr) (g:Nat) (H':Hp) (k:Nat),n.toNat<=k->BR H H'->H' p=some (.tup [.int n,.int (g:Int)])->g<2^n.toNat->(∀d,On n g d=true<->G k d)->Q (.ref p) H')
def ACO:Sp:=fun vs H Q _=>Ex3 fun(a:Addr) (n:Int) (b:Nat)=>An6 (vs=[.ref a]) (SqT K H a [.int n,.int (b:Int)]) (0<n) (n<=150000) (b<2^n.toNat) (∀(p:Addr) (c:Nat) (H':Hp),BR H H'->H' p=some (.tup [.int n,.int (c:Int)])->c<2^n.toNat->(∀d,On n c d=true<->Wh (On n b) d)->Q (.ref p) H')
def ADo:Sp:=fun vs H Q _=>Ex7 fun(k:Int) (a1 a2:Addr) (n1 n2:Int) (b1 b2:Nat)=>An5 (vs=[.int k,.ref a1,.ref a2]) (yO K H a1 a2 n1 n2 b1 b2) (k≠0) (CQ n1 n2<=150000) (∀(p:Addr) (c:Nat) (H':Hp),BR H H'->H' p=some (.tup [.int (CQ n1 n2),.int (c:Int)])->c<2^(CQ n1 n2).toNat->WR (KtU k) n1 b1 n2 b2 (CQ n1 n2) c->Q (.ref p) H')
def ADq:Sp:=fun vs H Q _=>Ex5 fun(k d:Int) (a:Addr) (n:Int) (b:Nat)=>ABh (vs=[.int k,.ref a,.int d]) (SqT K H a [.int n,.int (b:Int)]) (0<n) (n<=150000) (b<2^n.toNat) (Bt 250 d) (Bt 400 k) (1<=k) (n*k<=150000) (∀(p:Addr) (c:Nat) (H':Hp),BR H H'->H' p=some (.tup [.int (n*k),.int (c:Int)])->c<2^(n*k).toNat->(∀e,On (n*k) c e=true<->Evr n b k d e)->Q (.ref p) H')
end
theorem gJ{n k:Int}(hn:0<n)(hk:0<k):k<=n*k:=by
 have:=ke (show 1<=n by lia) (ja0 hk);lia
theorem vP{n k:Int}(hn:0<n)(hk:0<k):n<=n*k:=by
 have:=Zl (show 1<=k by lia) (ja0 hn);lia
noncomputable def tmV(t:Tm):List V:=[.int t.1,.int t.2.1,.int t.2.2.1,.int t.2.2.2]
inductive Tms(H:Hp):List V->List Tm->Prop
 | nil:Tms H [] []
 | cons {p:Addr} {t:Tm} {vs:List V} {ts:List Tm}:H p=some (.tup (tmV t))->Tms H vs ts->Tms H (.ref p::vs) (t::ts)
theorem Tms.same(s:BR H H'):∀{vs:List V} {ts:List Tm},Tms H vs ts->Tms H' vs ts
 | _,_,.nil=>.nil
 | _,_,.cons h t=>.cons (s _ _ h) (Tms.same s t)
theorem Tms.len:∀{vs:List V} {ts:List Tm},Tms H vs ts->vs.length=ts.length
 | _,_,.nil=>rfl
 | _,_,.cons _ t=>by rw[qr,qr,Tms.len t]
theorem Tms.mem{x:V}:∀{vs:List V} {ts:List Tm},Tms H vs ts->x∈vs->∃p t,x=.ref p/\t∈ts/\H p=some (.tup (tmV t))
 | _,_,.nil,h=>nomatch h
 | _,_,.cons g r,h=>by
  rcases zh.mp h with e | e
  ·exact⟨_,_,e,qf,g⟩
  ·obtain⟨p,t,e1,e2,e3⟩:=Tms.mem r e;exact⟨p,t,e1,qk _ e2,e3⟩
theorem Tms.at:∀{vs:List V} {ts:List Tm},Tms H vs ts->∀{i:Nat} {x:V},vs[i]?=some x->∃p t,x=.ref p/\ts[i]?=some t/\H p=some (.tup (tmV t))
 | _,_,.nil,i,x,h=>by simp at h
 | _,_,.cons g r,0,x,h=>by
  injection h with h;exact⟨_,_,h.symm,rfl,g⟩
 | _,_,.cons g r,i+1,x,h=>Tms.at r (i:=i) h
noncomputable def Um(H:Hp)(v:V):Option Tm:=match v with
 | .ref p=>match H p with
  | some (.tup [.int s,.int a,.int b,.int n])=>some (s,a,b,n)
  | _=>none
 | _=>none
theorem JD{t:Tm}(h:H p=some (.tup (tmV t))):Um H (.ref p)=some t:=by
 unfold Um tmV at*
 simp only[h]
theorem Tms.fm(g:Tm->Bool)(f:Tm->V):∀{vs:List V} {ts:List Tm},Tms H vs ts->(vs.filter fun v=>((Um H v).map g).getD false).map (fun v=>((Um H v).map f).getD .non)=(ts.filter g).map f
 | _,_,.nil=>rfl
 | _,_,.cons (p:=p) (t:=t) h r=>by
  rw[jj1,jj1,JD h];show(if g t=true then _ else _:List V).map _=_;by_cases c:g t=true
  ·rw[xp c,xp c,zv,zv,Tms.fm g f r,JD h];rfl
  ·rw[xy c,xy c,Tms.fm g f r]
theorem rG{t:Tm}:atI (tmV t) 0=some (V.int t.1):=rfl
theorem rE{t:Tm}:atI (tmV t) 1=some (V.int t.2.1):=rfl
theorem wX{t:Tm}:atI (tmV t) 2=some (V.int t.2.2.1):=rfl
theorem VP{t:Tm}:atI (tmV t) 3=some (V.int t.2.2.2):=rfl
structure TmT(K:Fr)(H:Hp)(p:Addr)(ts:List Tm):Prop where
 ex:∃vs,SqT K H p vs/\Tms H vs ts
 ok:∀t∈ts,OkT t
 few:ts.length<=6
variable{ts:List Tm}
theorem TmT.same(T:TmT K H p ts)(s:BR H H'):TmT K H' p ts:=by
 obtain⟨vs,h1,h2⟩:=T.ex;exact⟨⟨vs,s.tup h1,h2.same s⟩,T.ok,T.few⟩
def mz:Sp:=fun vs H Q _=>Ex3 fun(p:Addr) (k:Int) (t:Tm)=>An5 (vs=[.ref p,.int k]) (H p=some (.tup (tmV t))) (OkT t) (Bt 400 k) (Q (.bl (onT t k)) H)
def tQ(K:Fr):Sp:=fun vs H Q _=>Ex3 fun(p:Addr) (k:Int) (ts:List Tm)=>An4 (vs=[.ref p,.int k]) (TmT K H p ts) (Bt 400 k) (∀H',BR H H'->Q (.int (SU ts k)) H')
def nQ:Sp:=fun vs H Q _=>Ex2 fun(p:Addr) (t:Tm)=>An4 (vs=[.ref p]) (H p=some (.tup (tmV t))) (OkT t) (Q (.bl true) H)
def uC(K:Fr):Sp:=fun vs H Q _=>Ex3 fun(p:Addr) (b:Int) (ts:List Tm)=>An3 (vs=[.int b,.ref p]) (TmT K H p ts) (∀H',BR H H'->Q (.int (b-falls ts)) H')
structure We(b:Int)(ts:List Tm):Prop where
 b0:0<=b
 b1:b<=20000
 fl:falls ts<=b
def iw(K:Fr):Sp:=fun vs H Q _=>Ex3 fun(p:Addr) (b:Int) (ts:List Tm)=>An4 (vs=[.int b,.ref p]) (TmT K H p ts) (We b ts) (∀H',BR H H'->Q .non H')
def nH(K:Fr):Sp:=fun vs H Q _=>Ex2 fun(p:Addr) (ts:List Tm)=>An3 (vs=[.ref p]) (TmT K H p ts) (∀H',BR H H'->Q (.int (PER ts)) H')
theorem Ml(h:∀t∈ts,OkT t):∀(i:Nat),i<=6->0<PER (ts.take i)/\PER (ts.take i)<=1000^i
 | 0,_=>⟨(show (0:Int)<1 by decide),(show (1:Int)<=1 by decide)⟩
 | i+1,hi=>by
  obtain⟨h1,h2⟩:=Ml h i ⋯;rw[ky];cases e:ts[i]? with
  | none=>
   simp only[Option.toList_none,yk];refine⟨h1,jo2 h2 ?_⟩;rw[Int.pow_succ];have:(0:Int)<1000^i:=Int.pow_pos nofun;lia
  | some t=>
   have ok:=h t (qv e);have e2:PER (ts.take i++(some t).toList)=CQ (PER (ts.take i)) t.2.2.2:=by
    unfold PER;rw[jc4,jt3];rfl
   rw[e2];have n0:=ok.n0;refine⟨(Bj h1 ⋯).1,jo2 (vQ h1 ⋯) ?_⟩;rw[Int.pow_succ];exact ki h2 ok.n1 ⋯ (ja0 (Int.pow_pos nofun))
theorem AAR{i:Nat}(h:i<=6):(1000:Int)^i<=1000000000000000000:=by
 have:=vj (n:=1000) nofun h;rw[show(1000:Int)^i=((1000^i:Nat):Int) from(jh3 1000 i).symm];lia
theorem fW(h:∀t∈ts,OkT t):∀(i:Nat),i<=6->∀t∈ts.take i,t.2.2.2∣PER (ts.take i)
 | 0,_=>fun t ht=>by simp at ht
 | i+1,hi=>by
  obtain⟨h1,_⟩:=Ml h i ⋯;have ih:=fW h i ⋯;rw[ky];cases e:ts[i]? with
  | none=>
   simp only[Option.toList_none,yk];exact ih
  | some u=>
   have ok:=h u (qv e);have e2:PER (ts.take i++(some u).toList)=CQ (PER (ts.take i)) u.2.2.2:=by
    unfold PER;rw[jc4,jt3];rfl
   have n0:=ok.n0;have f:=Bj h1 (show 0<u.2.2.2 by lia);rw[e2];intro t ht;rcases yb.mp ht with z | z
   ·exact jk2 (ih t z) f.2.1
   ·rw[jc4,xb] at z;subst z;exact f.2.2.1
noncomputable def mF(b:Int)(p:Addr)(c s:Int):List (Str×V):=[("base",.int b),("terms",.ref p),("full_count",.int c),("full_sum",.int s)]
structure Me(K:Fr)(C:Addr)(H:Hp)(x:Addr)(b:Int)(ts:List Tm):Prop where
 ex:∃dx p,H x=some (.ins C dx (mF b p (PER ts) (UP b ts (PER ts))))/\TmT K H p ts
 gd:We b ts
 po:0<UP b ts (PER ts)
def yz(K:Fr)(C:Addr):Sp:=fun vs H Q _=>Ex7 fun(x p dx:Addr) (k b:Int) (ts:List Tm) (fs:List (Str×V))=>An9 (vs=[.ref x,.int k]) (H x=some (.ins C dx fs)) (fs.lookup (Str.ofString "base")=some (V.int b)) (fs.lookup (Str.ofString "terms")=some (V.ref p)) (TmT K H p ts) (0<=b) (b<=20000) (Bt 400 k) (∀H',BR H H'->Q (.int (UP b ts k)) H')
def W0(K:Fr)(C:Addr):Sp:=fun vs H Q _=>Ex6 fun(x dx:Addr) (b:Int) (v:V) (us:List V) (ts:List Tm)=>An9 (vs=[.ref x,.int b,v]) (H x=some (.ins C dx [])) (Tms H us ts) (( v=.non/\us=[])\/∃l,v=.ref l/\H l=some (.lst us)) (∀t∈ts,OkT t) (ts.length<=6) (We b ts) (0<UP b ts (PER ts)) (∀H',(∀y o,y≠x->H y=some o->H' y=some o)->Me K C H' x b ts->Q .non H')
theorem Me.same{C:Addr}{b:Int}(M:Me K C H x b ts)(s:BR H H'):Me K C H' x b ts:=by
 obtain⟨dx,p,e,T⟩:=M.ex;exact⟨⟨dx,p,s _ _ e,T.same s⟩,M.gd,M.po⟩
theorem Me.meth{C:Addr}{b:Int}(M:Me K C H x b ts):∃dx fs,H x=some (.ins C dx fs)/\fs.lookup (Str.ofString "seek")=none/\fs.lookup (Str.ofString "at")=none/\fs.lookup (Str.ofString "upto")=none/\fs.lookup (Str.ofString "period")=none:=by
 obtain⟨dx,p,e,T⟩:=M.ex;exact⟨dx,_,e,rfl,rfl,rfl,rfl⟩
def ADt(K:Fr)(C:Addr):Sp:=fun vs H Q _=>Ex4 fun(x:Addr) (k b:Int) (ts:List Tm)=>An4 (vs=[.ref x,.int k]) (Me K C H x b ts) (Bt 400 k) (∀H',BR H H'->Q (.int (AT b ts k)) H')
def ACJ(K:Fr)(C:Addr):Sp:=fun vs H Q _=>Ex3 fun(x:Addr) (b:Int) (ts:List Tm)=>An3 (vs=[.ref x]) (Me K C H x b ts) (Q (.int (PER ts)) H)
theorem Xy{C:Addr}{dx:Addr}{b:Int}{v:V}{us:List V}(hx:H1 x=none)(hdx:H1 dx=none)(ne:dx≠x)(hT:Tms H1 us ts)(hv:(v=.non/\us=[])\/∃l,v=.ref l/\H1 l=some (.lst us))(ok:∀t∈ts,OkT t)(few:ts.length<=6)(g:We b ts)(po:0<UP b ts (PER ts))
 (q:∀H',BR H1 H'->Me K C H' x b ts->Q .non H'):W0 K C [.ref x,.int b,v] (upd (upd H1 dx (.own x)) x (.ins C dx [])) Q E:=by
 have k4:BR H1 (upd (upd H1 dx (.own x)) x (.ins C dx [])):=(Av hdx _).trans (Av (by rw[BP (Ne.symm ne)];exact hx) _);have x4:upd (upd H1 dx (.own x)) x (.ins C dx []) x=some (.ins C dx []):=Ao;refine⟨x,dx,b,v,us,ts,rfl,x4,hT.same k4,?_,ok,few,g,po,fun H5 k5 M=>q _ (fun y o h=>k5 y o (fun e=>by subst e;rw[hx] at h;cases h) (k4 y o h)) M⟩;rcases hv with z | ⟨l,z,e⟩
 ·exact .inl z
 ·exact .inr ⟨l,z,k4 _ _ e⟩
def But(l:Addr)(H H':Hp):Prop:=∀y o,y≠l->H y=some o->H' y=some o
variable{l:Addr}
theorem But.upd:But l H (L2.upd H l o):=fun y o hy h=>by rw[BP hy];exact h
structure NoT(o:HO):Prop where
 t:∀vs,o≠.tup vs
 f:∀ob u,o≠.frz ob u
variable{xs:List V}
theorem NoT.lst:NoT (.lst xs):=⟨fun _ z=>(nomatch z),fun _ _ z=>(nomatch z)⟩
theorem NoT.ins{C d:Addr}{fs:List (Str×V)}:NoT (.ins C d fs):=⟨fun _ z=>(nomatch z),fun _ _ z=>(nomatch z)⟩
theorem Tms.but(hl:H l=some o)(no:NoT o)(k:But l H H'):∀{vs:List V} {ts:List Tm},Tms H vs ts->Tms H' vs ts
 | _,_,.nil=>.nil
 | _,_,.cons g r=>.cons (k _ _ (Hh g hl (Ne.symm (no.t _))) g) (Tms.but hl no k r)
theorem eV{vs:List V}(hl:H l=some o)(no:NoT o)(k:But l H H')(h:SqT K H p vs):SqT K H' p vs:=by
 rcases h with (h | ⟨o,h⟩) | h
 ·exact .inl (.inl (k _ _ (Hh h hl (Ne.symm (no.t _))) h))
 ·exact .inl (.inr ⟨o,k _ _ (Hh h hl (Ne.symm (no.f _ _))) h⟩)
 ·exact .inr h
theorem TmT.but(hl:H l=some o)(no:NoT o)(k:But l H H')(T:TmT K H p ts):TmT K H' p ts:=by
 obtain⟨vs,h1,h2⟩:=T.ex;exact⟨⟨vs,eV hl no k h1,h2.but hl no k⟩,T.ok,T.few⟩
theorem Me.butX{C:Addr}{b:Int}(M:Me K C H x b ts)(hl:H l=some o)(no:NoT o)(ne:x≠l)(k:But l H H'):Me K C H' x b ts:=by
 obtain⟨dx,p,e,T⟩:=M.ex;exact⟨⟨dx,p,k _ _ ne e,T.but hl no k⟩,M.gd,M.po⟩
theorem Me.but{C:Addr}{b:Int}(M:Me K C H x b ts)(hl:H l=some (.lst xs))(k:But l H H'):Me K C H' x b ts:=by
 obtain⟨dx,p,e,T⟩:=M.ex;exact M.butX hl .lst (Hh e hl (by intro z;cases z)) k
theorem Hj.gm{ls:List Int}{lp:Int}(g:Hj ls lp ts):We ls.sum ts:=⟨g.sum.1,g.sum.2,ja0 g.f1⟩
theorem RD(ok:∀t∈ts,OkT t)(few:ts.length<=6):0<PER ts/\PER ts<=1000000000000000000/\∀t∈ts,t.2.2.2∣PER ts:=by
 obtain⟨h1,h2⟩:=Ml ok 6 nofun;have hd:=fW ok 6 nofun;rw[va few] at h1 h2 hd;exact⟨h1,jo2 h2 (AAR nofun),hd⟩
theorem Hj.po{ls:List Int}{lp:Int}(g:Hj ls lp ts):0<UP ls.sum ts (PER ts):=YS g.ok g.f1 (RD g.ok g.few).1
noncomputable def sF(s lp:Int)(p y:Addr):List (Str×V):=[("start",.int s),("months",.ref p),("leap",.int lp),("years",.ref y)]
structure JB(K:Fr)(CS CM:Addr)(H:Hp)(x:Addr)(s:Int)(ls:List Int)(lp:Int)(ts:List Tm):Prop where
 ex:∃dx p y,H x=some (.ins CS dx (sF s lp p y))/\SqT K H p (ls.map V.int)/\Me K CM H y ls.sum ts
 gd:Hj ls lp ts
 bs:Bt 290 s
section
variable{K:Fr}{CS CM:Addr}{H H':Hp}{x:Addr}{s:Int}{ls:List Int}{lp:Int}{ts:List Tm}
theorem JB.same(S:JB K CS CM H x s ls lp ts)(e:BR H H'):JB K CS CM H' x s ls lp ts:=by
 obtain⟨dx,p,y,h1,h2,h3⟩:=S.ex;exact⟨⟨dx,p,y,e _ _ h1,e.tup h2,h3.same e⟩,S.gd,S.bs⟩
theorem JB.but(S:JB K CS CM H x s ls lp ts)(hl:H l=some (.lst xs))(k:But l H H'):JB K CS CM H' x s ls lp ts:=by
 obtain⟨dx,p,y,h1,h2,h3⟩:=S.ex;exact⟨⟨dx,p,y,k _ _ (Hh h1 hl (by intro z;cases z)) h1,eV hl .lst k h2,h3.but hl k⟩,S.gd,S.bs⟩
theorem JB.meth(S:JB K CS CM H x s ls lp ts):∃dx fs,H x=some (.ins CS dx fs)/\fs.lookup (Str.ofString "year_start")=none/\fs.lookup (Str.ofString "year_at")=none/\fs.lookup (Str.ofString "lengths")=none/\fs.lookup (Str.ofString "cycle")=none/\fs.lookup (Str.ofString "date_of")=none/\fs.lookup (Str.ofString "day_of")=none:=by
 obtain⟨dx,p,y,e,_⟩:=S.ex;exact⟨dx,_,e,rfl,rfl,rfl,rfl,rfl,rfl⟩
end
def tU(K:Fr):Sp:=fun vs H Q _=>Ex4 fun(l:Addr) (lp:Int) (ls:List Int) (ts:List Tm)=>An4 (vs=[.ref l,.int lp]) (SqL K H l (ls.map V.int)) (Hj ls lp ts) (Q .non H)
def Q6(K:Fr)(CS CM:Addr):Sp:=fun vs H Q _=>Ex9 fun(x dx ll:Addr) (s lp:Int) (v:V) (us:List V) (ls:List Int) (ts:List Tm)=>An8 (vs=[.ref x,.int s,.ref ll,.int lp,v]) (H x=some (.ins CS dx [])) (H ll=some (.lst (ls.map V.int))) (Tms H us ts) (( v=.non/\us=[])\/∃l,v=.ref l/\H l=some (.lst us)) (Hj ls lp ts) (Bt 290 s) (∀H',(∀y o,y≠x->H y=some o->H' y=some o)->JB K CS CM H' x s ls lp ts->Q .non H')
theorem qF{CS CM:Addr}{dx ll:Addr}{s lp:Int}{v:V}{us:List V}{ls:List Int}(hx:H1 x=none)(hdx:H1 dx=none)(ne:dx≠x)(hl:H1 ll=some (.lst (ls.map V.int)))(hT:Tms H1 us ts)(hv:(v=.non/\us=[])\/∃l,v=.ref l/\H1 l=some (.lst us))(g:Hj ls lp ts)(bs:Bt 290 s)
 (q:∀H',BR H1 H'->JB K CS CM H' x s ls lp ts->Q .non H'):Q6 K CS CM [.ref x,.int s,.ref ll,.int lp,v] (upd (upd H1 dx (.own x)) x (.ins CS dx [])) Q E:=by
 have k4:BR H1 (upd (upd H1 dx (.own x)) x (.ins CS dx [])):=(Av hdx _).trans (Av (by rw[BP (Ne.symm ne)];exact hx) _);have x4:upd (upd H1 dx (.own x)) x (.ins CS dx []) x=some (.ins CS dx []):=Ao;refine⟨x,dx,ll,s,lp,v,us,ls,ts,rfl,x4,k4 _ _ hl,hT.same k4,?_,g,bs,fun H5 k5 M=>q _ (fun y o h=>k5 y o (fun e=>by subst e;rw[hx] at h;cases h) (k4 y o h)) M⟩;rcases hv with z | ⟨l,z,e⟩
 ·exact .inl z
 ·exact .inr ⟨l,z,k4 _ _ e⟩
def ABz(K:Fr)(CS CM:Addr):Sp:=fun vs H Q _=>Ex6 fun(x:Addr) (n s:Int) (ls:List Int) (lp:Int) (ts:List Tm)=>An4 (vs=[.ref x,.int n]) (JB K CS CM H x s ls lp ts) (Bt 390 n) (∀H',BR H H'->Q (.int (s+UP ls.sum ts n)) H')
def nO(K:Fr)(CS CM:Addr):Sp:=fun vs H Q _=>Ex6 fun(x:Addr) (n s:Int) (ls:List Int) (lp:Int) (ts:List Tm)=>An4 (vs=[.ref x,.int n]) (JB K CS CM H x s ls lp ts) (Bt 390 n) (∀(p:Addr) H',H p=none->BR H H'->H' p=some (.lst ((VR ls lp ts n).map V.int))->Q (.ref p) H')
def xV(K:Fr)(CS CM:Addr):Sp:=fun vs H Q _=>Ex5 fun(x:Addr) (s:Int) (ls:List Int) (lp:Int) (ts:List Tm)=>An3 (vs=[.ref x]) (JB K CS CM H x s ls lp ts) (∀(p:Addr) H',BR H H'->H' p=some (.tup [.int (PER ts),.int (UP ls.sum ts (PER ts))])->Q (.ref p) H')
theorem yN{n:Nat}{b:Int}(h:∀t∈ts,OkT t)(b0:0<=b)(b1:b<=20000)(few:ts.length<=6){k:Int}(bk:Bt n k):Bt (n+16) (UP b ts k):=by
 have:=rK h b0 b1 few (k:=k) (K:=(k.natAbs:Int)) ⋯ ⋯;unfold Bt at*
 rw[jq6];lia
noncomputable def moF(s:Int)(d m:Addr):List (Str×V):=[("start",.int s),("days",.ref d),("many",.ref m)]
structure Gm(K:Fr)(CO CM:Addr)(H:Hp)(x:Addr)(s bd:Int)(td:List Tm)(bm:Int)(tm:List Tm):Prop where
 ex:∃dx d m,H x=some (.ins CO dx (moF s d m))/\Me K CM H d bd td/\Me K CM H m bm tm
 gd:Im bd td bm tm
 bs:Bt 290 s
section
variable{K:Fr}{CO CM:Addr}{H H':Hp}{x:Addr}{s bd:Int}{td:List Tm}{bm:Int}{tm:List Tm}
theorem Gm.same(S:Gm K CO CM H x s bd td bm tm)(e:BR H H'):Gm K CO CM H' x s bd td bm tm:=by
 obtain⟨dx,d,m,h1,h2,h3⟩:=S.ex;exact⟨⟨dx,d,m,e _ _ h1,h2.same e,h3.same e⟩,S.gd,S.bs⟩
theorem Gm.but(S:Gm K CO CM H x s bd td bm tm)(hl:H l=some (.lst xs))(k:But l H H'):Gm K CO CM H' x s bd td bm tm:=by
 obtain⟨dx,d,m,h1,h2,h3⟩:=S.ex;exact⟨⟨dx,d,m,k _ _ (Hh h1 hl (by intro z;cases z)) h1,h2.but hl k,h3.but hl k⟩,S.gd,S.bs⟩
theorem Gm.meth(S:Gm K CO CM H x s bd td bm tm):∃dx fs,H x=some (.ins CO dx fs)/\fs.lookup (Str.ofString "year_start")=none/\fs.lookup (Str.ofString "year_at")=none/\fs.lookup (Str.ofString "lengths")=none/\fs.lookup (Str.ofString "cycle")=none/\fs.lookup (Str.ofString "date_of")=none/\fs.lookup (Str.ofString "day_of")=none:=by
 obtain⟨dx,d,m,e,_⟩:=S.ex;exact⟨dx,_,e,rfl,rfl,rfl,rfl,rfl,rfl⟩
end
def tR(K:Fr)(C:Addr):Sp:=fun vs H Q _=>Ex4 fun(y:Addr) (b g:Int) (ts:List Tm)=>An5 (vs=[.ref y,.int g]) (Me K C H y b ts) (falls ts<b) (b<=g) (∀H',BR H H'->Q .non H')
def Yr(K:Fr)(CO CM:Addr):Sp:=fun vs H Q _=>Ex9 fun(x dx d m:Addr) (s bd bm:Int) (td tm:List Tm)=>An7 (vs=[.ref x,.int s,.ref d,.ref m]) (H x=some (.ins CO dx [])) (Me K CM H d bd td) (Me K CM H m bm tm) (Im bd td bm tm) (Bt 290 s) (∀H',(∀y o,y≠x->H y=some o->H' y=some o)->Gm K CO CM H' x s bd td bm tm->Q .non H')
theorem jz{CO CM:Addr}{dx d m:Addr}{s bd bm:Int}{td tm:List Tm}(hx:H1 x=none)(hdx:H1 dx=none)(ne:dx≠x)(hd:Me K CM H1 d bd td)(hm:Me K CM H1 m bm tm)(g:Im bd td bm tm)(bs:Bt 290 s)
 (q:∀H',BR H1 H'->Gm K CO CM H' x s bd td bm tm->Q .non H'):Yr K CO CM [.ref x,.int s,.ref d,.ref m] (upd (upd H1 dx (.own x)) x (.ins CO dx [])) Q E:=by
 have k4:BR H1 (upd (upd H1 dx (.own x)) x (.ins CO dx [])):=(Av hdx _).trans (Av (by rw[BP (Ne.symm ne)];exact hx) _);have x4:upd (upd H1 dx (.own x)) x (.ins CO dx []) x=some (.ins CO dx []):=Ao;exact⟨x,dx,d,m,s,bd,bm,td,tm,rfl,x4,hd.same k4,hm.same k4,g,bs,fun H5 k5 M=>q _ (fun y o h=>k5 y o (fun e=>by subst e;rw[hx] at h;cases h) (k4 y o h)) M⟩
def xT(K:Fr)(CO CM:Addr):Sp:=fun vs H Q _=>Ex7 fun(x:Addr) (n s bd bm:Int) (td tm:List Tm)=>An4 (vs=[.ref x,.int n]) (Gm K CO CM H x s bd td bm tm) (Bt 370 n) (∀H',BR H H'->Q (.int (MYS s bd td bm tm n)) H')
def eY(K:Fr)(CO CM:Addr):Sp:=fun vs H Q _=>Ex7 fun(x:Addr) (n s bd bm:Int) (td tm:List Tm)=>An4 (vs=[.ref x,.int n]) (Gm K CO CM H x s bd td bm tm) (Bt 370 n) (∀(p:Addr) H',H p=none->BR H H'->H' p=some (.lst ((dZ bd td bm tm n).map V.int))->Q (.ref p) H')
theorem kZ(xs:List Int){j:Nat}(hj:j<=xs.length):Ij (xs.map V.int) none (some (j:Int))=(xs.take j).map V.int:=by
 unfold Ij;rw[HT.sIx_none,HT.sIx_nat,js,jm6 hj,jk4,jv6,List.map_take]
def Ey(K:Fr)(CS CO CM:Addr)(H:Hp)(x:Addr):Bs->Prop
 | .sun s ls lp ts=>JB K CS CM H x s ls lp ts
 | .moon s bd td bm tm=>Gm K CO CM H x s bd td bm tm
noncomputable def ADJ:Bs->Bool
 | .sun .. =>true
 | .moon .. =>false
section
variable{K:Fr}{CS CO CM:Addr}{H H':Hp}{x:Addr}{d:Bs}
theorem Ey.same(S:Ey K CS CO CM H x d)(e:BR H H'):Ey K CS CO CM H' x d:=by
 cases d with
 | sun s ls lp ts=>exact JB.same S e
 | moon s bd td bm tm=>exact Gm.same S e
theorem Ey.but(S:Ey K CS CO CM H x d)(hl:H l=some (.lst xs))(k:But l H H'):Ey K CS CO CM H' x d:=by
 cases d with
 | sun s ls lp ts=>exact JB.but S hl k
 | moon s bd td bm tm=>exact Gm.but S hl k
theorem Ey.good(S:Ey K CS CO CM H x d):d.good:=by
 cases d with
 | sun s ls lp ts=>exact JB.gd S
 | moon s bd td bm tm=>exact Gm.gd S
theorem Ey.ys(S:Ey K CS CO CM H x d):∃C dx fs sp,(C,sp)∈[(CS,ABz K CS CM),(CO,xT K CO CM)]/\H x=some (.ins C dx fs)/\fs.lookup (Str.ofString "year_start")=none/\
 ∀{H2:Hp} {n:Int} {Q:VK} {E:XK},Ey K CS CO CM H2 x d->Bt 370 n->(∀H',BR H2 H'->Q (.int (d.Y n)) H')->sp [.ref x,.int n] H2 Q E:=by
 cases d with
 | sun s ls lp ts=>
  obtain⟨dx,fs,e,m⟩:=JB.meth S;exact⟨CS,dx,fs,_,qf,e,m.1,fun S2 bn q=>⟨x,_,s,ls,lp,ts,rfl,S2,bn.mono nofun,q⟩⟩
 | moon s bd td bm tm=>
  obtain⟨dx,fs,e,m⟩:=Gm.meth S;exact⟨CO,dx,fs,_,qk _ qf,e,m.1,fun S2 bn q=>⟨x,_,s,bd,bm,td,tm,rfl,S2,bn,q⟩⟩
theorem Ey.le(S:Ey K CS CO CM H x d):∃C dx fs sp,(C,sp)∈[(CS,nO K CS CM),(CO,eY K CO CM)]/\H x=some (.ins C dx fs)/\fs.lookup (Str.ofString "lengths")=none/\
 ∀{H2:Hp} {n:Int} {Q:VK} {E:XK},Ey K CS CO CM H2 x d->Bt 370 n->(∀(p:Addr) H',H2 p=none->BR H2 H'->H' p=some (.lst ((d.L n).map V.int))->Q (.ref p) H')->sp [.ref x,.int n] H2 Q E:=by
 cases d with
 | sun s ls lp ts=>
  obtain⟨dx,fs,e,m⟩:=JB.meth S;exact⟨CS,dx,fs,_,qf,e,m.2.2.1,fun S2 bn q=>⟨x,_,s,ls,lp,ts,rfl,S2,bn.mono nofun,q⟩⟩
 | moon s bd td bm tm=>
  obtain⟨dx,fs,e,m⟩:=Gm.meth S;exact⟨CO,dx,fs,_,qk _ qf,e,m.2.2.1,fun S2 bn q=>⟨x,_,s,bd,bm,td,tm,rfl,S2,bn,q⟩⟩
end
section
variable{K:Fr}{CS CO CM:Addr}{H H':Hp}{x:Addr}{d:Bs}
end
def ACN:Sp:=fun _ _ _ _=>False
noncomputable def oI(o:Option Int):V:=match o with | none=>.non | some i=>.int i
def okM(m:Option Int):Prop:=∀i,m=some i->1<=i
def nM(K:Fr)(CO CM:Addr):Sp:=fun vs H Q _=>Ex6 fun(x:Addr) (s bd bm:Int) (td tm:List Tm)=>An3 (vs=[.ref x]) (Gm K CO CM H x s bd td bm tm) (∀(p:Addr) H',BR H H'->H' p=some (.tup [.int (PER tm*moT td bm tm),.int (UP bd td (UP bm tm (PER tm)*moT td bm tm))])->Q (.ref p) H')
theorem Ey.cyc{CS CO CM:Addr}{d:Bs}(S:Ey K CS CO CM H x d):∃C dx fs sp,(C,sp)∈[(CS,xV K CS CM),(CO,nM K CO CM)]/\H x=some (.ins C dx fs)/\fs.lookup (Str.ofString "cycle")=none/\
 ∀{H2:Hp} {Q:VK} {E:XK},Ey K CS CO CM H2 x d->(∀(p:Addr) H',BR H2 H'->H' p=some (.tup [.int d.cy.1,.int d.cy.2])->Q (.ref p) H')->sp [.ref x] H2 Q E:=by
 cases d with
 | sun s ls lp ts=>
  obtain⟨dx,fs,e,m⟩:=JB.meth S;exact⟨CS,dx,fs,_,qf,e,m.2.2.2.1,fun S2 q=>⟨x,s,ls,lp,ts,rfl,S2,q⟩⟩
 | moon s bd td bm tm=>
  obtain⟨dx,fs,e,m⟩:=Gm.meth S;exact⟨CO,dx,fs,_,qk _ qf,e,m.2.2.2.1,fun S2 q=>⟨x,s,bd,bm,td,tm,rfl,S2,q⟩⟩
noncomputable def plD(n i:Int):Int:=if 0<i then i-1 else n+i
noncomputable def X7(f n:Int)(d:Option Int):List Int:=match d with
 | none=>(List.range n.toNat).map fun i:Nat=>f+(i:Int)
 | some i=>if plD n i<0\/n<=plD n i then [] else [f+plD n i]
noncomputable def yrL:List Int->Int->Int->Option Int->Option Int->List Int
 | [],_,_,_,_=>[]
 | n::ls,f,k,m,i=>(if m=none\/m=some k then X7 f n i else [])++yrL ls (f+n) (k+1) m i
theorem Wo{M:Int}:∀{ls:List Int},(∀n∈ls,0<=n/\n<=M)->0<=ls.sum/\ls.sum<=M*(ls.length:Int)
 | [],_=>⟨kx _,by simp⟩
 | a::ls,h=>by
  have:=Wo (ls:=ls) fun n hn=>h n (qk _ hn);have:=h a qf;have e:M*((a::ls).length:Int)=M*(ls.length:Int)+M:=by
   rw[qr,show((ls.length+1:Nat):Int)=(ls.length:Int)+1 by lia,ja2,jb6]
  rw[kq,e];lia
theorem RL:∀(l1 l2:List Int) (f k:Int) (m i:Option Int),yrL (l1++l2) f k m i=yrL l1 f k m i++yrL l2 (f+l1.sum) (k+(l1.length:Int)) m i
 | [],l2,f,k,m,i=>by
  show yrL l2 f k m i=[]++yrL l2 (f+0) (k+0) m i;rw[jh4,jd5,jd5]
 | n::l1,l2,f,k,m,i=>by
  show _++yrL (l1++l2) (f+n) (k+1) m i=(_++yrL l1 (f+n) (k+1) m i)++_;rw[RL l1 l2,Zs,kq,qr,show f+(n+l1.sum)=f+n+l1.sum by lia,show k+((l1.length+1:Nat):Int)=k+1+(l1.length:Int) by lia]
theorem lV{ls:List Int}{j:Nat}{n:Int}(h:ls[j]?=some n)(f:Int)(m i:Option Int):yrL (ls.take (j+1)) f 1 m i=yrL (ls.take j) f 1 m i++(if m=none\/m=some (1+(j:Int)) then X7 (f+PS ls j) n i else []):=by
 have hj:=(zk.mp h).1;rw[ky,h,jc4,RL,je0,jm6 ⋯];show _++(_++[])=_;rw[yk];rfl
theorem gZ{f n:Int}(n0:0<=n)(i:Option Int):((X7 f n i).length:Int)<=n:=by
 unfold X7;cases i with
 | none=>
  simp only[js,vt];lia
 | some i=>
  simp only[];generalize plD n i=pl;split<;>simp<;>lia
theorem aX:∀(ls:List Int) (f k:Int) (m i:Option Int),(∀n∈ls,0<=n)->((yrL ls f k m i).length:Int)<=ls.sum
 | [],f,k,m,i,_=>kx _
 | n::ls,f,k,m,i,h=>by
  have a:=aX ls (f+n) (k+1) m i fun x hx=>h x (qk _ hx);have n0:=h n qf;have b:=gZ (f:=f) n0 i;show(((if m=none\/m=some k then X7 f n i else [])++yrL ls (f+n) (k+1) m i).length:Int)<=(n::ls).sum;rw[ze,kq];split
  ·lia
  ·rw[jj9];lia
def tM:Sp:=fun vs H Q _=>Ex3 fun(m d:Option Int) (st:Int)=>An5 (vs=[oI m,oI d,.int st]) (okM m) (d≠some 0) (1<=st) (Q .non H)
def uJ:Sp:=fun vs H Q _=>Ex3 fun(f n:Int) (d:Option Int)=>An4 (vs=[.int f,.int n,oI d]) (0<=n) (n<=10000) (∀(l:Addr) (H':Hp),H l=none->BR H H'->H' l=some (.lst ((X7 f n d).map V.int))->Q (.ref l) H')
def uI(K:Fr)(CS CO CM:Addr):Sp:=fun vs H Q _=>Ex5 fun(x:Addr) (d:Bs) (y:Int) (m i:Option Int)=>An4 (vs=[.ref x,.int y,oI m,oI i]) (Ey K CS CO CM H x d) (Bt 370 y) (∀(l:Addr) (H':Hp),H l=none->BR H H'->H' l=some (.lst ((yrL (d.L y) (d.Y y) 1 m i).map V.int))->Q (.ref l) H')
noncomputable def dtL(g:Bs)(m i:Option Int):Nat->List Int
 | 0=>[]
 | k+1=>dtL g m i k++yrL (g.L (k:Int)) (g.Y (k:Int)) 1 m i
structure SmC(g:Bs):Prop where
 y0:1<=g.cy.1
 y1:g.cy.1<=10
 d0:1<=g.cy.2
 d1:g.cy.2<=64
def Ys(K:Fr)(CS CO CM:Addr):Sp:=fun vs H Q _=>Ex4 fun(x:Addr) (g:Bs) (m i:Option Int)=>An6 (vs=[.ref x,oI m,oI i,.int 1,.int 0]) (Ey K CS CO CM H x g) (SmC g) (okM m) (i≠some 0) (∀(p:Addr) (c:Nat) (H':Hp),BR H H'->H' p=some (.tup [.int g.cy.2,.int (c:Int)])->RB g.cy.2 (dtL g m i g.cy.1.toNat) c->Q (.ref p) H')
noncomputable def cpl(z:Str):List Nat:=z.cps.toList
theorem G8{y z:Str}(h:cpl y=cpl z):y=z:=by
 cases y;cases z;simp only[cpl] at h;exact ya Str.mk (jf2.mp h)
noncomputable def HQ(cs:List Nat):List Nat:=if cs.head?=some 45 then cs.drop 1 else cs
structure Nm(cs:List Nat):Prop where
 lo:1<=(HQ cs).length
 hi:(HQ cs).length<=60
 dg:∀c∈HQ cs,48<=c/\c<=57
 z0:(HQ cs).head?=some 48->cs=[48]
noncomputable def J7(cs:List Nat):Int:=if cs.head?=some 45 then -((PySem.NumText.digitsVal (HQ cs):Nat):Int) else ((PySem.NumText.digitsVal (HQ cs):Nat):Int)
theorem Et(z:Str):(cpl z).length=z.length:=kr
theorem Ou{z:Str}(h:Nm (cpl z)):PySem.intText? z=some (J7 (cpl z)):=by
 have hl:z.length<=4300:=by
  have:=h.hi;rw[<-Et];unfold HQ at this;split at this
  ·rw[jb3] at this;lia
  ·lia
 unfold J7;by_cases e:(cpl z).head?=some 45
 ·rw[xp e];have ef:HQ (cpl z)=(cpl z).drop 1:=by unfold HQ;rw[xp e]
  have hz:z.cps.toList=45::(cpl z).drop 1:=by
   show cpl z=_;generalize cpl z=cs at e;cases cs with
   | nil=>cases e
   | cons a r=>
    injection e with e;rw[e];rfl
  rw[ef];refine PySem.intText_neg hz (fun c hc=>h.dg c (by rw[ef];exact hc)) (fun z0=>?_) hl;have:=h.lo;rw[ef,z0] at this;simp at this
 ·rw[xy e];have ef:HQ (cpl z)=cpl z:=by unfold HQ;rw[xy e]
  rw[ef];refine PySem.intText_digits (fun c hc=>h.dg c (by rw[ef];exact hc)) (fun z0=>?_) hl;have:=h.lo;rw[ef] at this;have z1:cpl z=[]:=z0;rw[z1] at this;simp at this
theorem PN{z:Str}(h:1<=z.length):cpl (Txt.slice z (some 1) none)=(cpl z).drop 1:=by
 rw[slice_from_eq (b:=(z.length:Int)) nofun (by omega) rfl];show((List.drop 1 z.cps.toList).take ((z.length:Int)-1).toNat)=_;rw[va]
 ·rfl
 ·rw[jb3];have:z.cps.toList.length=z.length:=Et z;omega
theorem jC(z:Str):cpl (Txt.slice z none (some 1))=(cpl z).take 1:=by
 by_cases h:1<=z.length
 ·have e:=slice_closes_toL (x:=z) (j:=1) nofun ⋯;rw[eq_of_beq e];rfl
 ·have e0:(cpl z).length=0:=by rw[Et];lia
  have e1:(cpl (Txt.slice z none (some 1))).length=0:=by
   have:=Txt.slice_le z none (some 1);rw[Et];lia
  rw[jc2.mp e0,jc2.mp e1];rfl
theorem jD{z:Str}{lo hi:Option Int}(h:c∈cpl (Txt.slice z lo hi)):c∈cpl z:=by
 unfold Txt.slice at h;split at h
 ·exact h
 ·simp only[cpl] at h;obtain⟨i,_,hi⟩:=js0.mp h;have hi':z.cps.toList[i]?=some c:=by rw[Array.getElem?_toList];exact hi
  exact qv hi'
theorem GF{z:Str}:asc z=true<->∀c∈cpl z,c<128:=by
 unfold asc cpl;rw[Array.all_eq_true'];simp[Array.mem_toList_iff]
theorem Ws{z:Str}(h:1<=z.length\/True):Txt.startswith z "-"=decide ((cpl z).head?=some 45):=by
 have ey:(Str.ofString "-")=⟨#[45]⟩:=∅;rw[ey];unfold Txt.startswith Builtin.Str.subAt;show(decide (0+1<=z.length)&&(z.cps.extract 0 (0+1)== #[45]))=_;rw[ko,yy,decide_eq_true_eq,decide_eq_true_eq,jc0];have el:(cpl z).length=z.length:=Et z;have ex:(z.cps.extract 0 (0+1)).toList=(cpl z).take 1:=by
  rw[Array.toList_extract];simp[cpl,List.extract_eq_drop_take]
 constructor
 ·rintro⟨_,e⟩;rw[e] at ex;generalize cpl z=cs at ex;cases cs with
  | nil=>cases ex
  | cons a r=>
   injection ex with e1 _;rw[e1];rfl
 ·intro e;cases hc:cpl z with
  | nil=>rw[hc] at e;cases e
  | cons a r=>
   rw[hc] at e ex el;injection e with e;rw[qr] at el;refine⟨⋯,jf2.mp ?_⟩;rw[ex,e];rfl
theorem wD(c:Nat):c∈cpl "0123456789"<->48<=c/\c<=57:=by
 have e:cpl "0123456789"=List.range' 48 10:=∅;rw[e,List.mem_range'_1];lia
theorem qG(c:Nat):(!(Builtin.Str.occurrences "0123456789" ⟨#[c]⟩ 0 (Str.ofString "0123456789").length 1).isEmpty)=decide (48<=c/\c<=57):=by
 rw[StrLaws.found_one,ko,decide_eq_true_eq,decide_eq_true_eq];exact wD c
structure TOk(z:Str):Prop where
 asc:asc z=true
 len:z.length<=1000000
theorem TOk.fit{z:Str}(h:TOk z):z.length<=sizeLine:=zo h.len nofun
theorem TOk.slice{z:Str}(h:TOk z)(lo hi:Option Int):TOk (Txt.slice z lo hi):=⟨GF.mpr fun c hc=>GF.mp h.asc c (jD hc),zo (Txt.slice_le z lo hi) h.len⟩
inductive Hnd(H:Hp):V->Prop
 | txt (z:Str):TOk z->Hnd H (.str z)
 | non:Hnd H .non
 | int (i:Int):Hnd H (.int i)
 | tup (a:Addr) (xs:List V):H a=some (.tup xs)->Hnd H (.ref a)
 | lst (a:Addr) (xs:List V):H a=some (.lst xs)->Hnd H (.ref a)
noncomputable def isT(v:V):Bool:=match v with | .str _=>true | _=>false
theorem AAn(K:Fr):PySem.W.kitOne K (.type "str") (.type "str")=some true:=by unfold PySem.W.kitOne;rw[xp (by simp)]
theorem AAo(K:Fr):PySem.W.kitOne K (.type "NoneType") (.type "str")=some false:=by first | rfl | ac_rfl | with_unfolding_all rfl
theorem vW(K:Fr):PySem.W.kitOne K (.type "int") (.type "str")=some false:=by first | rfl | ac_rfl | with_unfolding_all rfl
theorem AAm(K:Fr):PySem.W.kitOne K (.type "tuple") (.type "str")=some false:=by first | rfl | ac_rfl | with_unfolding_all rfl
theorem AAp(K:Fr):PySem.W.kitOne K (.type "list") (.type "str")=some false:=by first | rfl | ac_rfl | with_unfolding_all rfl
theorem bw{v:V}(h:Hnd H v)(q:Q (.bl (isT v)) H):AAG K [v,.ty "str"] H Q:=by
 cases h with
 | txt z hz=>exact Ry (.str z) (AAn K) q
 | non=>exact Ry .non (AAo K) q
 | int i=>exact Ry (.int i) (vW K) q
 | tup a xs e=>exact Ry (.tup e) (AAm K) q
 | lst a xs e=>exact Ry (.lst e) (AAp K) q
def uF:Sp:=fun vs H Q _=>∃z:Str,An3 (vs=[.str z]) (TOk z) (∀(v:Bool) (H':Hp),BR H H'->(v=true<->Nm (cpl z))->Q (.bl v) H')
theorem Kz(a b:Str):cpl (a++b)=cpl a++cpl b:=by
 show(a.cps++b.cps).toList=_;rw[jp9];rfl
theorem Oq(h1: -1000000000000000000000000000000000000000000000000000000000000<=i)(h2:i<=1000000000000000000000000000000000000000000000000000000000000):i.natAbs.log2<1920:=by
 have b:Bt 200 i:=bt_of h1 h2;unfold Bt at b;by_cases z:i.natAbs=0
 ·rw[z];decide
 ·exact xk ((Nat.log2_lt z).mpr b) nofun
theorem four{a b c d:V}:([a,b,c,d]:List V).length<=sizeLine:=by show 4<=sizeLine;decide
theorem dT(n:Nat):cpl (DY (n:Int))=(Nat.toDigits 10 n).map Char.toNat:=by
 unfold DY cpl;rw[signs_ofString];have e:(toString (Int.ofNat n)).toList=Nat.toDigits 10 n:=by
  show(Nat.repr n).toList=_;rw[jq7]
 exact ya (List.map Char.toNat) e
theorem ofNat_toNat{cs:List Nat}(h:∀c∈cs,48<=c/\c<=57):(cs.map Char.ofNat).map Char.toNat=cs:=by
 rw[ua]
 conv=>rhs;rw[<-List.map_id cs]
 refine jq1 fun c hc=>?_;exact(by decide:∀c<58,(Char.toNat ∘ Char.ofNat) c=c) c (Nat.lt_succ_of_le (h c hc).2)
theorem canon{cs:List Nat}(h:∀c∈cs,48<=c/\c<=57)(ne:cs≠[])(z:cs.head?=some 48->cs=[48]):cpl (DY ((PySem.NumText.digitsVal cs:Nat):Int))=cs:=by
 rw[dT];obtain⟨c,r,rfl⟩:∃c r,cs=c::r:=by
  cases cs with
  | nil=>exact absurd rfl ne
  | cons c r=>exact⟨c,r,rfl⟩
 have hc:=h c qf;rw[PySem.NumText.toDigits_digitsVal r.length (c::r) (by simp) h (by
  by_cases e:c=48
  ·have:=z (by rw[e];rfl);injection this with _ e2;exact .inl (by rw[e2];rfl)
  ·exact .inr ⟨c,r,rfl,⋯⟩)]
 exact ofNat_toNat h
theorem lA{cs:List Nat}(h:∀c∈cs,48<=c/\c<=57)(ne:cs≠[]):cpl (DY ((PySem.NumText.digitsVal cs:Nat):Int))=cs<->(cs.head?=some 48->cs=[48]):=by
 refine⟨fun e z=>?_,canon h ne⟩;refine js7 fun hn=>?_;obtain⟨r,rfl⟩:∃r,cs=48::r:=by
  cases cs with
  | nil=>exact absurd rfl ne
  | cons c r=>
   injection z with z;exact⟨r,by rw[z]⟩
 have rn:r≠[]:=fun y=>hn (by rw[y]);have dr:∀c∈r,48<=c/\c<=57:=fun c hc=>h c (qk _ hc);have ev:PySem.NumText.digitsVal (48::r)=PySem.NumText.digitsVal r:=rfl;rw[dT,ev,PySem.NumText.toDigits_all r dr] at e;have l:r.length+1=(match r.dropWhile (· ==48) with | []=>['0'] | c::r=>(c::r).map Char.ofNat).length:=by
  have:=ya List.length e;rw[js,qr] at this;exact this.symm
 have d:(r.dropWhile (· ==48)).length<=r.length:=(jn1 _).length_le;have r1:1<=r.length:=by
  cases r with
  | nil=>exact absurd rfl rn
  | cons _ _=>simp
 cases hd:r.dropWhile (· ==48) with
 | nil=>
  rw[hd] at l;have l':r.length+1=1:=l;lia
 | cons a b=>
  rw[hd] at l d;have l':r.length+1=((a::b).map Char.ofNat).length:=l;rw[js] at l';lia
theorem cg(n:Nat):(∀c∈cpl (DY (n:Int)),48<=c/\c<=57)/\cpl (DY (n:Int))≠[]/\PySem.NumText.digitsVal (cpl (DY (n:Int)))=n:=by
 rw[dT];refine⟨fun c hc=>?_,fun e=>?_,PySem.W.KIN.val_back n⟩
 ·obtain⟨ch,hch,e⟩:=yv.mp hc;have r:=digit_range (jq3 nofun nofun hch);lia
 ·have:=ya List.length e;rw[js] at this;have p:=Nat.length_toDigits_pos (b:=10) (n:=n);rw[jj9] at this;lia
def spR(sp:Sp)(d:Nat):Sp:=fun vs H Q E=>0<d/\sp vs H Q E
theorem Yo{sp:Sp}{vs:List V}(h:spR sp 0 vs H Q E):False:=absurd h.1 nofun
theorem Cw.mt{CR:Addr}{CL:List Addr}{n:Int}(R:Cw K CR CL H x n b):∃C dx fs,(∀sp:Sp,(C,sp)∈CL.map fun c=>(c,sp))/\H x=some (.ins C dx fs)/\fs.lookup (Str.ofString "turn")=none/\fs.lookup (Str.ofString "size")=none/\fs.lookup (Str.ofString "on")=none:=by
 obtain⟨C,dx,p,pm,pw,h1,h2,h3,h4⟩:=R.ex;exact⟨C,dx,_,fun sp=>yv.mpr ⟨C,h1,rfl⟩,h3,rfl,rfl,rfl⟩
theorem wF{cs:List Nat}(h:∀c∈cs,48<=c/\c<=57):cs.head?≠some 45:=by
 cases cs with
 | nil=>exact fun z=>nomatch z
 | cons a r=>
  intro z;injection z with z;have:=h a qf;lia
theorem ABI{n:Nat}(h:n<10^60):(cpl (DY (n:Int))).length<=60:=by
 rw[dT,js];exact(jr6 nofun nofun).mpr h
theorem HN{cs:List Nat}(h:cs.head?≠some 45):HQ cs=cs:=by unfold HQ;rw[xy h]
theorem sI{cs:List Nat}(h:cs.head?≠some 45):J7 cs=((PySem.NumText.digitsVal cs:Nat):Int):=by unfold J7;rw[xy h,HN h]
theorem TQ{y:Int}(h:y.natAbs<10^60):Nm (cpl (DY y))/\J7 (cpl (DY y))=y/\HQ (cpl (DY y))=cpl (DY ((y.natAbs:Nat):Int)):=by
 have id:=cg y.natAbs;have dl:=ABI h;have z0:(cpl (DY ((y.natAbs:Nat):Int))).head?=some 48->cpl (DY ((y.natAbs:Nat):Int))=[48]:=by
  have c:=(lA id.1 id.2.1).mp (by rw[id.2.2]);exact c
 have l1:1<=(cpl (DY ((y.natAbs:Nat):Int))).length:=by
  cases hh:cpl (DY ((y.natAbs:Nat):Int)) with
  | nil=>exact absurd hh id.2.1
  | cons a r=>simp
 rcases jh7 y 0 with c | c
 ·have e:cpl (DY y)=45::cpl (DY ((y.natAbs:Nat):Int)):=by
   cases y with
   | ofNat k=>exact absurd c (by simp)
   | negSucc k=>
    show cpl (DY (Int.negSucc k))=45::cpl (DY (((k+1:Nat)):Int));rw[dT];unfold DY cpl;rw[signs_ofString];show(("-"++Nat.repr (k+1)).toList).map Char.toNat=_;rw[String.toList_append,ve,jq7];rfl
  have hh:(cpl (DY y)).head?=some 45:=by rw[e];rfl
  have ef:HQ (cpl (DY y))=cpl (DY ((y.natAbs:Nat):Int)):=by unfold HQ;rw[xp hh,e];rfl
  refine⟨⟨by rw[ef];exact l1,by rw[ef];exact dl,by rw[ef];exact id.1,fun z=>?_⟩,?_,ef⟩
  ·rw[ef] at z;have:=z0 z;have v:=id.2.2;rw[this] at v;have:PySem.NumText.digitsVal [48]=0:=rfl;lia
  ·unfold J7;rw[xp hh,ef,id.2.2];lia
 ·have e:DY y=DY ((y.natAbs:Nat):Int):=by congr 1;lia
  rw[e];have h45:=wF id.1;refine⟨⟨by rw[HN h45];exact l1,by rw[HN h45];exact dl,by rw[HN h45];exact id.1,fun z=>z0 (by rw[HN h45] at z;exact z)⟩,?_,HN h45⟩;rw[sI h45,id.2.2];lia
noncomputable def nW(n:Int):List Nat:=cpl (DY n)
def Sm(i:Int):Prop:=i.natAbs<10^40
theorem zY(h:Sm i):i.natAbs<10^60:=js3 h nofun
theorem JS(h:Sm i):Nm (nW i)/\J7 (nW i)=i:=⟨(TQ (zY h)).1,(TQ (zY h)).2.1⟩
theorem Ii(h:Sm i):∀c∈nW i,c=45\/48<=c/\c<=57:=fun c hc=>by
 have N:=(JS h).1;have hd:=N.dg;by_cases e:(nW i).head?=some 45
 ·have ef:HQ (nW i)=(nW i).drop 1:=by unfold HQ;rw[xp e]
  rw[ef] at hd;cases hn:nW i with
  | nil=>rw[hn] at hc;cases hc
  | cons a r=>
   rw[hn] at hc e hd;injection e with e;rcases zh.mp hc with z | z
   ·exact .inl (by rw[z,e])
   ·exact .inr (hd c z)
 ·rw[HN e] at hd;exact .inr (hd c hc)
theorem Er(h:Sm i):(nW i).length<=41:=by
 have e:=(TQ (zY h)).2.2;have l:(cpl (DY ((i.natAbs:Nat):Int))).length<=40:=by
  rw[dT,js];exact(jr6 nofun nofun).mpr h
 rw[<-e] at l;unfold HQ nW at*
 split at l
 ·rw[jb3] at l;lia
 ·lia
theorem AAb(h:Sm i):nW i≠[]:=fun z=>by
 have:=(JS h).1.lo;rw[z] at this;simp[HQ] at this
theorem Ir(h1: -10000000000000000000000000000000000000000<i)(h2:i<10000000000000000000000000000000000000000):Sm i:=by
 unfold Sm;have:(10:Nat)^40=10000000000000000000000000000000000000000:=nofun;lia
theorem Cp(h:Sm i):i.natAbs.log2<1920:=by
 refine Oq ?_ ?_
 ·unfold Sm at h;have:(10:Nat)^40=10000000000000000000000000000000000000000:=nofun
  lia
 ·unfold Sm at h;have:(10:Nat)^40=10000000000000000000000000000000000000000:=nofun
  lia
noncomputable def Fb(c:Nat):List (List Nat)->List Nat
 | []=>[]
 | w::ws=>w++(ws.map (c:: ·)).flatten
theorem S7(c:Nat)(w y:List Nat)(ws:List (List Nat)):Fb c (w::y::ws)=w++c::Fb c (y::ws):=by
 show w++((c::y)++(ws.map (c:: ·)).flatten)=w++c::(y++(ws.map (c:: ·)).flatten);rfl
theorem Ve(c:Nat):∀(w:List Nat) (ws:List (List Nat)),(∀x∈w::ws,c∉x)->spl c (Fb c (w::ws))=w::ws
 | w,[],h=>by
  show spl c (w++[])=[w];rw[yk];exact Wu c w (h w qf)
 | w,y::ws,h=>by
  rw[S7,MK c w _ (h w qf),Ve c y ws fun x hx=>h x (qk _ hx)]
theorem Vy(c:Nat):∀(zs:List Str) (acc:Array Nat),(zs.foldl (fun acc (p:Str)=>acc++(⟨#[c]⟩:Str).cps++p.cps) acc).toList=acc.toList++((zs.map cpl).map (c:: ·)).flatten
 | [],acc=>by simp
 | z::zs,acc=>by
  rw[List.foldl_cons,Vy c zs,jp9,jp9,zv,zv,je8];show(acc.toList++[c]++cpl z)++_=acc.toList++((c::cpl z)++_);simp
theorem pW(c:Nat)(zs:List Str):cpl (Txt.join ⟨#[c]⟩ zs)=Fb c (zs.map cpl):=by
 cases zs with
 | nil=>rfl
 | cons z zs=>
  show((zs.foldl (fun acc (p:Str)=>acc++(⟨#[c]⟩:Str).cps++p.cps) z.cps)).toList=_;rw[Vy];rfl
theorem qz{k:Nat}{x:Int}(h:Bt k x)(hk:k<=1920)(h0:0<k):x.natAbs.log2<1920:=by
 unfold Bt at h;by_cases z:x.natAbs=0
 ·rw[z];decide
 ·exact xk ((Nat.log2_lt z).mpr h) hk
theorem KJ(a b:Str):(a++b).length=a.length+b.length:=by
 show(a.cps++b.cps).size=_;rw[Array.size_append];rfl
theorem AAH{m:Hp->Prop}(h:∀H',KB x H H'->H' x=some o->m H'):m (upd H x o):=h _ (fun y _ ne e=>by rw[BP ne];exact e) Ao
noncomputable def sg(z:String):List Nat:=cpl (Str.ofString z)
theorem bsg:sg " "=[32]:=∅
theorem dsg:sg "date "=sg "date"++[32]:=∅
noncomputable def qT(n r:Int):List Nat:=sg "each "++nW n++sg " from "++nW r
noncomputable def Fg:Option Int->List Nat
 | none=>sg "*"
 | some i=>nW i
noncomputable def yJ(nm:List Nat)(m d:Option Int):List Nat:=sg "date "++nm++sg " "++Fg m++sg " "++Fg d
def okO(m:Option Int):Prop:=∀i,m=some i->i.natAbs.log2<1920
section
variable(K:Fr)(CR:Addr)(CL:List Addr)(C:Addr)
def ACS:Sp:=fun vs H Q _=>Ex3 fun(x:Addr) (n r:Int)=>An4 (vs=[.ref x,.int n,.int r]) (1<=n) (n<=1000) (Lb K CR CL C H x Q n (fun b=>RB n [r] b))
def ACT:Sp:=fun vs H Q _=>Ex4 fun(x r:Addr) (n:Int) (b:Nat)=>An3 (vs=[.ref x,.ref r]) (Cw K CR CL H r n b) (Lb K CR CL C H x Q n (fun c=>OtR n b c))
def ACQ:Sp:=fun vs H Q _=>Ex5 fun(x r:Addr) (k n:Int) (b:Nat)=>An4 (vs=[.ref x,.int k,.ref r]) (k.natAbs.log2<1920) (Cw K CR CL H r n b) (Lb K CR CL C H x Q n (fun c=>c=ltr n b k))
def ACP:Sp:=fun vs H Q _=>Ex6 fun(x r:Addr) (k d n:Int) (b:Nat)=>An7 (vs=[.ref x,.int k,.ref r,.int d]) (1<=k) (k<=1000) (n*k<=150000) (Bt 200 d) (Cw K CR CL H r n b) (Lb K CR CL C H x Q (n*k) (fun c=>∀e,On (n*k) c e=true<->Evr n b k d e))
def MN(R:Rel):Sp:=fun vs H Q _=>Ex7 fun(x r t:Addr) (n1 n2:Int) (b1 b2:Nat)=>An5 (vs=[.ref x,.ref r,.ref t]) (Cw K CR CL H r n1 b1) (Cw K CR CL H t n2 b2) (CQ n1 n2<=150000) (Lb K CR CL C H x Q (CQ n1 n2) (fun c=>R n1 b1 n2 b2 (CQ n1 n2) c))
def ACR:Sp:=fun vs H Q _=>Ex8 fun(x r t:Addr) (k n1 n2:Int) (b1 b2:Nat)=>An7 (vs=[.ref x,.int k,.ref r,.ref t]) (k≠0) (k.natAbs.log2<1920) (Cw K CR CL H r n1 b1) (Cw K CR CL H t n2 b2) (CQ n1 n2<=150000) (Lb K CR CL C H x Q (CQ n1 n2) (fun c=>WR (KtU k) n1 b1 n2 b2 (CQ n1 n2) c))
def xU(CS CO CM:Addr):Sp:=fun vs H Q _=>Ex6 fun(x y:Addr) (z:Str) (g:Bs) (m d:Option Int)=>An9 (vs=[.ref x,.str z,.ref y,oI m,oI d,.int 1,.int 0]) (z.length<=100) (Ey K CS CO CM H y g) (SmC g) (okM m) (okO m) (d≠some 0) (okO d) (Lb K CR CL C H x Q g.cy.2 (fun c=>RB g.cy.2 (dtL g m d g.cy.1.toNat) c))
end
def ACV:Sp:=fun vs H Q _=>Ex2 fun(n r:Int)=>An4 (vs=[.int n,.int r]) (1<=n) (n<=1000) (∀z:Str,z.length<=3900->Q (.str z) H)
def ACH:Sp:=fun vs H Q _=>∃m:Option Int,An3 (vs=[oI m]) (okO m) (∀z:Str,z.length<=1921->Q (.str z) H)
def ACW:Sp:=fun vs H Q _=>Ex3 fun(z:Str) (m d:Option Int)=>An5 (vs=[.str z,oI m,oI d,.int 1,.int 0]) (z.length<=100) (okO m) (okO d) (∀(y:Str) (H':Hp),BR H H'->Q (.str y) H')
theorem AAi(h1: -1000000<=i)(h2:i<=1000000):i.natAbs.log2<1920:=qz (bt_of ⋯ ⋯) nofun nofun
theorem yK:cpl Str.empty=[]:=rfl
local macro_rules | `(tactic| walk_at"mm")=> `(tactic| (repeat (first | exact List.Mem.head _ | refine List.Mem.tail _ ?_)))
theorem in2{CR C r t dx:Addr}{CL:List Addr}{R:Rel}{w:Str}(cm:C∈CL):Cw K CR CL H r n1 b1->Cw K CR CL H t n2 b2->CQ n1 n2<=150000->(∀b H',KB x H H'->Cw K CR CL H' x (CQ n1 n2) b->R n1 b1 n2 b2 (CQ n1 n2) b->Q V.non H')->H x=some (.ins C dx [])->RC K CR C->mR (Vd (Wx K CR) [] E0 (Ip (Ie 0) (Ip (Vd (spJ K R) [] E0 (Ip (RP (CL.map fun C=>(C,spR (Ku K CR CL) 1)) "turn" (Ie 1) MF) (Ip (RP (CL.map fun C=>(C,spR (Ku K CR CL) 1)) "turn" (Ie 2) MF) MF))) (Ip (tE (Ip (Ie 1) (Ip (Ie 2) MF))) (Ip (tE (Ip (tC (.str "(")) (Ip (tC (.str w)) (Ip (tC (.str ")")) MF)))) MF))))) { nx:=fun _ H'=>Q V.non H',rt:=Q } (L2.start ["self","R","S"] [.ref x,.ref r,.ref t]) H:=by
 intro R1 R2 lz q hx rc;have fl:=Bj R1.n0 R2.n0;symm;obtain⟨C,dr,fs,m,hr,l1,_⟩:=R1.mt;exists⟨_,C,dr,fs,_,m _,rfl,hr,l1,?_⟩;exists⟨jg8,_,_,_,rfl,R1,fun p hp=>?_⟩;obtain⟨C',dr',fs',m',hr',l1',_⟩:=R2.mt;exists⟨_,C',dr',fs',_,m' _,rfl,hr',l1',?_⟩;exists⟨jg8,_,_,_,rfl,R2,fun p' hp'=>?_⟩;exists⟨p,p',_,_,_,_,rfl,⟨SqT.of hp,SqT.of hp',R1.n0,R2.n0,R1.n1,R2.n1,R1.lt,R2.lt⟩,lz,fun p2 c H1 s1 t1 lt Rr=>?_⟩;refine⟨DQ,fun pm hpm=>?_⟩;exists fresh hpm fun H2 s2 t2=>?_;refine⟨(by show 3<=sizeLine;decide),fun pw hpw=>?_⟩;refine fresh hpw fun H3 s3 t3=>?_;have s3:=s2.trans s3;have hx3:=(s1.trans s3) _ _ hx;symm;exact⟨_,p2,pm,pw,_,_,rfl,hx3,rc,fun H' k e=>q _ H' (k.pre (s1.trans s3)) (Fy cm rc hx3 (s3 _ _ t1) k e fl.1 lz lt) Rr⟩
noncomputable def sW(w:Wd):Str:=⟨w.toArray⟩
theorem Bm(w:Wd):cpl (sW w)=w:=by unfold cpl sW;simp
theorem J2(z:Str):sW (cpl z)=z:=G8 (Bm _)
theorem Df(w:Wd):(sW w).length=w.length:=by rw[<-Et,Bm]
theorem xW{a b:Wd}:V.str (sW a)=V.str (sW b)<->a=b:=⟨fun e=>by injection e with e;rw[<-Bm a,e,Bm],fun e=>by rw[e]⟩
structure Jl(cs:List Nat):Prop where
 lo:1<=cs.length
 hi:cs.length<=8
 ch:∀c∈cs,97<=c/\c<=122
theorem vO(c:Nat):c∈cpl "abcdefghijklmnopqrstuvwxyz"<->97<=c/\c<=122:=by
 have e:cpl "abcdefghijklmnopqrstuvwxyz"=(List.range 26).map (97+ ·):=∅;rw[e,yv];constructor
 ·rintro⟨k,hk,rfl⟩;have:=jd3.mp hk;lia
 ·intro h;exact⟨c-97,jd3.mpr ⋯,⋯⟩
theorem AAu(c:Nat):(!(Builtin.Str.occurrences "abcdefghijklmnopqrstuvwxyz" ⟨#[c]⟩ 0 (Str.ofString "abcdefghijklmnopqrstuvwxyz").length 1).isEmpty)=decide (97<=c/\c<=122):=by
 rw[StrLaws.found_one,ko,decide_eq_true_eq,decide_eq_true_eq];exact vO c
def zT:Sp:=fun vs H Q _=>∃z:Str,An3 (vs=[.str z]) (TOk z) (∀(v:Bool) (H':Hp),BR H H'->(v=true<->Jl (cpl z))->Q (.bl v) H')
def Ww:Sp:=fun vs H Q _=>∃z:Str,An4 (vs=[.str z]) (TOk z) (z.length<=4000) (Q (.bl true) H)
noncomputable def rdF(p:Addr)(k:Nat):List (Str×V):=[("words",.ref p),("place",.int (k:Int))]
structure Rdr(CD:Addr)(H:Hp)(x p:Addr)(ws:List Wd)(k:Nat):Prop where
 ex:∃dx,H x=some (.ins CD dx (rdF p k))
 tp:H p=some (.tup (ws.map fun w=>.str (sW w)))
 ln:ws.length<=100000
 ok:∀w∈ws,TOk (sW w)
def Rd(CD:Addr)(H:Hp)(x:Addr)(r:List Wd):Prop:=∃p ws k,Rdr CD H x p ws k/\ws.drop k=r
section
variable{CD:Addr}{H H':Hp}{x:Addr}{r:List Wd}{w:Wd}
theorem Rd.ob(R:Rd CD H x r):∃dx fs,H x=some (.ins CD dx fs)/\fs.lookup (Str.ofString "take")=none/\fs.lookup (Str.ofString "peek")=none:=by
 obtain⟨p,ws,k,⟨⟨dx,h⟩,_⟩,_⟩:=R;exact⟨dx,_,h,rfl,rfl⟩
theorem Rd.same(R:Rd CD H x r)(s:BR H H'):Rd CD H' x r:=by
 obtain⟨p,ws,k,⟨⟨dx,h⟩,t,l,o⟩,e⟩:=R;exact⟨p,ws,k,⟨⟨dx,s _ _ h⟩,s _ _ t,l,o⟩,e⟩
theorem Rd.tk(R:Rd CD H x (w::r)):TOk (sW w):=by
 obtain⟨p,ws,k,R,e⟩:=R;exact R.ok w (List.mem_of_mem_drop (by rw[e];exact .head _))
end
theorem KB.tr{H2:Hp}(a:KB x H H1)(b:KB x H1 H2):KB x H H2:=fun y o h e=>b y o h (a y o h e)
theorem KB.sm(s:BR H H1):KB x H H1:=fun y o _ e=>s y o e
def Tk(CD:Addr)(H:Hp)(x:Addr)(r:List Wd)(G:V->Hp->Prop)(Q:VK):Prop:=∀v H',KB x H H'->Rd CD H' x r->G v H'->Q v H'
theorem Tk.on{CD:Addr}{r:List Wd}{G:V->Hp->Prop}(t:Tk CD H x r G Q)(k:KB x H H1):Tk CD H1 x r G Q:=fun v H' k'=>t v H' (k.tr k')
inductive PK | an | or | bu | ul | up | un | ne | ti
noncomputable def PK.s:PK->String | an=>"and" | or=>"or" | bu=>"but" | ul=>"unlike" | up=>"upon" | un=>"until" | ne=>"near" | ti=>"till"
def PK.R:PK->Rel | an=>Bo and | or=>Bo Bool.or | bu=>Bo bn | ul=>Bo xor | up=>WR (UpJ 1) | un=>WR (UpJ (-1)) | ne=>WR NrU | ti=>WR TiU
inductive PT:Type
 | lf (b:Bool)
 | each (n r:Int)
 | date (nm:Wd) (m d:Option Int) (y:Option (Int×Int))
 | no (p:PT)
 | la (k:Int) (p:PT)
 | ev (k:Int) (p:PT) (d:Int)
 | nt (k:Int) (p q:PT)
 | pr (w:PK) (p q:PT)
noncomputable def lfS(b:Bool):String:=if b then "all" else "none"
noncomputable def yrW:Option (Int×Int)->List Wd
 | none=>[]
 | some y=>[sg "each",nW y.1,sg "from",nW y.2]
noncomputable def yr(y:Option (Int×Int)):Int×Int:=y.getD (1,0)
namespace PT
noncomputable def tok:PT->List Wd
 | lf b=>[sg (lfS b)]
 | each n r=>[sg "each",nW n,sg "from",nW r]
 | date nm m d y=>sg "date"::nm::Fg m::Fg d::yrW y
 | no p=>kL::sg "not"::(p.tok++[kR])
 | la k p=>kL::nW k::sg "later"::(p.tok++[kR])
 | ev k p d=>kL::sg "every"::nW k::sg "of"::(p.tok++[sg "from",nW d,kR])
 | nt k p q=>kL::nW k::sg "of"::(p.tok++sg "from"::(q.tok++[kR]))
 | pr w p q=>kL::(p.tok++sg w.s::(q.tok++[kR]))
noncomputable def deep:PT->Nat
 | no p=>p.deep+1
 | la _ p=>p.deep+1
 | ev _ p _=>p.deep+1
 | nt _ p q=>max p.deep q.deep+1
 | pr _ p q=>max p.deep q.deep+1
 | _=>0
def okS(m:Option Int):Prop:=∀i,m=some i->Sm i
def ok:PT->Prop
 | lf _=>True
 | each n r=>Sm n/\Sm r/\1<=n/\n<=60
 | date nm m d y=>Jl nm/\okS m/\okS d/\(∀z,y=some z->Sm z.1/\Sm z.2/\1<=z.1/\z.1<=2)/\okM m/\d≠some 0
 | no p=>p.ok
 | la k p=>Sm k/\p.ok
 | ev k p d=>Sm k/\Sm d/\p.ok/\1<=k/\k<=3
 | nt k p q=>Sm k/\p.ok/\q.ok/\k≠0
 | pr _ p q=>p.ok/\q.ok
theorem hd(p:PT):∃z t,p.tok=z::t/\z∈[sg "all",sg "none",sg "each",sg "date",kL]:=by
 cases p with
 | lf b=>cases b<;>exact⟨_,_,rfl,∅⟩
 | each=>exact⟨_,_,rfl,∅⟩
 | date=>exact⟨_,_,rfl,∅⟩
 | _=>exact⟨_,_,rfl,∅⟩
end PT
def PlH(H:Hp):PT->V->Prop
 | .lf b,v=>∃q,v=.ref q/\H q=some (.tup [.str (lfS b)])
 | .each n r,v=>∃q,v=.ref q/\H q=some (.tup [.str "each",.int n,.int r])
 | .date nm m d y,v=>∃q,v=.ref q/\H q=some (.tup [.str "date",.str (sW nm),oI m,oI d,.int (yr y).1,.int (yr y).2])
 | .no p,v=>∃q u,v=.ref q/\H q=some (.tup [.str "not",u])/\PlH H p u
 | .la k p,v=>∃q u,v=.ref q/\H q=some (.tup [.str "later",.int k,u])/\PlH H p u
 | .ev k p d,v=>∃q u,v=.ref q/\H q=some (.tup [.str "every",.int k,u,.int d])/\PlH H p u
 | .nt k p r,v=>∃q u y,v=.ref q/\H q=some (.tup [.str "of",.int k,u,y])/\PlH H p u/\PlH H r y
 | .pr w p r,v=>∃q u y,v=.ref q/\H q=some (.tup [.str w.s,u,y])/\PlH H p u/\PlH H r y
theorem PlH.kp(s:∀y xs,H y=some (.tup xs)->H' y=some (.tup xs)):∀{p:PT} {v:V},PlH H p v->PlH H' p v
 | .lf _,v,⟨q,e,h⟩=>⟨q,e,s _ _ h⟩
 | .each ..,v,⟨q,e,h⟩=>⟨q,e,s _ _ h⟩
 | .date ..,v,⟨q,e,h⟩=>⟨q,e,s _ _ h⟩
 | .no _,v,⟨q,u,e,h,g⟩=>⟨q,u,e,s _ _ h,PlH.kp s g⟩
 | .la ..,v,⟨q,u,e,h,g⟩=>⟨q,u,e,s _ _ h,PlH.kp s g⟩
 | .ev ..,v,⟨q,u,e,h,g⟩=>⟨q,u,e,s _ _ h,PlH.kp s g⟩
 | .nt ..,v,⟨q,u,y,e,h,g,g'⟩=>⟨q,u,y,e,s _ _ h,PlH.kp s g,PlH.kp s g'⟩
 | .pr ..,v,⟨q,u,y,e,h,g,g'⟩=>⟨q,u,y,e,s _ _ h,PlH.kp s g,PlH.kp s g'⟩
theorem PlH.same(s:BR H H'){p:PT}{v:V}(h:PlH H p v):PlH H' p v:=PlH.kp (fun _ _ e=>s _ _ e) h
theorem PlH.kb{CD:Addr}{r:List Wd}(R:Rd CD H x r)(kb:KB x H H'){q:PT}{v:V}(h:PlH H q v):PlH H' q v:=PlH.kp (fun y xs e=>by
 obtain⟨dx,fs,hx,_⟩:=R.ob;exact kb y _ (Hh e hx (fun z=>nomatch z)) e) h
section
variable(CD:Addr)
def uG:Sp:=fun vs H Q _=>Ex4 fun(x dx l:Addr) (ws:List Wd)=>An6 (vs=[.ref x,.ref l]) (H x=some (.ins CD dx [])) (H l=some (.lst (ws.map fun w=>.str (sW w)))) (ws.length<=100000) (∀w∈ws,TOk (sW w)) (∀H',KB x H H'->Rd CD H' x ws->Q .non H')
def zL:Sp:=fun vs H Q _=>Ex2 fun(x:Addr) (r:List Wd)=>An3 (vs=[.ref x]) (Rd CD H x r) (Q (.str (sW (r.headD []))) H)
def zE:Sp:=fun vs H Q _=>Ex2 fun(x:Addr) (r:List Wd)=>An3 (vs=[.ref x]) (Rd CD H x r) (∀H',KB x H H'->Rd CD H' x r.tail->Q (.str (sW (r.headD []))) H')
def yw:Sp:=fun vs H Q _=>Ex3 fun(x:Addr) (z:Str) (r:List Wd)=>An3 (vs=[.ref x,.str z]) (Rd CD H x (cpl z::r)) (∀H',KB x H H'->Rd CD H' x r->Q .non H')
def zN:Sp:=fun vs H Q _=>Ex3 fun(x:Addr) (n:Int) (r:List Wd)=>An4 (vs=[.ref x]) (Rd CD H x (nW n::r)) (Sm n) (∀H',KB x H H'->Rd CD H' x r->Q (.int n) H')
def tL:Sp:=fun vs H Q _=>Ex3 fun(x:Addr) (m:Option Int) (r:List Wd)=>An4 (vs=[.ref x]) (Rd CD H x (Fg m::r)) (PT.okS m) (∀H',KB x H H'->Rd CD H' x r->Q (oI m) H')
def uH:Sp:=fun vs H Q _=>Ex4 fun(x:Addr) (n m:Int) (r:List Wd)=>An5 (vs=[.ref x]) (Rd CD H x (nW n::sg "from"::nW m::r)) (Sm n) (Sm m) (∀q H',KB x H H'->Rd CD H' x r->H' q=some (.tup [.int n,.int m])->Q (.ref q) H')
def uK:Sp:=fun vs H Q _=>Ex6 fun(x:Addr) (nm:Wd) (m d:Option Int) (y:Option (Int×Int)) (r:List Wd)=>An5 (vs=[.ref x]) (Rd CD H x (nm::Fg m::Fg d::(yrW y++r))) ((PT.date nm m d y).ok) (r.headD []≠sg "each") (Tk CD H x r (fun v H'=>PlH H' (.date nm m d y) v) Q)
def spP(d:Nat)(G:PT->List Wd->List Wd)(C:PT->Prop):Sp:=fun vs H Q _=>Ex3 fun(x:Addr) (p:PT) (r:List Wd)=>An7 (vs=[.ref x]) (Rd CD H x (G p r)) p.ok (C p) (p.deep<d) (r.headD []≠sg "each") (Tk CD H x r (fun v H'=>PlH H' p v) Q)
def cLN:PT->Prop | .la .. =>True | .nt .. =>True | _=>False
def cEv:PT->Prop | .ev .. =>True | _=>False
def cPr:PT->Prop | .pr .. =>True | _=>False
def cIn:PT->Prop | .no _=>True | p=>cLN p\/cEv p\/cPr p
noncomputable def inn:PT->List Wd->List Wd
 | .no p,r=>sg "not"::(p.tok++r)
 | .la k p,r=>nW k::sg "later"::(p.tok++r)
 | .ev k p d,r=>sg "every"::nW k::sg "of"::(p.tok++sg "from"::nW d::r)
 | .nt k p q,r=>nW k::sg "of"::(p.tok++sg "from"::(q.tok++r))
 | .pr w p q,r=>p.tok++sg w.s::(q.tok++r)
 | _,r=>r
def Jy(d:Nat):Sp:=spP CD d (fun p r=>p.tok++r) (fun _=>True)
def Wz(d:Nat):Sp:=spP CD (d+1) inn cLN
def RX(d:Nat):Sp:=spP CD (d+1) (fun p r=>(inn p r).tail) cEv
def Wy(d:Nat):Sp:=spP CD (d+1) inn cPr
def RV(d:Nat):Sp:=spP CD (d+1) inn cIn
end
theorem Yp{CD:Addr}{vs:List V}(h:Jy CD 0 vs H Q E):False:=by
 obtain⟨x,p,r,_,_,_,_,h,_⟩:=h;lia
theorem YZ{a b:String}(h:Str.ofString a≠Str.ofString b):V.str (sW (sg a))≠V.str (Str.ofString b):=fun z=>h (by
 rw[<-J2 (Str.ofString a)];exact V.str.inj z)
theorem Hg(a:String):V.str (sW (sg a))=V.str (Str.ofString a):=by rw[show sg a=cpl (Str.ofString a) from rfl,J2]
theorem qD{w:Wd}(h:Nm (c::w)):c=45\/48<=c/\c<=57:=by
 by_cases e:c=45
 ·exact .inl e
 ·exact .inr (h.dg c (by rw[HN (show (c::w).head?≠some 45 from fun z=>e (uk z))];exact .head _))
theorem Sv{n:Int}(h:Sm n){z:String}(hz:∃c w,sg z=c::w/\¬(c=45\/48<=c/\c<=57)):V.str (sW (nW n))≠V.str (Str.ofString z):=fun e=>by
 obtain⟨c,w,e1,e2⟩:=hz;have e3:nW n=sg z:=by rw[<-Bm (nW n),V.str.inj e];rfl
 have:=(JS h).1;rw[e3,e1] at this;exact e2 (qD this)
theorem hdn{a:String}{r:List Wd}(h:sg a≠sg "each"):(sg a::r).headD []≠sg "each":=h
theorem xu:kL=sg "(":=∅
theorem yU{b:String}(h:Str.ofString "("≠Str.ofString b):V.str (sW kL)≠V.str (Str.ofString b):=by
 rw[xu];exact YZ h
theorem ACo(w:PK):inV (V.str (Str.ofString w.s)) [.str "and",.str "or",.str "but",.str "unlike",.str "upon",.str "until",.str "near",.str "till"]=true:=by cases w<;>ac_rfl
theorem sV(p:Nat->Bool)(l:List Nat):l.drop (l.takeWhile p).length=l.dropWhile p:=by
 conv=>lhs;rw[<-ja6 (p:=p) (l:=l)]
 rw[ja6]
 conv=>lhs;rw[<-ja6 (p:=p) (l:=l)]
 exact jv0 (by rw[ja6])
theorem g40:(fun c=>(Str.ofString "(").cps.contains c)=(· ==40):=by
 funext c
 rw[show (Str.ofString "(").cps= #[40] by ac_rfl];by_cases h:c=40
 ·subst h;simp
 ·rw[show (#[40]:Array Nat).contains c=false by simpa using h];exact(beq_false_of_ne h).symm
theorem g41:(fun c=>(Str.ofString ")").cps.contains c)=(· ==41):=by
 funext c
 rw[show (Str.ofString ")").cps= #[41] by ac_rfl];by_cases h:c=41
 ·subst h;simp
 ·rw[show (#[41]:Array Nat).contains c=false by simpa using h];exact(beq_false_of_ne h).symm
noncomputable def lsT(z:Str):Str:=if stripSame (Str.ofString "(").cps.contains true false z then z else stripped (Str.ofString "(").cps.contains true false z
noncomputable def rsT(z:Str):Str:=if stripSame (Str.ofString ")").cps.contains false true z then z else stripped (Str.ofString ")").cps.contains false true z
theorem vL(z:Str):cpl (lsT z)=opd (cpl z):=by
 have lo:stripLo (Str.ofString "(").cps.contains true z=((cpl z).takeWhile (· ==40)).length:=by
  unfold stripLo;rw[xp rfl];show((cpl z).takeWhile (fun c=>(Str.ofString "(").cps.contains c)).length=_;rw[g40]
 unfold lsT opd;rw[<-sV];split
 ·rename_i h
  unfold stripSame at h;simp only[yy,jc0] at h;rw[lo] at h;rw[h.1];rfl
 ·unfold stripped;show(Builtin.Str.strSub z _ _).cps.toList=_;rw[StrLaws.strSub_toList,lo];have:stripHi (Str.ofString "(").cps.contains false z ((cpl z).takeWhile (· ==40)).length=z.length:=rfl;rw[this];exact va (by rw[jb3];have:=Et z;unfold cpl at this;lia)
theorem uX(z:Str):cpl (rsT z)=((cpl z).reverse.dropWhile (· ==41)).reverse:=by
 have hi:stripHi (Str.ofString ")").cps.contains true z 0=z.length-((cpl z).reverse.takeWhile (· ==41)).length:=by
  unfold stripHi;rw[xp rfl];show z.length-((cpl z).reverse.takeWhile (fun c=>(Str.ofString ")").cps.contains c)).length=_;rw[g41]
 have key:(cpl z).take ((cpl z).length-((cpl z).reverse.takeWhile (· ==41)).length)=((cpl z).reverse.dropWhile (· ==41)).reverse:=by
  have e:=ja6 (p:=(· ==41)) (l:=(cpl z).reverse);have e2:=ya List.reverse e;rw[List.reverse_append,List.reverse_reverse] at e2;have l2:=ya List.length e;rw[ze,jk7] at l2
  conv=>lhs;rw[<-e2]
  rw[jv3];rw[jk7,e2];lia
 unfold rsT;split
 ·rename_i h
  unfold stripSame at h;simp only[yy,jc0] at h;have h2:stripHi (Str.ofString ")").cps.contains true z 0=z.length:=h.2;rw[hi] at h2;rw[<-key,Et,h2,<-Et,jb4]
 ·unfold stripped;show(Builtin.Str.strSub z 0 (stripHi (Str.ofString ")").cps.contains true z 0)).cps.toList=_;rw[StrLaws.strSub_toList,hi,<-key,Et];rfl
theorem ACw(w:Wd):lsT (sW w)=sW (opd w):=G8 (by rw[vL,Bm,Bm])
theorem ACc(w:Wd):rsT (sW (opd w))=sW (core w):=G8 (by rw[uX,Bm,Bm];rfl)
theorem bF(z:Str):Jv 32 z=(spl 32 (cpl z)).map sW:=rfl
theorem ni:Str.ofString ""=sW []:=∅
theorem ADv:Str.ofString "("=sW kL:=∅
theorem ADu:Str.ofString ")"=sW kR:=∅
theorem mj(c:Nat):∀l:List Nat,((spl c l).map fun w=>w.length+1).sum=l.length+1
 | []=>rfl
 | a::l=>by
  have ih:=mj c l;by_cases e:a=c
  ·subst e;rw[my,zv,kq,ih,qr];show 0+1+_=_;lia
  ·rw[Wv l e,zv,kq,qr,qr];rw[Q5 c l,zv,kq] at ih;lia
theorem gD{a:Nat}:∀{l:List Nat},a∈l->a<=l.sum
 | b::l,h=>by
  rw[kq];rcases zh.mp h with z | z
  ·lia
  ·have:=gD z;lia
theorem ZS(p:Wd):(Hk p).length<=p.length+1:=by
 have a:=Ol p;have b:=RJ p;unfold Hk;simp only[ze,jb9,qr,jj9];lia
theorem Zn:∀ps:List Wd,(ps.flatMap Hk).length<=(ps.map fun w=>w.length+1).sum
 | []=>qo _
 | p::ps=>by
  rw[je7,ze,zv,kq];have:=Zn ps;have:=ZS p;lia
theorem sY{ps:List Wd}(i:Nat):((ps.take i).flatMap Hk).length<=(ps.flatMap Hk).length:=by
 conv=>rhs;rw[<-List.take_append_drop i ps,ji2,ze]
 lia
theorem Rv{α:Type}(v:α):∀k:Nat,(List.replicate k [v]).flatten=List.replicate k v
 | 0=>rfl
 | k+1=>by rw[ja5,je8,Rv v k];rfl
theorem AAL(p:Wd):(Hk p).map (fun w=>V.str (sW w))=List.replicate (p.length-(opd p).length) (V.str (sW kL))++[V.str (sW (core p))]++List.replicate ((opd p).length-(core p).length) (V.str (sW kR)):=by
 unfold Hk;simp
theorem xm:∀p:Wd,p.length-(opd p).length<=p.count 40
 | []=>qo _
 | a::p=>by
  by_cases e:a=40
  ·subst e;rw[Ms,List.count_cons_self,qr];have:=xm p;have:=Ol p;lia
  ·rw[show opd (a::p)=a::p by simp[opd,jb8,e]];lia
noncomputable def opn(p:Wd):Nat:=p.length-(opd p).length
noncomputable def cls(p:Wd):Nat:=(opd p).length-(core p).length
def Dok(c:Int):List Wd->Prop
 | []=>True
 | w::r=>c+(opn w:Int)<=40/\Dok (c+(opn w:Int)-(cls w:Int)) r
noncomputable def dpf:List Wd->Int
 | []=>0
 | w::r=>(opn w:Int)-(cls w:Int)+dpf r
def tH:Sp:=fun vs H Q _=>∃z:Str,An6 (vs=[.str z]) (TOk z) ((cpl z).length<=4000) (∀p∈spl 32 (cpl z),core p≠[]) (Dok 0 (spl 32 (cpl z))) (∀l H',BR H H'->H' l=some (.lst ((tks (spl 32 (cpl z))).map fun w=>.str (sW w)))->Q (.ref l) H')
structure Wf(ws ts:List Wd)(b:Nat):Prop where
 ne:ws≠[]
 bl:∀w∈ws,32∉w
 co:∀w∈ws,core w≠[]
 tk:tks ws=ts
 dk:∀c:Int,c+(b:Int)<=40->Dok c ws
 dp:dpf ws=0
 as:∀w∈ws,∀c∈w,c<128
def gs(c:Nat):Prop:=c<128/\c≠32/\c≠40/\c≠41
theorem Wf.one{w:Wd}(ne:w≠[])(g:∀c∈w,gs c):Wf [w] [w] 0:=by
 have h1:w.head?≠some 40:=fun z=>(g 40 (List.mem_of_mem_head? z)).2.2.1 rfl;have h2:w.getLast?≠some 41:=fun z=>(g 41 (List.mem_of_getLast? z)).2.2.2 rfl;have s:∀x∈[w],x=w:=fun x h=>xb.mp h;have e0:opn w=0:=by
  have:=xm w;rw[List.count_eq_zero.mpr fun z=>(g 40 z).2.2.1 rfl] at this;exact Nat.le_zero.mp this
 have e1:cls w=0:=by
  unfold cls;rw[Ov h1 h2];exact Nat.sub_eq_zero_of_le (Ol w)
 refine⟨by simp,fun x h=>by rw[s x h];exact fun z=>(g 32 z).2.1 rfl,fun x h=>by rw[s x h,Ov h1 h2];exact ne,by rw[mJ (jT h1 h2)];rfl,fun c h=>⟨by rw[e0];exact h,trivial⟩,by simp[dpf,e0,e1],fun x h=>by rw[s x h];exact fun c hc=>(g c hc).1⟩
theorem gY:∀ws r:List Wd,dpf (ws++r)=dpf ws+dpf r
 | [],r=>(jh9 _).symm
 | w::ws,r=>by
  show _+dpf (ws++r)=_+dpf ws+_;rw[gY ws r];lia
theorem Dok.app:∀{ws r:List Wd} {c:Int},Dok c ws->Dok (c+dpf ws) r->Dok c (ws++r)
 | [],r,c,_,h=>by rwa [show dpf []=0 from rfl,jd5] at h
 | w::ws,r,c,h,g=>⟨h.1,Dok.app h.2 (by
  rwa [show c+(opn w:Int)-(cls w:Int)+dpf ws=c+dpf (w::ws) by show _=c+((opn w:Int)-(cls w:Int)+dpf ws);lia])⟩
theorem Wf.app{ws ts ws' ts':List Wd}{b':Nat}(A:Wf ws ts b)(B:Wf ws' ts' b'):Wf (ws++ws') (ts++ts') (max b b'):=
 ⟨fun z=>A.ne (List.append_eq_nil_iff.mp z).1,fun w h=>(yb.mp h).elim (A.bl w) (B.bl w),fun w h=>(yb.mp h).elim (A.co w) (B.co w),by rw[sX,A.tk,B.tk],fun c h=>(A.dk c ⋯).app (by rw[A.dp];exact B.dk _ ⋯),by rw[gY,A.dp,B.dp];rfl,fun w h=>(yb.mp h).elim (A.as w) (B.as w)⟩
theorem pF{p:Wd}(h:core p≠[]):opn (p++[41])=opn p/\cls (p++[41])=cls p+1:=by
 unfold opn cls;have:=RJ p;rw[Xh (Ka h),K1 (Ka h),ze,ze];exact⟨by simp,by show(opd p).length+1-_=_;lia⟩
theorem AAV(w:Wd):opn (40::w)=opn w+1/\cls (40::w)=cls w:=by
 unfold opn cls;rw[Ms,G5,qr];have:=Ol w;exact⟨⋯,rfl⟩
theorem ADP:∀{ws:List Wd} {c:Int},ws≠[]->(∀w∈ws,core w≠[])->Dok c ws->Dok c (bB ws)/\dpf (bB ws)=dpf ws-1
 | [],_,n,_,_=>absurd rfl n
 | [w],c,_,h,d=>by
  obtain⟨e1,e2⟩:=pF (h w (.head _));refine⟨⟨by rw[e1];exact d.1,trivial⟩,?_⟩;show(opn (w++[41]):Int)-(cls (w++[41]):Int)+0=(opn w:Int)-(cls w:Int)+0-1;rw[e1,e2];lia
 | w::y::r,c,_,h,d=>by
  obtain⟨a,b⟩:=ADP (ws:=y::r) (by simp) (fun x hx=>h x (.tail _ hx)) d.2;refine⟨⟨d.1,a⟩,?_⟩;show _+dpf (bB (y::r))=_+dpf (y::r)-1;rw[b];lia
theorem AEV{ws:List Wd}{c:Int}(n:ws≠[])(d:Dok (c+1) ws):Dok c (bA ws)/\dpf (bA ws)=dpf ws+1:=by
 cases ws with
 | nil=>exact absurd rfl n
 | cons w r=>
  obtain⟨e1,e2⟩:=AAV w;refine⟨⟨by rw[e1];have:=d.1;lia,?_⟩,?_⟩
  ·have:=d.2;rw[e1,e2]
   rwa [show c+((opn w+1:Nat):Int)-(cls w:Int)=c+1+(opn w:Int)-(cls w:Int) by lia]
  ·show(opn (40::w):Int)-(cls (40::w):Int)+dpf r=(opn w:Int)-(cls w:Int)+dpf r+1;rw[e1,e2];lia
theorem Wf.wrap{ws ts:List Wd}(A:Wf ws ts b):Wf (bB (bA ws)) (kL::(ts++[kR])) (b+1):=by
 have cA:∀w∈bA ws,core w≠[]:=by
  have:=A.co;cases ws with
  | nil=>exact fun _ h=>nomatch h
  | cons w r=>
   intro x hx;rcases zh.mp hx with z | z
   ·rw[z,G5];exact this w (.head _)
   ·exact this x (.tail _ z)
 have mem:∀{P:Nat->Prop},P 40->P 41->(∀w∈ws,∀c∈w,P c)->∀w∈bB (bA ws),∀c∈w,P c:=fun{P} p0 p1 h w hw c hc=>by
  obtain⟨x,hx,e⟩:=Yb hw A.ne;have:=h x hx;rcases e with e | e | e | e<;>subst e
  ·exact this c hc
  ·rcases zh.mp hc with z | z
   ·exact z ▸ p0
   ·exact this c z
  ·rcases yb.mp hc with z | z
   ·exact this c z
   ·exact(xb.mp z) ▸ p1
  ·rcases zh.mp hc with z | z
   ·exact z ▸ p0
   ·rcases yb.mp z with z | z
    ·exact this c z
    ·exact(xb.mp z) ▸ p1
 have dA:∀c:Int,c+((b+1:Nat):Int)<=40->Dok c (bB (bA ws))/\dpf (bB (bA ws))=0:=fun c h=>by
  obtain⟨a,e⟩:=AEV (c:=c) A.ne (A.dk (c+1) ⋯);obtain⟨a,f⟩:=ADP (Nj A.ne) cA a;exact⟨a,by rw[f,e,A.dp];rfl⟩
 refine⟨Wb (Nj A.ne),fun w hw z=>mem (P:=(· ≠32)) nofun nofun (fun w h c hc e=>A.bl w h (e ▸ hc)) w hw 32 z rfl,fun w hw=>?_,by rw[mH A.ne A.co,A.tk],fun c h=>(dA c h).1,(dA (-(b:Int)) ⋯).2,mem nofun nofun A.as⟩;obtain⟨x,hx,e⟩:=Yb hw A.ne;have c:=A.co x hx;rcases e with e | e | e | e<;>subst e
 ·exact c
 ·rw[G5];exact c
 ·rw[K1 (Ka c)];exact c
 ·rw[K1 (Ka (by rw[G5];exact c)),G5];exact c
theorem Mx{n:Int}(h:Sm n):Wf [nW n] [nW n] 0:=.one (AAb h) fun c hc=>by
 have:=Ii h c hc;unfold gs;lia
theorem Q4{m:Option Int}(h:PT.okS m):Wf [Fg m] [Fg m] 0:=by
 cases m with
 | none=>exact .one ∅ (by unfold gs;ac_rfl)
 | some i=>exact Mx (h i rfl)
namespace PT
noncomputable def wd:PT->List Wd
 | lf b=>[sg (lfS b)]
 | each n r=>[sg "each",nW n,sg "from",nW r]
 | date nm m d y=>[sg "date"]++([nm]++([Fg m]++([Fg d]++yrW y)))
 | no p=>bB (bA ([sg "not"]++p.wd))
 | la k p=>bB (bA ([nW k]++([sg "later"]++p.wd)))
 | ev k p d=>bB (bA ([sg "every"]++([nW k]++([sg "of"]++(p.wd++([sg "from"]++[nW d]))))))
 | nt k p q=>bB (bA ([nW k]++([sg "of"]++(p.wd++([sg "from"]++q.wd)))))
 | pr w p q=>bB (bA (p.wd++([sg w.s]++q.wd)))
noncomputable def br:PT->Nat
 | no p=>p.br+1
 | la _ p=>p.br+1
 | ev _ p _=>p.br+1
 | nt _ p q=>p.br+q.br+1
 | pr _ p q=>p.br+q.br+1
 | _=>0
noncomputable def lv:PT->Nat
 | no p=>p.lv
 | la _ p=>p.lv
 | ev _ p _=>p.lv
 | nt _ p q=>p.lv+q.lv
 | pr _ p q=>p.lv+q.lv
 | _=>1
theorem Lq{z:String}(ne:sg z≠[]:=by ac_rfl)(h:∀c∈sg z,gs c:=by unfold gs;ac_rfl):Wf [sg z] [sg z] 0:=.one ne h
theorem wf:∀{p:PT},p.ok->Wf p.wd p.tok p.deep
 | lf b,_=>by cases b<;>exact Lq
 | each n r,h=>((Lq (z:="each")).app ((Mx h.1).app ((Lq (z:="from")).app (Mx h.2.1))))
 | date nm m d y,h=>by
  have a:Wf [nm] [nm] 0:=.one (fun z=>by have:=h.1.lo;rw[z] at this;exact absurd this nofun) fun c hc=>by
   have:=h.1.ch c hc;unfold gs;lia
  cases y with
  | none=>exact(Lq (z:="date")).app (a.app ((Q4 h.2.1).app (Q4 h.2.2.1)))
  | some y=>
   have o:=h.2.2.2.1 y rfl;exact(Lq (z:="date")).app (a.app ((Q4 h.2.1).app ((Q4 h.2.2.1).app ((Lq (z:="each")).app ((Mx o.1).app ((Lq (z:="from")).app (Mx o.2.1)))))))
 | no p,h=>by
  have:=((Lq (z:="not")).app (wf (p:=p) h)).wrap
  rwa [Nat.zero_max] at this
 | la k p,h=>by
  have:=((Mx h.1).app ((Lq (z:="later")).app (wf h.2))).wrap
  rwa [Nat.zero_max,Nat.zero_max] at this
 | ev k p d,h=>by
  have:=((Lq (z:="every")).app ((Mx h.1).app ((Lq (z:="of")).app ((wf h.2.2.1).app ((Lq (z:="from")).app (Mx h.2.1)))))).wrap;simpa [tok,wd,deep] using this
 | nt k p q,h=>by
  have:=((Mx h.1).app ((Lq (z:="of")).app ((wf h.2.1).app ((Lq (z:="from")).app (wf h.2.2.1))))).wrap;simpa [tok,wd,deep] using this
 | pr w p q,h=>by
  have k:Wf [sg w.s] [sg w.s] 0:=by cases w<;>exact Lq
  have:=((wf h.1).app (k.app (wf h.2))).wrap;simpa [tok,wd,deep] using this
noncomputable def tx(p:PT):Wd:=jn p.wd
end PT
namespace PT
theorem wd_ne:∀p:PT,p.wd≠[]
 | lf _=>by simp[wd]
 | each .. =>by simp[wd]
 | date .. =>by simp[wd]
 | no _=>Wb (Nj (by simp))
 | la .. =>Wb (Nj (by simp))
 | ev .. =>Wb (Nj (by simp))
 | nt .. =>Wb (Nj (by simp))
 | pr .. =>Wb (Nj (by simp))
theorem jw{ps:List Wd}(h:ps≠[]):jn (bB (bA ps))=sg "("++jn ps++sg ")":=by
 rw[xx (Nj h),ADG h,show sg "("=[40] by ac_rfl,show sg ")"=[41] by ac_rfl];rfl
theorem j1{w:Wd}{ps:List Wd}(h:ps≠[]):jn ([w]++ps)=w++sg " "++jn ps:=by
 rw[jf9,JV h,bsg];simp
theorem ja(p:PT){ps:List Wd}(h:ps≠[]):jn (p.wd++ps)=p.tx++sg " "++jn ps:=by
 rw[pY p.wd_ne h,bsg];simp[tx]
theorem zj:sg "each "=sg "each"++sg " ":=∅
theorem bW:sg " from "=sg " "++sg "from"++sg " ":=∅
theorem tx_each(n r:Int):tx (each n r)=qT n r:=by
 unfold qT;rw[zj,bW,bsg];simp[tx,wd,jn]
theorem tx_date0(nm:Wd)(m d:Option Int):tx (date nm m d none)=yJ nm m d:=by
 unfold yJ;rw[dsg,bsg];simp[tx,wd,jn,yrW]
theorem tx_no(p:PT):tx (no p)=sg "(not "++p.tx++sg ")":=by
 show jn _=_;rw[wd,jw (by simp),j1 p.wd_ne,show sg "(not "=sg "("++sg "not"++sg " " by ac_rfl];simp[tx]
theorem tx_la(k:Int)(p:PT):tx (la k p)=sg "("++nW k++sg " later "++p.tx++sg ")":=by
 show jn _=_;rw[wd,jw (by simp),j1 (by simp),j1 p.wd_ne,show sg " later "=sg " "++sg "later"++sg " " by ac_rfl];simp[tx]
theorem ACZ:sg " of "=sg " "++sg "of"++sg " ":=∅
theorem tx_ev(k:Int)(p:PT)(d:Int):tx (ev k p d)=sg "(every "++nW k++sg " of "++p.tx++(sg " from "++nW d++sg ")"):=by
 show jn _=_;rw[wd,jw (by simp),j1 (by simp),j1 (by simp),j1 (by simp),ja p (by simp),j1 (by simp),ACZ,bW,show sg "(every "=sg "("++sg "every"++sg " " by ac_rfl];simp[jn]
theorem tx_nt(k:Int)(p q:PT):tx (nt k p q)=sg "("++nW k++sg " of "++p.tx++sg " from "++q.tx++sg ")":=by
 show jn _=_;rw[wd,jw (by simp),j1 (by simp),j1 (by simp),ja p (by simp),j1 q.wd_ne,ACZ,bW];simp[tx]
noncomputable def _root_.Fw.PK.t:PK->String | .an=>" and " | .or=>" or " | .bu=>" but " | .ul=>" unlike " | .up=>" upon " | .un=>" until " | .ne=>" near " | .ti=>" till "
theorem pk_t(w:PK):sg w.t=sg " "++sg w.s++sg " ":=by cases w<;>ac_rfl
theorem tx_pr(w:PK)(p q:PT):tx (pr w p q)=sg "("++p.tx++sg w.t++q.tx++sg ")":=by
 show jn _=_;rw[wd,jw (by simp[wd_ne]),ja p (by simp),j1 q.wd_ne,pk_t];simp[tx]
theorem lv_br:∀p:PT,p.lv<=p.br+1/\1<=p.lv/\p.deep<=p.br
 | lf _=>by simp[lv,br,deep]
 | each .. =>by simp[lv,br,deep]
 | date .. =>by simp[lv,br,deep]
 | no p=>by have:=lv_br p;simp only[lv,br,deep];lia
 | la _ p=>by have:=lv_br p;simp only[lv,br,deep];lia
 | ev _ p _=>by have:=lv_br p;simp only[lv,br,deep];lia
 | nt _ p q=>by have:=lv_br p;have:=lv_br q;simp only[lv,br,deep];lia
 | pr _ p q=>by have:=lv_br p;have:=lv_br q;simp only[lv,br,deep];lia
theorem rdy{p:PT}(h:p.ok)(hl:p.tx.length<=4000)(hd:p.deep<=40):spl 32 p.tx=p.wd/\TOk (sW p.tx)/\Dok 0 p.wd/\∀q∈p.wd,core q≠[]:=by
 have W:=wf h;refine⟨Wt W.ne W.bl,⟨GF.mpr fun c hc=>?_,by rw[Df];lia⟩,W.dk 0 ⋯,W.co⟩;rw[Bm] at hc;by_cases e:c=32
 ·lia
 ·obtain⟨w,hw,m⟩:=Xx e hc;exact W.as w hw c m
section
variable(g:Bs)
noncomputable def sz:PT->Int
 | lf _=>1
 | each n _=>n
 | date .. =>g.cy.2
 | no p=>p.sz
 | la _ p=>p.sz
 | ev k p _=>p.sz*k
 | nt _ p q=>CQ p.sz q.sz
 | pr _ p q=>CQ p.sz q.sz
noncomputable def _root_.Fw.ep(z:Int)(P:Nat->Prop):Nat:=Classical.epsilon fun c=>c<2^z.toNat/\P c
noncomputable def bt:PT->Nat
 | lf b=>ep 1 fun c=>c=if b then 1 else 0
 | each n r=>ep n fun c=>RB n [r] c
 | date _ m i _=>ep g.cy.2 fun c=>RB g.cy.2 (dtL g m i g.cy.1.toNat) c
 | no p=>ep (p.sz g) fun c=>OtR (p.sz g) (bt p) c
 | la k p=>ep (p.sz g) fun c=>c=ltr (p.sz g) (bt p) k
 | ev k p d=>ep (p.sz g*k) fun c=>∀e,On (p.sz g*k) c e=true<->Evr (p.sz g) (bt p) k d e
 | nt k p q=>ep (CQ (p.sz g) (q.sz g)) fun c=>WR (KtU k) (p.sz g) (bt p) (q.sz g) (bt q) (CQ (p.sz g) (q.sz g)) c
 | pr w p q=>ep (CQ (p.sz g) (q.sz g)) fun c=>w.R (p.sz g) (bt p) (q.sz g) (bt q) (CQ (p.sz g) (q.sz g)) c
def rl:PT->Nat->Prop
 | lf b,c=>c=if b then 1 else 0
 | each n r,c=>RB n [r] c
 | date _ m i _,c=>RB g.cy.2 (dtL g m i g.cy.1.toNat) c
 | no p,c=>OtR (p.sz g) (p.bt g) c/\p.bt g<2^(p.sz g).toNat/\rl p (p.bt g)
 | la k p,c=>c=ltr (p.sz g) (p.bt g) k/\p.bt g<2^(p.sz g).toNat/\rl p (p.bt g)
 | ev k p d,c=>(∀e,On (p.sz g*k) c e=true<->Evr (p.sz g) (p.bt g) k d e)/\p.bt g<2^(p.sz g).toNat/\rl p (p.bt g)
 | nt k p q,c=>WR (KtU k) (p.sz g) (p.bt g) (q.sz g) (q.bt g) (CQ (p.sz g) (q.sz g)) c/\(p.bt g<2^(p.sz g).toNat/\rl p (p.bt g))/\q.bt g<2^(q.sz g).toNat/\rl q (q.bt g)
 | pr w p q,c=>w.R (p.sz g) (p.bt g) (q.sz g) (q.bt g) (CQ (p.sz g) (q.sz g)) c/\(p.bt g<2^(p.sz g).toNat/\rl p (p.bt g))/\q.bt g<2^(q.sz g).toNat/\rl q (q.bt g)
end
def r0(g:Bs):PT->Nat->Prop
 | no p,c=>OtR (p.sz g) (p.bt g) c
 | la k p,c=>c=ltr (p.sz g) (p.bt g) k
 | ev k p d,c=>∀e,On (p.sz g*k) c e=true<->Evr (p.sz g) (p.bt g) k d e
 | nt k p q,c=>WR (KtU k) (p.sz g) (p.bt g) (q.sz g) (q.bt g) (CQ (p.sz g) (q.sz g)) c
 | pr w p q,c=>w.R (p.sz g) (p.bt g) (q.sz g) (q.bt g) (CQ (p.sz g) (q.sz g)) c
 | p,c=>p.rl g c
variable{g:Bs}
theorem ACd:∀{p:PT},p.rl g c->p.r0 g c
 | lf _,h=>h
 | each ..,h=>h
 | date ..,h=>h
 | no _,h=>h.1
 | la ..,h=>h.1
 | ev ..,h=>h.1
 | nt ..,h=>h.1
 | pr ..,h=>h.1
theorem uo{c':Nat}:∀{p:PT},c<2^(p.sz g).toNat->c'<2^(p.sz g).toNat->p.r0 g c->p.r0 g c'->c=c'
 | lf _,_,_,h,h'=>h.trans h'.symm
 | each ..,_,_,h,h'=>RB.uniq h h'
 | date ..,_,_,h,h'=>RB.uniq h h'
 | no _,_,_,h,h'=>OtR.uniq h h'
 | la ..,_,_,h,h'=>h.trans h'.symm
 | ev ..,l,l',h,h'=>Xk l l' fun d=>(h d).trans (h' d).symm
 | nt ..,l,l',h,h'=>Xk l l' fun d=>(h d).trans (h' d).symm
 | pr w _ _,l,l',h,h'=>by
  cases w
  all_goals first | exact Bo.uniq h h' | exact Xk l l' fun d=>(h d).trans (h' d).symm
theorem ADT(p:PT):p.bt g=ep (p.sz g) (p.r0 g):=by cases p<;>rfl
theorem bt_of{p:PT}(l:c<2^(p.sz g).toNat)(h:p.rl g c):p.bt g=c:=by
 have:=Classical.epsilon_spec (p:=fun c=>c<2^(p.sz g).toNat/\p.r0 g c) ⟨c,l,ACd h⟩;rw[ADT];exact uo this.1 l this.2 (ACd h)
theorem sz_pos(hD:SmC g):∀{p:PT},p.ok->0<p.sz g
 | lf _,_=>by simp only[sz];decide
 | each ..,h=>by have:=h.2.2.1;simp only[sz];lia
 | date ..,_=>by have:=hD.d0;simp only[sz];lia
 | no p,h=>sz_pos hD (p:=p) h
 | la _ p,h=>sz_pos hD (p:=p) h.2
 | ev k p _,h=>jv9 (sz_pos hD h.2.2.1) (by have:=h.2.2.2.1;lia)
 | nt _ p q,h=>(Bj (sz_pos hD h.2.1) (sz_pos hD h.2.2.1)).1
 | pr _ p q,h=>(Bj (sz_pos hD h.1) (sz_pos hD h.2)).1
end PT
def PT.kn:PT->Prop
 | .date nm _ _ y=>nm=sg "c"/\y=none
 | .no p=>p.kn
 | .la _ p=>p.kn
 | .ev _ p _=>p.kn
 | .nt _ p q=>p.kn/\q.kn
 | .pr _ p q=>p.kn/\q.kn
 | _=>True
def Dc(K:Fr)(CS CO CM:Addr)(g:Bs)(H:Hp)(a:Addr):Prop:=∃kv y,H a=some (.dK kv)/\GK kv (.inr (sW (sg "c")))=some (.ref y)/\Ey K CS CO CM H y g
theorem Dc.same{CS CO CM:Addr}(d:Dc K CS CO CM g H a)(s:BR H H'):Dc K CS CO CM g H' a:=by
 obtain⟨kv,y,h,e,C⟩:=d;exact⟨kv,y,s _ _ h,e,C.same s⟩
section
variable(K:Fr)(CR:Addr)(CL:List Addr)(CS CO CM:Addr)
def Tl(g:Bs)(p:PT)(H:Hp)(Q:VK):Prop:=∀x H',BR H H'->Cw K CR CL H' x (p.sz g) (p.bt g)->p.rl g (p.bt g)->Q (.ref x) H'
def uB:Sp:=fun vs H Q _=>Ex5 fun(v:V) (a:Addr) (m d:Option Int) (g:Bs)=>An6 (vs=[v,.ref a]) (PlH H (.date (sg "c") m d none) v) ((PT.date (sg "c") m d none).ok) (SmC g) (Dc K CS CO CM g H a) (Tl K CR CL g (.date (sg "c") m d none) H Q)
def uA:Sp:=fun vs H Q _=>Ex7 fun(w:PK) (x y:Addr) (n1 n2:Int) (b1 b2:Nat)=>An5 (vs=[.str w.s,.ref x,.ref y]) (Cw K CR CL H x n1 b1) (Cw K CR CL H y n2 b2) (CQ n1 n2<=150000) (∀z b H',BR H H'->Cw K CR CL H' z (CQ n1 n2) b->w.R n1 b1 n2 b2 (CQ n1 n2) b->Q (.ref z) H')
def RW(d:Nat):Sp:=fun vs H Q _=>Ex4 fun(v:V) (a:Addr) (p:PT) (g:Bs)=>An9 (vs=[v,.ref a]) (PlH H p v) p.ok p.kn (p.deep<d) (SmC g) (Dc K CS CO CM g H a) (p.sz g<=150000) (Tl K CR CL g p H Q)
def zJ:Sp:=fun vs H Q _=>Ex3 fun(a:Addr) (p:PT) (g:Bs)=>ABh (vs=[.str (sW p.tx),.ref a]) p.ok p.kn (p.tx.length<=4000) (p.deep<=40) (p.lv+p.br<=200) (SmC g) (Dc K CS CO CM g H a) (p.sz g<=150000) (Tl K CR CL g p H Q)
end
theorem Tl.go{CR:Addr}{CL:List Addr}{p:PT}(q:Tl K CR CL g p H Q)(s:BR H H')(N:Cw K CR CL H' x (p.sz g) b)(r:p.rl g b):Q (.ref x) H':=by
 have e:=PT.bt_of N.lt r;exact q x H' s (e.symm ▸ N) (e.symm ▸ r)
theorem Yq{CR:Addr}{CL:List Addr}{CS CO CM:Addr}{vs:List V}(h:RW K CR CL CS CO CM 0 vs H Q E):False:=by
 obtain⟨v,a,p,D,_,_,_,_,h,_⟩:=h;lia
section
variable{K:Fr}{CR:Addr}{CL:List Addr}{C:Addr}{H:Hp}{y dy:Addr}{Q:VK}{E:XK}
theorem Hm(hy:H y=none)(hdy:H dy=none)(ne:dy≠y):BR H (upd (upd H dy (.own y)) y o):=(Av hdy _).trans (Av (by rw[BP (Ne.symm ne)];exact hy) _)
theorem Lb.go{n:Int}{G:Nat->Prop}(hy:H y=none)(hdy:H dy=none)(ne:dy≠y)(q:∀b H',BR H H'->Cw K CR CL H' y n b->G b->Q .non H'):Lb K CR CL C (upd (upd H dy (.own y)) y (.ins C dy [])) y Q n G:=
 ⟨⟨dy,Ao⟩,fun b H' k N g=>q b H' (Vq hy hdy ne k) N g⟩
theorem AEI{R:Rel}{r t:Addr}(R1:Cw K CR CL H r n1 b1)(R2:Cw K CR CL H t n2 b2)(lz:CQ n1 n2<=150000)(hy:H y=none)(hdy:H dy=none)(ne:dy≠y)(q:∀b H',BR H H'->Cw K CR CL H' y (CQ n1 n2) b->R n1 b1 n2 b2 (CQ n1 n2) b->Q .non H'):MN K CR CL C R [.ref y,.ref r,.ref t] (upd (upd H dy (.own y)) y (.ins C dy [])) Q E:=
 ⟨y,r,t,n1,n2,b1,b2,rfl,R1.same (Hm hy hdy ne),R2.same (Hm hy hdy ne),lz,.go hy hdy ne q⟩
end
theorem ACn(w:PK):∀z∈["all","none","each","date","not","later","every","of"],Str.ofString w.s≠Str.ofString z:=by cases w<;>ac_rfl
theorem pP{a b:Int}(h1:0<a)(h2:0<b):a<=CQ a b/\b<=CQ a b:=by
 have f:=Bj h1 h2;exact⟨jp7 f.1 f.2.1,jp7 f.1 f.2.2.1⟩
theorem ADS(h:Sm i):Bt 200 i:=js3 h nofun
namespace PT
theorem tok_len:∀p:PT,p.tok.length<=10*(p.lv+p.br)
 | lf _=>by simp[tok,lv,br]
 | each .. =>by simp[tok,lv,br]
 | date _ _ _ none=>by simp[tok,yrW,lv,br]
 | date _ _ _ (some _)=>by simp[tok,yrW,lv,br]
 | no p=>by have:=tok_len p;simp[tok,lv,br];lia
 | la _ p=>by have:=tok_len p;simp[tok,lv,br];lia
 | ev _ p _=>by have:=tok_len p;simp[tok,lv,br];lia
 | nt _ p q=>by have:=tok_len p;have:=tok_len q;simp[tok,lv,br];lia
 | pr _ p q=>by have:=tok_len p;have:=tok_len q;simp[tok,lv,br];lia
theorem tok_ok{p:PT}(h:p.ok):∀w∈p.tok,TOk (sW w):=by
 have num:∀{n:Int},Sm n->TOk (sW (nW n)):=fun{n} h=>⟨GF.mpr fun c hc=>by rw[Bm] at hc;have:=Ii h c hc;lia,by rw[Df];have:=Er h;lia⟩;have str:∀{m:Option Int},okS m->TOk (sW (Fg m)):=fun{m} h=>by
  cases m with
  | none=>exact⟨∅,∅⟩
  | some i=>exact num (h i rfl)
 have all:∀{ws:List Wd} {w:Wd},TOk (sW w)->(∀x∈ws,TOk (sW x))->∀x∈w::ws,TOk (sW x):=fun h g x hx=>(zh.mp hx).elim (fun e=>e ▸ h) (g x);have app:∀{ws vs:List Wd},(∀x∈ws,TOk (sW x))->(∀x∈vs,TOk (sW x))->∀x∈ws++vs,TOk (sW x):=fun h g x hx=>(yb.mp hx).elim (h x) (g x);have nil:∀x∈([]:List Wd),TOk (sW x):=fun _ h=>nomatch h;have L:TOk (sW kL):=⟨∅,∅⟩;have R:TOk (sW kR):=⟨∅,∅⟩;have k1:TOk (sW (sg "each")):=⟨∅,∅⟩;have k2:TOk (sW (sg "from")):=⟨∅,∅⟩;have k3:TOk (sW (sg "of")):=⟨∅,∅⟩
 induction p with
 | lf b=>cases b<;>exact all ⟨∅,∅⟩ nil
 | each n r=>exact all k1 (all (num h.1) (all k2 (all (num h.2.1) nil)))
 | date nm m d y=>
  refine all ⟨∅,∅⟩ (all ⟨GF.mpr fun c hc=>by rw[Bm] at hc;have:=h.1.ch c hc;lia,by rw[Df];have:=h.1.hi;lia⟩ (all (str h.2.1) (all (str h.2.2.1) ?_)));cases y with
  | none=>exact nil
  | some y=>exact all k1 (all (num (h.2.2.2.1 y rfl).1) (all k2 (all (num (h.2.2.2.1 y rfl).2.1) nil)))
 | no p i=>exact all L (all ⟨∅,∅⟩ (app (i h) (all R nil)))
 | la k p i=>exact all L (all (num h.1) (all ⟨∅,∅⟩ (app (i h.2) (all R nil))))
 | ev k p d i=>exact all L (all ⟨∅,∅⟩ (all (num h.1) (all k3 (app (i h.2.2.1) (all k2 (all (num h.2.1) (all R nil)))))))
 | nt k p q i j=>exact all L (all (num h.1) (all k3 (app (i h.2.1) (all k2 (app (j h.2.2.1) (all R nil))))))
 | pr w p q i j=>
  have:TOk (sW (sg w.s)):=by cases w<;>exact⟨∅,∅⟩
  exact all L (app (i h.1) (all this (app (j h.2) (all R nil))))
end PT
theorem FW{x:V}:atI (x::xs) 0=some x:=Dw (j:=0) rfl
theorem Jj{x:V}:atI (x::y::xs) 1=some y:=Dw (j:=1) rfl
theorem YL{x z:V}:atI (x::y::z::xs) 2=some z:=Dw (j:=2) rfl
theorem wW{x z u:V}:atI (x::y::z::u::xs) 3=some u:=Dw (j:=3) rfl
theorem AEZ{x z u v:V}:atI (x::y::z::u::v::xs) 4=some v:=Dw (j:=4) rfl
theorem AEX{x z u v w:V}:atI (x::y::z::u::v::w::xs) 5=some w:=Dw (j:=5) rfl
def Rnd(M:Nat)(H:Hp)(p:Addr)(n b:Nat):Prop:=0<n/\n<=M/\b<2^n/\H p=some (.tup [.int (n:Int),.int (b:Int)])
theorem Rnd.keep{M:Nat}{n:Nat}(h:Rnd M H p n b)(s:BR H H'):Rnd M H' p n b:=⟨h.1,h.2.1,h.2.2.1,s _ _ h.2.2.2⟩
theorem Rnd.sq{M:Nat}{n:Nat}(h:Rnd M H p n b):SqT K H p [.int (n:Int),.int (b:Int)]:=SqT.of h.2.2.2
theorem Rnd.lt{M:Nat}{n:Nat}(h:Rnd M H p n b):b<2^((n:Int)).toNat:=by rw[zw];exact h.2.2.1
theorem Rnd.n0{M:Nat}{n:Nat}(h:Rnd M H p n b):(0:Int)<(n:Int):=by have:=h.1;lia
def nG:Sp:=fun vs H Q _=>∃n:Nat,An4 (vs=[.int (n:Int)]) (0<n) (n<=150000) (∀(lp:Addr) (H':Hp) (ps:List Nat),H lp=none->BR H H'->H' lp=some (.lst (ps.map fun(p:Nat)=>V.int (p:Int)))->rN n ps->ps.length<=200000->Q (.ref lp) H')
def uN(K:Fr):Sp:=fun vs H Q _=>Ex4 fun(a:Addr) (z c s:Nat)=>An6 (vs=[.ref a,.int (s:Int)]) (SqT K H a [.int (z:Int),.int (c:Int)]) (0<s) (s<=z) (z<=150000) (Q (.bl (decide (c >>> s=c &&& (2^(z-s)-1)))) H)
def nP(K:Fr):Sp:=fun vs H Q _=>Ex3 fun(a:Addr) (n b:Nat)=>An6 (vs=[.ref a]) (SqT K H a [.int (n:Int),.int (b:Int)]) (0<n) (n<=150000) (b<2^n) (∀(p:Addr) (H':Hp) (z c:Nat),BR H H'->H' p=some (.tup [.int (z:Int),.int (c:Int)])->Lst n b z c->Q (.ref p) H')
theorem take_snoc{α:Type}{xs:List α}{i:Nat}{x:α}(h:xs[i]?=some x){y:α}(hy:y∈xs.take (i+1)):y∈xs.take i\/y=x:=by
 rw[ky,h] at hy;rcases yb.mp hy with z | z
 ·exact .inl z
 ·exact .inr (by simpa using z)
structure Prt(n b m c:Nat)(d e:Int):Prop where
 ge:d<=e
 lt:e<d+((n:Int)+(m:Int)-(Int.gcd (n:Int) (m:Int):Int))
 ne:On (n:Int) b e≠On (m:Int) c e
 eq:∀x,d<=x->x<e->On (n:Int) b x=On (m:Int) c x
def nR:Sp:=fun vs H Q _=>Ex7 fun(a1 a2:Addr) (n b m c:Nat) (d:Int)=>An5 (vs=[.ref a1,.ref a2,.int d]) (Rnd 70000 H a1 n b) (Rnd 70000 H a2 m c) (¬∀e,On (n:Int) b e=On (m:Int) c e) (∀(e:Int) (H':Hp),BR H H'->Prt n b m c d e->Q (.int e) H')
inductive Sme(H:Hp)(p:Addr)(n b m c:Nat)(d:Int):Prop
 | same (t:Addr) (z x:Nat):H p=some (.tup [.str "same",.ref t])->H t=some (.tup [.int (z:Int),.int (x:Int)])->Lst n b z x->Lst m c z x->Sme H p n b m c d
 | parted (e:Int):H p=some (.tup [.str "parted",.int e])->Prt n b m c d e->Sme H p n b m c d
def zG:Sp:=fun vs H Q _=>Ex7 fun(a1 a2:Addr) (n b m c:Nat) (d:Int)=>An4 (vs=[.ref a1,.ref a2,.int d]) (Rnd 70000 H a1 n b) (Rnd 70000 H a2 m c) (∀(p:Addr) (H':Hp),BR H H'->Sme H' p n b m c d->Q (.ref p) H')
noncomputable def tW(t:Tm):Wd:=43::Fb 44 ([t.2.1,t.2.2.1,t.2.2.2].map nW)
noncomputable def wC:Bs->List Wd
 | .sun s ls lp ts=>nW s::Fb 44 (ls.map nW)::sg "leap"::nW lp::ts.map tW
 | .moon s bd td bm tm=>nW s::nW bd::(td.map tW++sg "/"::nW bm::tm.map tW)
noncomputable def hC:Bs->String
 | .sun .. =>"sun"
 | .moon .. =>"moon"
noncomputable def wdC(g:Bs):List Wd:=sg (hC g)::wC g
structure Ok1(a b n:Int):Prop where
 n0:1<=n
 n1:n<=3
 a0:0<=a
 a1:a<=n
 b0:0<=b
 b1:b<n
inductive OkC:Bs->Prop
 | sun {s lp a b n:Int} {ls:List Int}:Sm s->2<=ls.length->ls.length<=3->(∀n∈ls,1<=n/\n<=4)->1<=lp->lp<=2->Ok1 a b n->OkC (.sun s ls lp [(1,a,b,n)])
 | moon {s bd a b n bm c e y:Int}:Sm s->1<=bd->bd<=3->Ok1 a b n->n<=2->1<=bm->bm<=3->Ok1 c e y->y<=2->OkC (.moon s bd [(1,a,b,n)] bm [(1,c,e,y)])
theorem Ok1.tm{a b n:Int}(o:Ok1 a b n):∀t∈[((1,a,b,n):Tm)],OkT t:=fun t ht=>by
 rw[xb.mp ht];exact⟨.inl rfl,o.n0,jo2 o.n1 nofun,o.a0,o.a1,o.b0,o.b1⟩
theorem sm1(h1:0<=i)(h2:i<=60):Sm i:=Ir ⋯ ⋯
theorem Ok1.sm{a b n:Int}(o:Ok1 a b n):∀i∈[a,b,n],Sm i:=fun i hi=>by
 obtain⟨n0,n1,a0,a1,b0,b1⟩:=o;simp only[zh,vv,or_false] at hi;exact sm1 ⋯ ⋯
theorem cC{a b n:Int}(h:1<=n):PER [((1,a,b,n):Tm)]=n:=Xv nofun (show 0<n by lia) (jw1 n)
theorem up1{c a b n u:Int}(o:Ok1 a b n):UP c [(1,a,b,n)] (n*u)=(c*n+a)*u:=by
 have n0:=o.n0;show c*(n*u)+(1*((a*(n*u)+b)/n)+0)=_;rw[show a*(n*u)+b=b+n*(a*u) by rw[jn4];lia,jn9 _ _ ⋯,jc7 o.b0 o.b1,jj6,jd2];lia
theorem mZ{ls:List Int}(h:∀n∈ls,1<=n/\n<=4)(l:ls.length<=3):(ls.length:Int)<=ls.sum/\ls.sum<=12:=by
 match ls,h,l with
 | [],_,_=>exact⟨nofun,nofun⟩
 | [a],h,_=>have:=h a (.head _);simp;lia
 | [a,b],h,_=>have:=h a (.head _);have:=h b (.tail _ (.head _));simp;lia
 | [a,b,c],h,_=>have:=h a (.head _);have:=h b (.tail _ (.head _));have:=h c (.tail _ (.tail _ (.head _)));simp;lia
theorem OkC.good(o:OkC g):g.good:=by
 cases o with
 | sun hs l0 l1 hm p0 p1 o=>
  rename_i s lp a b n ls
  have sb:=mZ hm l1;have e:falls [((1,a,b,n):Tm)]=0:=rfl;refine⟨⋯,⋯,fun n hn=>by have:=hm n hn;lia,p0,⋯,?_,by rw[e];lia,o.tm,(by show 1<=6;decide)⟩;rw[e,Qr,qm ⋯];have:=hm _ (jp1 (show (lp-1).toNat<ls.length by lia));show 0<=ls[(lp-1).toNat];lia
 | moon hs d0 d1 o _ m0 m1 o' _=>exact⟨(by show(0:Int)<_;lia),⋯,(by show(0:Int)<_;lia),⋯,o.tm,o'.tm,(by show 1<=6;decide),(by show 1<=6;decide)⟩
theorem OkC.bs(o:OkC g):Bt 290 g.st:=by
 cases o with
 | sun hs=>exact js3 hs nofun
 | moon hs=>exact js3 hs nofun
noncomputable def dyC:Bs->Int
 | .sun _ ls _ ts=>(ls.sum*(ts.map (·.2.2.2)).sum+(ts.map (·.2.1)).sum)
 | .moon _ bd td bm tm=>(bm*(tm.map (·.2.2.2)).sum+(tm.map (·.2.1)).sum)*(bd*(td.map (·.2.2.2)).sum+(td.map (·.2.1)).sum)
theorem OkC.cy(o:OkC g):SmC g/\g.cy.2∣dyC g/\1<=dyC g/\dyC g<=64:=by
 cases o with
 | sun hs l0 l1 hm p0 p1 o=>
  rename_i s lp a b n ls
  have sb:=mZ hm l1;obtain⟨n0,n1,a0,a1,_,_⟩:=id o;have e1:(Bs.sun s ls lp [(1,a,b,n)]).cy.1=n:=cC n0;have e2:(Bs.sun s ls lp [(1,a,b,n)]).cy.2=ls.sum*n+a:=by
   show UP ls.sum [(1,a,b,n)] (PER [(1,a,b,n)])=_;have:=up1 (c:=ls.sum) (u:=1) o;rw[jb6,jb6] at this;rw[cC n0,this]
  have e3:dyC (.sun s ls lp [(1,a,b,n)])=ls.sum*n+a:=by show ls.sum*(n+0)+(a+0)=_;rw[jd5,jd5]
  have h1:1*1<=ls.sum*n:=ki ⋯ n0 nofun ⋯;have h2:ls.sum*n<=12*3:=ki ⋯ n1 ⋯ nofun;exact⟨⟨⋯,⋯,⋯,⋯⟩,by rw[e2,e3];exact Xs _,⋯,⋯⟩
 | moon hs d0 d1 o n2 m0 m1 o' y2=>
  rename_i s bd a b n bm c e y
  obtain⟨n0,_,a0,a1,_,_⟩:=id o;obtain⟨y0,_,c0,c1,_,_⟩:=id o';have eM:UP bm [(1,c,e,y)] (PER [(1,c,e,y)])=bm*y+c:=by
   have:=up1 (c:=bm) (u:=1) o';rw[jb6,jb6] at this;rw[cC y0,this]
  have h1:1*1<=bm*y:=ki ⋯ y0 nofun ⋯;have h2:bm*y<=3*2:=ki ⋯ y2 ⋯ nofun;have h3:1*1<=bd*n:=ki ⋯ n0 nofun ⋯;have h4:bd*n<=3*2:=ki ⋯ n2 ⋯ nofun;have e3:dyC (.moon s bd [(1,a,b,n)] bm [(1,c,e,y)])=(bm*y+c)*(bd*n+a):=by
   show(bm*(y+0)+(c+0))*(bd*(n+0)+(a+0))=_;simp only[jd5]
  have e1:(Bs.moon s bd [(1,a,b,n)] bm [(1,c,e,y)]).cy=(y*moT [(1,a,b,n)] bm [(1,c,e,y)],UP bd [(1,a,b,n)] ((bm*y+c)*moT [(1,a,b,n)] bm [(1,c,e,y)])):=by
   show(_,_)=_;rw[eM,cC y0]
  have eT:moT [(1,a,b,n)] bm [(1,c,e,y)]=n/(Int.gcd n (bm*y+c):Int):=by
   unfold moT;rw[cC n0,eM]
  have hM:1<=bm*y+c/\bm*y+c<=8:=⋯;generalize bm*y+c=M at*
  have g0:(0:Int)<(Int.gcd n M:Int):=Mz (b:=M) ⋯;obtain⟨v,hv⟩:=ji9 (a:=n) (b:=M);obtain⟨u,hu⟩:=jk3 (a:=n) (b:=M);generalize (Int.gcd n M:Int)=G at*
  have ev:n/G=v:=by rw[hv,jl0 _ ⋯]
  have eU:M*v=n*u:=by
   conv=>lhs;rw[hu]
   conv=>rhs;rw[hv]
   rw[jd2,jd2,Jn u v]
  rw[eT,ev,eU,up1 o] at e1;have v0:0<v:=Int.pos_of_mul_pos_right (a:=G) ⋯ ⋯;have u0:0<u:=Int.pos_of_mul_pos_right (a:=G) ⋯ ⋯;have vn:v<=n:=by rw[<-ev];exact jf3 _ ⋯
  have uM:u<=M:=jp7 ⋯ ⟨G,by rw[Jn];exact hu⟩;have h5:1*1<=y*v:=ki y0 ⋯ nofun ⋯;have h6:y*v<=2*2:=ki y2 ⋯ ⋯ nofun;have h7:1*1<=(bd*n+a)*u:=ki ⋯ ⋯ nofun ⋯;have h8:(bd*n+a)*u<=8*8:=ki ⋯ ⋯ ⋯ nofun;have h9:1*1<=M*(bd*n+a):=ki ⋯ ⋯ nofun ⋯;have h10:M*(bd*n+a)<=8*8:=ki ⋯ ⋯ ⋯ nofun;rw[e3];refine⟨⟨?_,?_,?_,?_⟩,?_,⋯,⋯⟩<;>rw[e1]
  ·exact h5
  ·exact jo2 h6 nofun
  ·exact h7
  ·exact h8
  ·exact⟨G,by show _=(bd*n+a)*u*G;rw[hu,Jn G u,jd2,Jn G,<-jd2,Jn u]⟩
noncomputable def wvS(ws:List Wd):List V:=ws.map fun w=>.str (sW w)
theorem Ho(xs:List V)(k:Nat):Ij xs (some (k:Int)) none=xs.drop k:=by
 unfold Ij;rw[HT.sIx_nat,HT.sIx_none];by_cases h:k<=xs.length
 ·rw[jm6 h,va (by rw[jb3];exact qo _)]
 ·rw[ju7 ⋯,uu (qo _),uu ⋯,List.take_nil]
theorem sn(h:¬(c=45\/48<=c/\c<=57)){i:Int}(g:Sm i):c∉nW i:=fun z=>h (Ii g c z)
theorem cP{ns:List Int}(hn:ns≠[])(h:∀n∈ns,Sm n):(Jv 44 (sW (Fb 44 (ns.map nW)))).map V.str=ns.map fun n=>V.str (sW (nW n)):=by
 cases ns with
 | nil=>exact absurd rfl hn
 | cons n r=>
  rw[show Jv 44 (sW (Fb 44 ((n::r).map nW)))=(spl 44 (cpl (sW (Fb 44 ((n::r).map nW))))).map sW from rfl,zv,Bm,Ve 44 _ _ fun x hx=>by
   obtain⟨i,hi,rfl⟩:=yv.mp (show x∈(n::r).map nW from hx);exact sn nofun (h i hi)]
  simp
theorem Vu(c k:Nat):∀{ws:List (List Nat)},(∀w∈ws,w.length<=k)->(Fb c ws).length<=ws.length*(k+1)
 | [],_=>ka _
 | [w],h=>by
  have:=h w qf;show(w++[]).length<=1*(k+1);rw[yk];lia
 | w::y::ws,h=>by
  have a:=h w qf;have b:=Vu c k (ws:=y::ws) fun x hx=>h x (qk _ hx);rw[S7,ze,qr,qr (as:=y::ws),js5];lia
theorem Mw{ns:List Int}(h:∀n∈ns,Sm n):(Fb 44 (ns.map nW)).length<=ns.length*42:=by
 have:=Vu 44 41 (ws:=ns.map nW) fun w hw=>by
  obtain⟨n,hn,rfl⟩:=yv.mp hw;exact Er (h n hn)
 rwa [js] at this
theorem pX{P:Nat->Prop}(hc:P c):∀{ws:List (List Nat)},(∀w∈ws,∀a∈w,P a)->∀a∈Fb c ws,P a
 | [],_,a,ha=>by cases ha
 | w::ws,h,a,ha=>by
  rcases yb.mp ha with z | z
  ·exact h w qf a z
  ·obtain⟨x,hx,hz⟩:=List.mem_flatten.mp z;obtain⟨y,hy,rfl⟩:=yv.mp hx;rcases zh.mp hz with e | e
   ·rw[e];exact hc
   ·exact h y (qk _ hy) a e
theorem vB(h:Sm i):TOk (sW (nW i)):=⟨GF.mpr fun c hc=>by rw[Bm] at hc;have:=Ii h c hc;lia,by rw[Df];have:=Er h;lia⟩
def wch(c:Nat):Prop:=43<=c/\c<=122
theorem vA{ns:List Int}(h:∀n∈ns,Sm n):∀c∈Fb 44 (ns.map nW),wch c:=pX (by unfold wch;lia) fun w hw c hc=>by
 obtain⟨n,hn,rfl⟩:=yv.mp hw;have:=Ii (h n hn) c hc;unfold wch;lia
theorem OkC.ch(o:OkC g):∀w∈wdC g,w.length<=200/\∀c∈w,wch c:=fun w hw=>by
 have num:∀{i:Int},Sm i->(nW i).length<=200/\∀c∈nW i,wch c:=fun h=>⟨by have:=Er h;lia,fun c hc=>by have:=Ii h c hc;unfold wch;lia⟩;have lst:∀{ns:List Int},ns.length<=3->(∀n∈ns,Sm n)->(Fb 44 (ns.map nW)).length<=126/\∀c∈Fb 44 (ns.map nW),wch c:=fun l h=>⟨zo (Mw h) ⋯,vA h⟩;have tm:∀{a b n:Int},Ok1 a b n->(tW (1,a,b,n)).length<=200/\∀c∈tW (1,a,b,n),wch c:=fun{a b n} o=>by
  have:=lst (ns:=[a,b,n]) (by show 3<=3;decide) o.sm;refine⟨by show(Fb 44 ([a,b,n].map nW)).length+1<=_;lia,fun c hc=>?_⟩;rcases zh.mp hc with e | e
  ·unfold wch;lia
  ·exact this.2 c e
 have all:∀{z:String},(sg z).length<=4->(∀c∈sg z,wch c)->(sg z).length<=200/\∀c∈sg z,wch c:=fun h g=>⟨⋯,g⟩;cases o with
 | sun hs l0 l1 hm p0 p1 o=>
  simp only[wdC,hC,wC,zh,vv,or_false,zv,jl2] at hw;rcases hw with rfl | rfl | rfl | rfl | rfl | rfl
  ·exact all ∅ (by unfold wch;ac_rfl)
  ·exact num hs
  ·have:=lst l1 fun n hn=>sm1 (by have:=hm n hn;lia) (by have:=hm n hn;lia);exact⟨⋯,this.2⟩
  ·exact all ∅ (by unfold wch;ac_rfl)
  ·exact num (sm1 ⋯ ⋯)
  ·exact tm o
 | moon hs d0 d1 o _ m0 m1 o' _=>
  simp only[wdC,hC,wC,zh,yb,vv,or_false,zv,jl2,false_or] at hw;rcases hw with rfl | rfl | rfl | rfl | rfl | rfl | rfl
  ·exact all ∅ (by unfold wch;ac_rfl)
  ·exact num hs
  ·exact num (sm1 ⋯ ⋯)
  ·exact tm o
  ·exact all ∅ (by unfold wch;ac_rfl)
  ·exact num (sm1 ⋯ ⋯)
  ·exact tm o'
noncomputable def JZ(g:Bs):Wd:=jn (wdC g)
theorem cY(k:Nat):∀(ws:List Wd),(∀w∈ws,w.length<=k)->(jn ws).length<=ws.length*(k+1)
 | [],_=>ka _
 | [w],h=>by have:=h w qf;show w.length<=1*(k+1);lia
 | w::y::r,h=>by
  have:=cY k (y::r) fun x hx=>h x (qk _ hx);have:=h w qf;rw[JV (by simp),ze,qr,qr (as:=y::r),js5];lia
theorem OkC.tx(o:OkC g):spl 32 (JZ g)=wdC g/\(JZ g).length<=2000/\TOk (sW (JZ g)):=by
 have h:=o.ch;have l:(JZ g).length<=2000:=by
  have a:=cY 200 (wdC g) fun w hw=>(h w hw).1;have b:(wdC g).length<=7:=by cases o<;>simp[wdC,wC]
  exact zo a (zo (jg9 _ b) nofun)
 refine⟨Wt (by simp[wdC]) fun w hw z=>by have:=(h w hw).2 32 z;unfold wch at this;lia,l,GF.mpr fun c hc=>?_,by rw[Df];lia⟩;rw[Bm] at hc;by_cases e:c=32
 ·lia
 ·obtain⟨w,hw,m⟩:=Xx e hc;have:=(h w hw).2 c m;unfold wch at this;lia
def nA:Sp:=fun vs H Q _=>∃i:Int,An3 (vs=[.str (sW (nW i))]) (Sm i) (∀H',BR H H'->Q (.int i) H')
def iz:Sp:=fun vs H Q _=>∃ns:List Int,An5 (vs=[.str (sW (Fb 44 (ns.map nW)))]) (ns≠[]) (ns.length<=3) (∀n∈ns,Sm n) (∀(l:Addr) H',H l=none->BR H H'->H' l=some (.lst (ns.map V.int))->Q (.ref l) H')
def m9:Sp:=fun vs H Q _=>Ex3 fun(a b n:Int)=>An3 (vs=[.str (sW (tW (1,a,b,n)))]) (∀i∈[a,b,n],Sm i) (∀(p:Addr) H',BR H H'->H' p=some (.tup (tmV (1,a,b,n)))->Q (.ref p) H')
def iy:Sp:=fun vs H Q _=>Ex4 fun(l:Addr) (a b n:Int)=>An4 (vs=[.ref l]) (H l=some (.lst (wvS [tW (1,a,b,n)]))) (∀i∈[a,b,n],Sm i) (∀(l' p:Addr) H',BR H H'->H' l'=some (.lst [.ref p])->H' p=some (.tup (tmV (1,a,b,n)))->Q (.ref l') H')
def Yn(K:Fr)(CS CO CM:Addr)(w:String):Sp:=fun vs H Q _=>Ex2 fun(l:Addr) (g:Bs)=>An5 (vs=[.ref l]) (H l=some (.lst (wvS (wC g)))) (hC g=w) (OkC g) (∀(x:Addr) H',BR H H'->Ey K CS CO CM H' x g->Q (.ref x) H')
def nD(K:Fr)(CS CO CM:Addr):Sp:=fun vs H Q _=>∃g:Bs,An3 (vs=[.str (sW (JZ g))]) (OkC g) (∀(x:Addr) H',BR H H'->Ey K CS CO CM H' x g->Q (.ref x) H')
theorem qI{b:Int}(f:falls ts<b)(h:b<=1000):We b ts:=⟨by have:=qO (ts:=ts);lia,⋯,ja0 f⟩
def Kd(H H':Hp):Prop:=∀y o,(∀kv,o≠.dK kv)->H y=some o->H' y=some o
section
variable{K:Fr}{CS CO CM CR C x:Addr}{CL:List Addr}{H H' H2:Hp}
theorem Kd.of(s:BR H H'):Kd H H':=fun y o _ h=>s y o h
theorem Kd.trans(a:Kd H H')(b:Kd H' H2):Kd H H2:=fun y o n h=>b y o n (a y o n h)
theorem Kd.put{kv kv':List (Key×V)}(h:H a=some (.dK kv)):Kd H (upd H a (.dK kv')):=fun y o n e=>by
 rw[BP fun z=>by rw[z,h] at e;exact n kv (uk e).symm];exact e
theorem Kd.ins(k:Kd H H'){d:Addr}{fs:List (Str×V)}(h:H x=some (.ins C d fs)):H' x=some (.ins C d fs):=k _ _ (fun _ z=>nomatch z) h
theorem Kd.tup(k:Kd H H'){xs:List V}(h:H x=some (.tup xs)):H' x=some (.tup xs):=k _ _ (fun _ z=>nomatch z) h
theorem Kd.lst(k:Kd H H'){xs:List V}(h:H x=some (.lst xs)):H' x=some (.lst xs):=k _ _ (fun _ z=>nomatch z) h
theorem SqT.kd(k:Kd H H'){xs:List V}(h:SqT K H x xs):SqT K H' x xs:=by
 rcases h with (h | ⟨o,h⟩) | h
 ·exact .inl (.inl (k.tup h))
 ·exact .inl (.inr ⟨o,k _ _ (fun _ z=>nomatch z) h⟩)
 ·exact .inr h
theorem Tms.kd(k:Kd H H'):∀{vs:List V} {ts:List Tm},Tms H vs ts->Tms H' vs ts
 | _,_,.nil=>.nil
 | _,_,.cons h t=>.cons (k.tup h) (Tms.kd k t)
theorem Me.kd(k:Kd H H'){b:Int}{ts:List Tm}(M:Me K CM H x b ts):Me K CM H' x b ts:=by
 obtain⟨⟨dy,q,h3,⟨⟨vs,h4,h5⟩,h6,h7⟩⟩,h8,h9⟩:=M;exact⟨⟨dy,q,k.ins h3,⟨⟨vs,SqT.kd k h4,h5.kd k⟩,h6,h7⟩⟩,h8,h9⟩
theorem Ey.kd(k:Kd H H'){g:Bs}(S:Ey K CS CO CM H x g):Ey K CS CO CM H' x g:=by
 cases g with
 | sun=>
  obtain⟨⟨dx,p,y,h1,h2,h3⟩,h10,h11⟩:=S;exact⟨⟨dx,p,y,k.ins h1,SqT.kd k h2,Me.kd k h3⟩,h10,h11⟩
 | moon=>
  obtain⟨⟨dx,d,m,h1,h2,h3⟩,h10,h11⟩:=S;exact⟨⟨dx,d,m,k.ins h1,Me.kd k h2,Me.kd k h3⟩,h10,h11⟩
theorem Cw.kd(k:Kd H H'){n:Int}{b:Nat}(R:Cw K CR CL H x n b):Cw K CR CL H' x n b:=by
 obtain⟨⟨C,dx,p,pm,pw,h1,h2,h3,h4⟩,n0,n1,lt⟩:=R;exact⟨⟨C,dx,p,pm,pw,h1,h2,k.ins h3,k.tup h4⟩,n0,n1,lt⟩
end
structure Cs where
 (D S O M R:Addr) (L:List Addr)
def wy(K:Fr)(cs:Cs)(H:Hp)(a:Addr):Option Bs->Prop
 | none=>H a=some (.dK [])
 | some g=>Dc K cs.S cs.O cs.M g H a
structure Dk(K:Fr)(cs:Cs)(H:Hp)(x:Addr)(c:Option Bs)(j:Nat)(m:Wd->Option (Nat×Nat)):Prop where
 ex:∃dx a r kv,H x=some (.ins cs.D dx [("calendars",.ref a),("rules",.ref r)])/\wy K cs H a c/\H r=some (.dK kv)/\kv.length<=j/\r≠a/\∀nm n b,m nm=some (n,b)->∃y,GK kv (.inr (sW nm))=some (.ref y)/\Cw K cs.R cs.L H y (n:Int) b
noncomputable def setM(m:Wd->Option (Nat×Nat))(nm:Wd)(v:Nat×Nat):Wd->Option (Nat×Nat):=fun k=>if k=nm then some v else m k
section
variable{K:Fr}{cs:Cs}{H H':Hp}{x:Addr}{c:Option Bs}{j:Nat}{m:Wd->Option (Nat×Nat)}
theorem wy.same(C:wy K cs H a c)(s:BR H H'):wy K cs H' a c:=by
 cases c with
 | none=>exact s _ _ C
 | some D=>exact Dc.same C s
theorem Dk.same(d:Dk K cs H x c j m)(s:BR H H'):Dk K cs H' x c j m:=by
 obtain⟨dx,a,r,kv,h1,h2,h3,h4,h5,h6⟩:=d.ex;exact⟨dx,a,r,kv,s _ _ h1,h2.same s,s _ _ h3,h4,h5,fun nm n b e=>by
  obtain⟨y,g1,g2⟩:=h6 nm n b e;exact⟨y,g1,g2.same s⟩⟩
end
inductive Wk where
 | nm (w:Wd) | tx (w:Wd) | ru (w:Wd) | nu (i:Int)
noncomputable def Wk.k:Wk->Str | .nm _=>"NAME" | .tx _=>"TEXT" | .ru _=>"RULE" | .nu _=>"NUMBER"
noncomputable def Wk.w:Wk->Wd | .nm w=>w | .tx w=>w | .ru w=>w | .nu i=>nW i
def Wk.ok:Wk->Prop
 | .nm w=>Jl w
 | .tx w=>w.length<=4000/\∀c∈w,c<128
 | .ru w=>Jl w
 | .nu i=>Sm i
inductive Row where
 | cal (g:Bs) | rule (nm:Wd) (p:PT) | on (nm:Wd) (d:Int) | size (nm:Wd) | same (a b:Wd) (d:Int)
noncomputable def Row.ws:Row->List Wk
 | .cal g=>[.nm (sg "c"),.tx (JZ g)]
 | .rule nm p=>[.nm nm,.tx p.tx]
 | .on nm d=>[.ru nm,.nu d]
 | .size nm=>[.ru nm]
 | .same a b d=>[.ru a,.ru b,.nu d]
noncomputable def Row.hd:Row->Str | .cal .. =>"calendar" | .rule .. =>"rule" | .on .. =>"on" | .size .. =>"size" | .same .. =>"same"
noncomputable def Row.fi:Row->Nat | .cal .. =>0 | .rule .. =>2 | .on .. =>6 | .size .. =>11 | .same .. =>12
def Row.ok(R:Row):Prop:=∀w∈R.ws,w.ok
noncomputable def Row.T(R:Row):Wd:=jn (cpl R.hd::R.ws.map Wk.w)
noncomputable def wkV(ws:List Wk):List V:=ws.map fun w=>.str (sW w.w)
noncomputable def dB(t:Nat->Addr):List (Key×V):=[(.inr "calendar",.ref (t 0)),(.inr "change",.ref (t 1)),(.inr "rule",.ref (t 2)),(.inr "date",.ref (t 3)),(.inr "day",.ref (t 4)),(.inr "move",.ref (t 5)),(.inr "on",.ref (t 6)),(.inr "next",.ref (t 7)),(.inr "last",.ref (t 8)),(.inr "nth",.ref (t 9)),(.inr "count",.ref (t 10)),(.inr "size",.ref (t 11)),(.inr "same",.ref (t 12)),(.inr "meet",.ref (t 13)),(.inr "within",.ref (t 14)),(.inr "shorter",.ref (t 15)),(.inr "show",.ref (t 16)),(.inr "almanac",.ref (t 17))]
structure rW(P:Program)(w:World)(K:Fr)(mg:Str->Option Value)(a:Addr)(t:Nat->Addr):Prop where
 m:mg "FORMS"=some (.ref a)
 d:KD P w K a (dB t)
 s:∀(R:Row) (H:Hp),SqT K H (t R.fi) (R.ws.map fun w=>V.str w.k)
theorem S9(t:Nat->Addr)(R:Row):GK (dB t) (.inr R.hd)=some (.ref (t R.fi)):=by cases R<;>rfl
noncomputable def AEa(t:Nat->Addr):List (Key×V):=[(.inr "date",.ref (t 0)),(.inr "day",.ref (t 1)),(.inr "move",.ref (t 2)),(.inr "on",.ref (t 3)),(.inr "next",.ref (t 4)),(.inr "last",.ref (t 5)),(.inr "nth",.ref (t 6)),(.inr "count",.ref (t 7)),(.inr "size",.ref (t 8)),(.inr "same",.ref (t 9)),(.inr "meet",.ref (t 10)),(.inr "within",.ref (t 11)),(.inr "shorter",.ref (t 12)),(.inr "show",.ref (t 13)),(.inr "almanac",.ref (t 14))]
structure AEo(P:Program)(w:World)(K:Fr)(mg:Str->Option Value)(a:Addr)(t:Nat->Addr):Prop where
 m:mg "ANSWERS"=some (.ref a)
 d:KD P w K a (AEa t)
 g3:mg "tell_on"=some (.ref (t 3))
 g8:mg "tell_size"=some (.ref (t 8))
 g9:mg "tell_same"=some (.ref (t 9))
theorem Jl.wc{w:Wd}(h:Jl w):w≠[]/\∀c∈w,wch c:=⟨fun z=>by have:=h.lo;rw[z] at this;exact absurd this nofun,fun c hc=>by have:=h.ch c hc;unfold wch;lia⟩
theorem Wk.box{k:Wk}(h:k.ok):(∀a∈k.w,a<128)/\k.w.length<=4000/\((∀d,k≠.tx d)->32∉k.w):=by
 have fin:(∀a∈k.w,wch a)->k.w.length<=4000->(∀a∈k.w,a<128)/\k.w.length<=4000/\((∀d,k≠.tx d)->32∉k.w):=fun c l=>⟨fun a ha=>by have:=c a ha;unfold wch at this;lia,l,fun _ z=>by have:=c 32 z;unfold wch at this;lia⟩;cases k with
 | nm n=>exact fin (Jl.wc h).2 (by have:=Jl.hi h;show n.length<=_;lia)
 | ru n=>exact fin (Jl.wc h).2 (by have:=Jl.hi h;show n.length<=_;lia)
 | nu i=>exact fin (fun a ha=>by have:=Ii h a ha;unfold wch;lia) (zo (Er h) nofun)
 | tx d=>exact⟨h.2,h.1,fun z=>absurd rfl (z d)⟩
theorem X3(R:Row):(∀a∈cpl R.hd,a<128/\a≠32)/\(cpl R.hd).length<=10:=by
 have all:∀z∈(["calendar","rule","on","size","same"]:List Str),(∀a∈cpl z,a<128/\a≠32)/\(cpl z).length<=10:=∅;cases R<;>exact all _ (by walk_at"mm")
theorem Row.tok{R:Row}(h:R.ok):TOk (sW R.T):=by
 have hb:=X3 R;have l:R.T.length<=4*4001:=by
  have:=cY 4000 (cpl R.hd::R.ws.map Wk.w) fun w hw=>by
   rcases zh.mp hw with e | e
   ·rw[e];lia
   ·obtain⟨k,hk,rfl⟩:=yv.mp e;exact(Wk.box (h k hk)).2.1
  have e:(cpl R.hd::R.ws.map Wk.w).length<=4:=by cases R<;>simp[Row.ws]
  exact zo this (jg9 _ e)
 refine⟨GF.mpr fun c hc=>?_,by rw[Df];lia⟩;rw[Bm] at hc;by_cases e:c=32
 ·lia
 ·obtain⟨w,hw,m⟩:=Xx e hc;rcases zh.mp hw with e | e
  ·rw[e] at m;exact(hb.1 c m).1
  ·obtain⟨k,hk,rfl⟩:=yv.mp e;exact(Wk.box (h k hk)).1 c m
theorem Row.few(R:Row):1<=R.ws.length/\R.ws.length<=3:=by cases R<;>exact⟨by simp[Row.ws],by simp[Row.ws]⟩
theorem Row.head(R:Row):∃r,spl 32 R.T=cpl R.hd::r:=by
 have e:R.T=cpl R.hd++32::jn (R.ws.map Wk.w):=JV (by have:=R.few.1;intro z;rw[List.map_eq_nil_iff.mp z] at this;exact absurd this nofun);exact⟨_,by rw[e,MK 32 _ _ fun z=>((X3 R).1 32 z).2 rfl]⟩
theorem Row.kind{R:Row}(h:R.ok):(∃nm w,Jl nm/\R.ws=[.nm nm,.tx w])\/(spl 32 R.T=cpl R.hd::R.ws.map Wk.w/\∃z:Str,z≠"TEXT"/\atI (R.ws.map fun w=>V.str w.k) (-1)=some (V.str z)):=by
 have plain:(∀k∈R.ws,∀d,k≠.tx d)->spl 32 R.T=cpl R.hd::R.ws.map Wk.w:=fun np=>Wt (by simp) fun w hw=>by
  rcases zh.mp hw with e | e
  ·rw[e];exact fun z=>((X3 R).1 32 z).2 rfl
  ·obtain⟨k,hk,rfl⟩:=yv.mp e;exact(Wk.box (h k hk)).2.2 (np k hk)
 cases R with
 | cal=>exact .inl ⟨_,_,h _ qf,rfl⟩
 | rule=>exact .inl ⟨_,_,h _ qf,rfl⟩
 | size=>exact .inr ⟨plain fun k hk d z=>by subst z;simp[Row.ws] at hk,"RULE",∅,rfl⟩
 | _=>exact .inr ⟨plain fun k hk d z=>by subst z;simp[Row.ws] at hk,"NUMBER",∅,rfl⟩
def zH:Sp:=fun vs H Q _=>∃R:Row,An3 (vs=[.str (sW R.T)]) R.ok (∀l H',H l=none->BR H H'->H' l=some (.lst (.str R.hd::wkV R.ws))->Q (.ref l) H')
def zQ:Sp:=fun vs H Q _=>Ex4 fun(a:Addr) (kv:List (Key×V)) (nm:Wd) (v:V)=>An4 (vs=[.ref a,.str (sW nm)]) (H a=some (.dK kv)) (GK kv (.inr (sW nm))=some v) (Q v H)
def Wk.val(kv:List (Key×V)):Wk->V->Prop
 | .nm n,v=>v=.str (sW n)
 | .tx w,v=>v=.str (sW w)
 | .ru n,v=>GK kv (.inr (sW n))=some v
 | .nu i,v=>v=.int i
def DkH(CD:Addr)(H:Hp)(x:Addr)(kv:List (Key×V)):Prop:=∃dx a r,H x=some (.ins CD dx [("calendars",.ref a),("rules",.ref r)])/\H r=some (.dK kv)
theorem DkH.same{CD:Addr}{kv:List (Key×V)}(d:DkH CD H x kv)(s:BR H H'):DkH CD H' x kv:=by
 obtain⟨dx,a,r,h1,h2⟩:=d;exact⟨dx,a,r,s _ _ h1,s _ _ h2⟩
def zP(CD:Addr):Sp:=fun vs H Q _=>Ex3 fun(x:Addr) (kv:List (Key×V)) (k:Wk)=>An5 (vs=[.ref x,.str k.k,.str (sW k.w)]) k.ok (DkH CD H x kv) (∀n,k=.ru n->∃v,GK kv (.inr (sW n))=some v) (∀v H',BR H H'->k.val kv v->Q v H')
def tZ(CD:Addr):Sp:=fun vs H Q _=>Ex2 fun(x l:Addr)=>An3 (vs=[.ref x,.ref l]) (H l=some (.lst [])) (∀l' H',H l'=none->BR H H'->H' l'=some (.lst [])->Q (.ref l') H')
section
variable(K:Fr)(CR:Addr)(CL:List Addr)
noncomputable def yn(b:Bool):Str:=if b then "yes" else "no"
def ACI:Sp:=fun vs H Q _=>Ex5 fun(l y:Addr) (n d:Int) (b:Nat)=>An4 (vs=[.ref l]) (H l=some (.lst [.ref y,.int d])) (Cw K CR CL H y n b) (Q (.str (yn (On n b d))) H)
def tO:Sp:=fun vs H Q _=>Ex4 fun(l y:Addr) (n b:Nat)=>An4 (vs=[.ref l]) (H l=some (.lst [.ref y])) (Cw K CR CL H y (n:Int) b) (∀z c H',BR H H'->Lst n b z c->Q (.str (sW (nW (z:Int)))) H')
def ACL:Sp:=fun vs H Q _=>Ex4 fun(p:Addr) (w:Str) (e:Int) (r:List V)=>An5 (vs=[.ref p]) (H p=some (.tup (.str w::.int e::r))) (w.length<=10) (e.natAbs.log2<1920) (Q (.str (sW (cpl w++(sg " "++nW e)))) H)
def ADn(G:Nat->Nat->Nat->Nat->Int->Hp->VK->Prop)(C:Nat->Nat->Prop):Sp:=fun vs H Q _=>Ex8 fun(l y y':Addr) (n b m c:Nat) (d:Int)=>An7 (vs=[.ref l]) (H l=some (.lst [.ref y,.ref y',.int d])) (Cw K CR CL H y (n:Int) b) (Cw K CR CL H y' (m:Int) c) (Sm d) (C n m) (G n b m c d H Q)
end
def Wg(n b m c:Nat)(d:Int)(H:Hp)(Q:VK):Prop:=(∀z x H',BR H H'->Lst n b z x->Lst m c z x->Q (.str (sW (sg "same "++nW (z:Int)))) H')/\∀e H',BR H H'->Prt n b m c d e->Q (.str (sW (sg "parted"++(sg " "++nW e)))) H'
def C70(n m:Nat):Prop:=n<=70000/\m<=70000
theorem Cw.rnd{CR:Addr}{CL:List Addr}{n:Nat}(R:Cw K CR CL H x (n:Int) b):0<n/\n<=150000/\b<2^n:=⟨by have:=R.n0;lia,by have:=R.n1;lia,by have:=R.lt;rwa [zw] at this⟩
section
variable(K:Fr)(cs:Cs)
def zV:Sp:=fun vs H Q _=>Ex3 fun(H0:Hp) (x dx:Addr)=>An6 (vs=[.ref x]) (H0 x=none) (H0 dx=none) (dx≠x) (H=upd (upd H0 dx (.own x)) x (.ins cs.D dx [])) (∀H',BR H0 H'->Dk K cs H' x none 0 (fun _=>none)->Q .non H')
structure PT.fine(g:Bs)(p:PT):Prop where
 ok:p.ok
 kn:p.kn
 tl:p.tx.length<=4000
 dp:p.deep<=40
 mn:p.lv+p.br<=200
 sz:p.sz g<=150000
def ADX(H:Hp)(x:Addr)(j:Nat)(m:Wd->Option (Nat×Nat))(Q:VK)(g:Bs):Prop:=∀H',Kd H H'->Dk K cs H' x (some g) j m->Q (.str "ok") H'
def yQ(H:Hp)(x:Addr)(g:Bs)(j:Nat)(m:Wd->Option (Nat×Nat))(Q:VK)(nm:Wd)(p:PT):Prop:=∀H',Kd H H'->Dk K cs H' x (some g) (j+1) (setM m nm ((p.sz g).toNat,p.bt g))->p.rl g (p.bt g)->Q (.str "ok") H'
def zR:Sp:=fun vs H Q _=>Ex5 fun(x l:Addr) (c:Option Bs) (j:Nat) (m:Wd->Option (Nat×Nat))=>An3 (Dk K cs H x c j m) (j<=50) ((∃g:Bs,An5 (vs=[.ref x,.str "calendar",.ref l]) (H l=some (.lst [.str (sW (sg "c")),.str (sW (JZ g))])) (OkC g) (c=none) (ADX K cs H x j m Q g))\/Ex3 fun(nm:Wd) (p:PT) (g:Bs)=>An6 (vs=[.ref x,.str "rule",.ref l]) (H l=some (.lst [.str (sW nm),.str (sW p.tx)])) (c=some g) (SmC g) (p.fine g) (yQ K cs H x g j m Q nm p))
def ADW(H:Hp)(x:Addr)(c:Option Bs)(j:Nat)(m:Wd->Option (Nat×Nat))(Q:VK):Row->Prop
 | .cal g=>OkC g/\c=none/\ADX K cs H x j m Q g
 | .rule nm p=>∃g,c=some g/\SmC g/\p.fine g/\yQ K cs H x g j m Q nm p
 | .on nm d=>∃n b,m nm=some (n,b)/\∀H',BR H H'->Q (.str (yn (On (n:Int) b d))) H'
 | .size nm=>∃n b,m nm=some (n,b)/\∀z c H',BR H H'->Lst n b z c->Q (.str (sW (nW (z:Int)))) H'
 | .same a b d=>∃n x k y,m a=some (n,x)/\m b=some (k,y)/\C70 n k/\Wg n x k y d H Q
def Vf:Sp:=fun vs H Q _=>Ex5 fun(x:Addr) (c:Option Bs) (j:Nat) (m:Wd->Option (Nat×Nat)) (R:Row)=>An5 (vs=[.ref x,.str (sW R.T)]) R.ok (Dk K cs H x c j m) (j<=50) (ADW K cs H x c j m Q R)
end
theorem Wg.later{n m:Nat}(g:Wg n b m c d H Q)(s:BR H H1):Wg n b m c d H1 Q:=⟨fun z x H' s'=>g.1 z x H' (s.trans s'),fun e H' s'=>g.2 e H' (s.trans s')⟩
theorem AAh(h:Sm d)(h1:d<=e)(h2:e<=d+1000000):e.natAbs.log2<1920:=by
 refine Oq ?_ ?_<;>
 ·unfold Sm at h;have:(10:Nat)^40=10000000000000000000000000000000000000000:=nofun
  lia
theorem gH{n:Nat}(h:n<=1000000):((n:Int)).natAbs.log2<1920:=Oq ⋯ ⋯
theorem yV(h:H a=some o):upd H a o=H:=funext fun b=>by
 by_cases e:b=a
 ·rw[e,Ao,h]
 ·exact BP e
def GV(kv:List (Key×V))(n:Nat)(ks:List Wk)(vs:List V):Prop:=vs.length=n/\∀(j:Nat) (k:Wk) (v:V),ks[j]?=some k->vs[j]?=some v->k.val kv v
theorem GV.cons{kv:List (Key×V)}{n:Nat}{k:Wk}{ks:List Wk}{vs:List V}(g:GV kv (n+1) (k::ks) vs):∃v ws,vs=v::ws/\k.val kv v/\GV kv n ks ws:=by
 cases vs with
 | nil=>exact absurd g.1 (by simp)
 | cons v ws=>exact⟨v,ws,rfl,g.2 0 k v rfl rfl,by have:=g.1;simpa using this,fun j k' v' e1 e2=>g.2 (j+1) k' v' e1 e2⟩
theorem GV.one{kv:List (Key×V)}{k:Wk}{vs:List V}(g:GV kv 1 [k] vs):∃v,vs=[v]/\k.val kv v:=by
 obtain⟨v,ws,rfl,h,g'⟩:=GV.cons g;exact⟨v,by rw[jc2.mp g'.1],h⟩
theorem kj{b:Addr}{ks:List Wk}{kv:List (Key×V)}{Z:L2.St}{te:TE}(ha:∀H,SqT K H a (ks.map fun k=>V.str k.k))(hb:H b=some (.lst (wkV ks)))(hl:ks.length<sizeLine)
 (he:∀k∈ks,∀(H':Hp) (Q':VK),BR H H'->(∀v H'',BR H' H''->k.val kv v->Q' v H'')->te (some (.str k.k)::some (.str (sW k.w))::Z) H' Q')
 (h:∀(D:Addr) (H':Hp) (vs:List V),H D=none->BR H H'->H' D=some (.lst vs)->GV kv ks.length ks vs->Q (.ref D) H'):
 Uk 2 (qK K 2 (Vz (Ht 0) (Vz (Ht 1) vf))) eE te Z Q (rT K a b true) H:=by
 intro D hD;have lb:(wkV ks).length=ks.length:=js _;refine⟨fun i m zs H2=>i<=ks.length/\m=ks.length-i/\H2 D=some (.lst zs)/\BR H H2/\GV kv i ks zs,⟨_,ka _,rfl,Ao,Av hD _,rfl,fun j k v _ e=>by simp at e⟩,?_⟩;rintro i m zs H2 ⟨hi,rfl,hz,s2,zl,g⟩;refine⟨hz,?_⟩;have qb:SqL K H2 b (wkV ks):=SqL.of (s2 _ _ hb);by_cases c:i<ks.length
 ·have ex:(ks.map fun k=>V.str k.k)[i]?=some (.str ks[i].k):=by rw[xo,qm c];rfl
  have ey:(wkV ks)[i]?=some (.str (sW ks[i].w)):=by unfold wkV;rw[xo,qm c];rfl
  refine .inr ⟨⟨_,_,_,_,ha H2,qb,ex,ey⟩,⋯,ks.length-(i+1),⋯,?_⟩;rintro v H3 ⟨T,x,y,hT,rfl,rfl,hxy⟩ ρ hρ;obtain⟨gx,gy⟩:=hxy _ _ (ha H2) qb;rw[ex] at gx;rw[ey] at gy;cases gx;cases gy;obtain⟨p,q,rfl⟩:∃p q,ρ=[p,q]:=by
   match ρ,hρ with
   | [p,q],_=>exact⟨p,q,rfl⟩
  refine⟨T,[.str ks[i].k,.str (sW ks[i].w)],rfl,SqT.of Ao,rfl,.str ks[i].k,[.str (sW ks[i].w)],rfl,.str (sW ks[i].w),[],rfl,⟨rfl,[some (.str ks[i].k),some (.str (sW ks[i].w))],rfl,rfl,?_⟩⟩;refine JG ?_;rw[xp rfl];have s3:=Av hT (.tup [.str ks[i].k,.str (sW ks[i].w)]);refine he _ (jp1 c) _ _ (s2.trans s3) fun v H4 s4 hv=>?_;refine⟨s4 _ _ (s3 _ _ hz),⋯,rfl,Ao,Fp hD ((s2.trans s3).trans s4),by rw[ze];show zs.length+1=i+1;lia,fun j k w ek ew=>?_⟩;by_cases cj:j<zs.length
  ·rw[jg7 cj] at ew;exact g j k w ek ew
  ·rw[jf1 ⋯] at ew;have e0:j-zs.length=0:=by
    by_cases z:j-zs.length=0
    ·exact z
    ·rw[jj8 (by show 1<=_;lia)] at ew;cases ew
   rw[e0] at ew;cases ew;have:j=i:=⋯;rw[this,qm c] at ek;cases ek;exact hv
 ·have e:i=ks.length:=⋯
  subst e;exact .inl ⟨⟨_,_,ha H2,qb,by rw[js,lb,Nat.min_self]⟩,h D H2 zs hD s2 hz ⟨zl,g⟩⟩
structure Lg(x:Str)(a:Wd)(n:Nat):Prop where
 e:cpl x=a
 l:a.length<=n
theorem Lg.s(z:String)(h:(sg z).length<=30:=by ac_rfl):Lg (Str.ofString z) (sg z) 30:=⟨rfl,h⟩
theorem Lg.n(h:Sm i):Lg (DY i) (nW i) 41:=⟨rfl,Er h⟩
theorem Lg.w(a:Wd){n:Nat}(h:a.length<=n):Lg (sW a) a n:=⟨Bm _,h⟩
theorem Lg.eq{x:Str}{a b:Wd}{n:Nat}(h:Lg x a n)(e:a=b):x=sW b:=by rw[<-e,<-h.e,J2]
theorem Lg.ap{x y:Str}{a b:Wd}{n m:Nat}(X:Lg x a n)(Y:Lg y b m):Lg (x++y) (a++b) (n+m):=⟨by rw[Kz,X.e,Y.e],by rw[ze];exact jv8 X.l Y.l⟩
theorem Lg.aps{x:Str}{a:Wd}{n:Nat}(X:Lg x a n)(z:String)(h:(sg z).length<=30:=by ac_rfl):Lg (x++Str.ofString z) (a++sg z) (n+30):=X.ap (.s z h)
theorem Lg.le{x y:Str}{a:Wd}{n:Nat}(X:Lg (x++y) a n)(h:n<=100000:=by decide):x.length+y.length<=sizeLine:=by
 rw[<-KJ,<-Et,X.e];exact zo X.l (zo h nofun)
def xf:R2:=fun x y H Q=>∃i j,x=.str i/\y=.str j/\i.length+j.length<=sizeLine/\Q (.str (i++j)) H
theorem Ax{X:Cx}:OpR X (binaryOp .Add) xf:=cN
theorem Lg.go{x y:Str}{a:Wd}{n:Nat}(Z:Lg (x++y) a n)(q:∀z,Lg z a n->Q (.str z) H)(h:n<=100000:=by decide):xf (.str x) (.str y) H Q:=⟨x,y,rfl,rfl,Z.le h,q _ Z⟩
def PT.dsm:PT->Prop
 | .date _ _ (some i) _=> -1000<i/\i<1000
 | _=>True
structure NP(g:Bs)(p:PT)(z:Int)(j:Nat):Prop where
 ok:p.ok
 kn:p.kn
 tl:p.tx.length<=80*(p.lv+p.br)
 mn:p.lv+p.br<=j
 sz:p.sz g∣z
 z0:1<=z
 z1:z<=120
 ds:p.dsm
def Nr(g:Bs)(H:Hp)(a:Addr)(p:PT)(z:Int)(j:Nat):Prop:=H a=some (.tup [.str (sW p.tx),.int z])/\NP g p z j
def zW:Sp:=fun vs H Q _=>Ex2 fun(x y:Int)=>An6 (vs=[.int x,.int y]) (1<=x) (x<=120) (1<=y) (y<=120) (Q (.int (CQ x y)) H)
theorem AEU(a b:Int):Int.gcd b (a%b)=Int.gcd a b:=by
 have e:=jo0 a b;refine Nat.dvd_antisymm (Int.dvd_coe_gcd ?_ ?_ |> Int.ofNat_dvd.mp) (Int.dvd_coe_gcd ?_ ?_ |> Int.ofNat_dvd.mp)
 ·have h1:=ji9 (a:=b) (b:=a%b);have h2:=jk3 (a:=b) (b:=a%b);have:=Int.dvd_add h2 (jk2 h1 (Int.dvd_mul_right b (a/b)))
  rwa [e] at this
 ·exact ji9 ..
 ·exact jk3 ..
 ·have h1:=ji9 (a:=a) (b:=b);have h2:=jk3 (a:=a) (b:=b);rw[Int.emod_def];exact Int.dvd_sub h1 (jk2 h2 (Int.dvd_mul_right b (a/b)))
theorem jt(ns:List Int):Txt.join "," (ns.map DY)=sW (Fb 44 (ns.map nW)):=by
 rw[show Str.ofString ","=⟨#[44]⟩ from by ac_rfl];exact G8 (by rw[pW,Bm,ua];rfl)
theorem p30:(10:Int)^(30:Int).toNat=1000000000000000000000000000000:=nofun
theorem p29:(10:Int)^(29:Int).toNat=100000000000000000000000000000:=nofun
theorem eO{k:Nat}:∀{zs:List Str},(∀w∈zs,w.length<=k)->(zs.map (·.length)).sum<=zs.length*k
 | [],_=>ka _
 | w::zs,h=>by
  have:=eO fun x hx=>h x (qk w hx);have:=h w qf;rw[zv,kq,qr,js5];lia
theorem pK(h:Sm i):(DY i).length<=41:=by
 rw[<-Et];exact Er h
theorem ADm(x:Int):∃(n p b lp:Int) (j:Nat),1+x%3=n/\x/3%(n+1)=p/\x/3072%n=b/\1+x/1536%2=lp/\2+x/768%2=(j:Int)/\Ok1 p b n/\1<=lp/\lp<=2/\2<=j/\j<=3:=by
 have n0:1<=1+x%3/\1+x%3<=3:=⋯;generalize 1+x%3=n at n0;have p0:=qh (x/3) (show n+1≠0 by lia);have p1:=qg (x/3) (show 0<n+1 by lia);have b0:=qh (x/3072) (show n≠0 by lia);have b1:=qg (x/3072) (show 0<n by lia);exact⟨n,_,_,_,(2+x/768%2).toNat,rfl,rfl,rfl,rfl,⋯,⟨n0.1,n0.2,p0,⋯,b0,b1⟩,⋯,⋯,⋯,⋯⟩
theorem AAe(y:Int):∃m:Int,1+y%4=m/\1<=m/\m<=4:=⟨_,rfl,⋯,⋯⟩
theorem ABa(s bd a b n bm c y:Int):JZ (.moon s bd [(1,a,b,n)] bm [(1,c,0,y)])=sg "moon "++nW s++sg " "++nW bd++sg " +"++nW a++sg ","++nW b++sg ","++nW n++sg " / "++nW bm++sg " +"++nW c++sg ",0,"++nW y:=by
 have e:JZ (.moon s bd [(1,a,b,n)] bm [(1,c,0,y)])=sg "moon"++32::(nW s++32::(nW bd++32::(tW (1,a,b,n)++32::(sg "/"++32::(nW bm++32::tW (1,c,0,y)))))):=rfl;have e1:sg "moon "=sg "moon"++[32]:=∅;have e2:sg " +"=[32,43]:=∅;have e3:sg ","=[44]:=∅;have e4:sg ",0,"=44::(nW 0++[44]):=∅;have e5:sg " / "=32::(sg "/"++[32]):=∅;rw[e,e1,e2,e3,e4,e5,bsg];simp[tW,Fb]
theorem ADV(s lp a b n:Int)(ls:List Int):JZ (.sun s ls lp [(1,a,b,n)])=sg "sun "++nW s++sg " "++Fb 44 (ls.map nW)++sg " leap "++nW lp++sg " +"++nW a++sg ","++nW b++sg ","++nW n:=by
 have e:JZ (.sun s ls lp [(1,a,b,n)])=sg "sun"++32::(nW s++32::(Fb 44 (ls.map nW)++32::(sg "leap"++32::(nW lp++32::tW (1,a,b,n))))):=rfl;have e1:sg "sun "=sg "sun"++[32]:=∅;have e2:sg " +"=[32,43]:=∅;have e3:sg ","=[44]:=∅;have e5:sg " leap "=32::(sg "leap"++[32]):=∅;rw[e,e1,e2,e3,e5,bsg];simp[tW,Fb]
def ADc(H:Hp)(p:Addr)(g:Bs):Prop:=OkC g/\g.st.natAbs<=1000000000000000000000000000000/\H p=some (.tup [.str (sW (JZ g)),.int (dyC g)])
def tu:Sp:=fun vs H Q _=>Ex2 fun(a s:Int)=>An4 (vs=[.int a,.int s]) (Sm s) (s.natAbs<=1000000000000000000000000000000) (∀g p H',BR H H'->ADc H' p g->Q (.ref p) H')
def zX(K:Fr):Sp:=fun vs H Q _=>Ex2 fun(a:Addr) (ns:List Int)=>An4 (vs=[.ref a]) (SqL K H a (ns.map V.int)) (ns.length<=63) (∀g p H',BR H H'->ADc H' p g->Q (.ref p) H')
def uD:Sp:=fun vs H Q _=>Ex2 fun(x:Int) (g:Bs)=>An3 (vs=[.int x,.int (dyC g)]) (OkC g) (∀a p z H',BR H H'->Nr g H' a p z 1->Q (.ref a) H')
theorem Wm:sW (PT.tx (.lf true))=Str.ofString "all":=∅
theorem Wj:sW (PT.tx (.lf false))=Str.ofString "none":=∅
theorem ACu:Jl (sg "c"):=⟨∅,∅,∅⟩
theorem xJ(m d:Option Int):sg "date c "++Fg m++sg " "++Fg d=PT.tx (.date (sg "c") m d none):=by
 rw[PT.tx_date0,show sg "date c "=sg "date "++sg "c"++sg " " by ac_rfl];rfl
noncomputable def moS:List (Option Int):=[none,some 1,some 2,some 3,some 1,some 2]
noncomputable def daS:List (Option Int):=[none,some 1,some 2,some 3,some 4,some (-1),some (-2),some (-4)]
theorem pD{o:Option Int}(h:o∈moS++daS):PT.okS o/\o≠some 0/\(Fg o).length<=2/\∀i,o=some i-> -10<i/\i<10:=by
 have:=(by ac_rfl:∀o∈moS++daS,(o.all fun i=>decide (-10<i/\i<10))=true/\o≠some 0/\(Fg o).length<=2) o h;have k:∀i,o=some i-> -10<i/\i<10:=fun i e=>by
  rw[e] at this;exact jn6 this.1
 exact⟨fun i e=>Ir (by have:=k i e;lia) (by have:=k i e;lia),this.2.1,this.2.2,k⟩
theorem ACv{o:Option Int}(h:o∈moS):okM o:=fun i e=>by
 have:=(by decide:∀o∈moS,(o.all fun i=>decide (1<=i))=true) o h;rw[e] at this;exact jn6 this
theorem rD{os:List (Option Int)}{k:Int}(h0:0<=k)(h1:k<(os.length:Int)):∃o,o∈os/\atI (os.map fun o=>V.str (sW (Fg o))) k=some (.str (sW (Fg o))):=by
 have hk:k.toNat<os.length:=⋯;refine⟨os[k.toNat],jp1 hk,?_⟩;have:=Dw (xs:=os.map fun o=>V.str (sW (Fg o))) (j:=k.toNat) (v:=.str (sW (Fg os[k.toNat]))) (by rw[xo,qm hk];rfl)
 rwa [show ((k.toNat:Nat):Int)=k by lia] at this
structure PT.Su(g:Bs)(p:PT):Prop where
 n:0<p.sz g
 l:p.bt g<2^(p.sz g).toNat
 r:p.rl g (p.bt g)
noncomputable def PT.at(g:Bs)(p:PT)(d:Int):Bool:=On (p.sz g) (p.bt g) d
section
variable{g:Bs}{p q:PT}{k d:Int}
theorem PT.on_no(S:(PT.no p).Su g):(PT.no p).at g d=!p.at g d:=Za (b:=p.bt g) S.n S.r.1.2 d
theorem PT.on_la(S:(PT.la k p).Su g):(PT.la k p).at g d=p.at g (d-k):=by
 have e:(PT.la k p).bt g=ltr (p.sz g) (p.bt g) k:=S.r.1;show On (p.sz g) ((PT.la k p).bt g) d=_;rw[e];exact KN S.n S.r.2.1
theorem PT.on_bo{w:PK}{f:Bool->Bool->Bool}(S:(PT.pr w p q).Su g)(n1:0<p.sz g)(n2:0<q.sz g)(h:w.R=Bo f):(PT.pr w p q).at g d=f (p.at g d) (q.at g d):=by
 have fl:=Bj n1 n2;have r:=S.r.1;rw[h] at r;exact Bo.on r n1 n2 fl.1 fl.2.1 fl.2.2.1 d
theorem PT.on_up(S:(PT.pr .up p q).Su g):(PT.pr .up p q).at g d=true<->GUp (p.at g) (q.at g) d:=(S.r.1 d).trans lq
theorem PT.on_un(S:(PT.pr .un p q).Su g):(PT.pr .un p q).at g d=true<->GUn (p.at g) (q.at g) d:=(S.r.1 d).trans d9
theorem PT.on_ne(S:(PT.pr .ne p q).Su g):(PT.pr .ne p q).at g d=true<->GNr (p.at g) (q.at g) d:=S.r.1 d
theorem PT.on_ti(S:(PT.pr .ti p q).Su g):(PT.pr .ti p q).at g d=true<->GTi (p.at g) (q.at g) d:=S.r.1 d
theorem PT.on_nt(S:(PT.nt k p q).Su g):(PT.nt k p q).at g d=true<->Kth (p.sz g) (p.bt g) (q.sz g) (q.bt g) k d:=S.r.1 d
end
section
variable{a b:Int->Bool}{d:Int}
theorem d8:GUp a a d<->a d=true:=⟨fun h=>h.1,fun h=>⟨h,d,h,kx _,fun r h1 h2=>absurd h1 ⋯⟩⟩
theorem sS:GUn a a d<->a d=true:=⟨fun h=>h.1,fun h=>⟨h,d,h,kx _,fun r h1 h2=>absurd h1 ⋯⟩⟩
theorem vH:GNr a a d<->a d=true:=⟨fun h=>h.1,fun h=>⟨h,d,h,fun r _=>⟨fun _=>⋯,fun _=>⋯⟩⟩⟩
theorem yj(nb:∀e,b e=!a e):GTi a b d<->a d=true:=by
 refine⟨fun ⟨r,h1,h2,h3⟩=>?_,fun h=>⟨d,h,kx _,fun s _ h=>h⟩⟩;cases e:a d with
 | true=>rfl
 | false=>
  have:=h3 d (by rw[nb,e];rfl);by_cases c:r=d
  ·rw[c,e] at h1;exact h1
  ·have:=this ⋯;lia
theorem ABm{c:Int->Bool}(hc:∀e,c e=(b e||a e)):GUp a c d<->GUp a b d\/a d=true:=by
 refine⟨fun h=>.inr h.1,?_⟩;rintro(⟨h1,s,h2,h3,h4⟩ | h)
 ·exact⟨h1,s,by rw[hc,h2];rfl,h3,h4⟩
 ·exact⟨h,d,by rw[hc,h,Bool.or_true],kx _,fun r h1 h2=>absurd h1 ⋯⟩
theorem ABn:GTi a b d\/a d=true<->GTi a b d:=⟨fun h=>h.elim id fun h=>⟨d,h,kx _,fun _ _ h=>h⟩,.inl⟩
theorem yW(h:∀e,a e=true):GUp a b d<->b d=true:=by
 refine⟨fun ⟨_,s,h2,h3,h4⟩=>?_,fun e=>⟨h d,d,e,kx _,fun r h1 h2=>absurd h1 ⋯⟩⟩;by_cases c:s=d
 ·rwa [c] at h2
 ·have:=h4 s (kx _) ⋯;rw[h] at this;cases this
theorem yX(h:∀e,a e=true):GUn a b d<->b d=true:=by
 refine⟨fun ⟨_,s,h2,h3,h4⟩=>?_,fun e=>⟨h d,d,e,kx _,fun r h1 h2=>absurd h1 ⋯⟩⟩;by_cases c:s=d
 ·rwa [c] at h2
 ·have:=h4 s ⋯ (kx _);rw[h] at this;cases this
theorem AAd(h:∀e,a e=true):GNr a b d<->b d=true:=by
 refine⟨fun ⟨_,s,h2,h3⟩=>?_,fun e=>⟨h d,d,e,fun r _=>⟨fun _=>⋯,fun _=>⋯⟩⟩⟩;by_cases c:s=d
 ·rwa [c] at h2
 ·have:=h3 s (h s);lia
theorem sO(h:∀e,b e=false):¬GUp a b d:=fun⟨_,s,h2,_⟩=>by rw[h] at h2;cases h2
theorem vI(h:∀e,a e=false):¬GNr a b d:=fun z=>by have:=z.1;rw[h] at this;cases this
end
theorem xF{n r:Int}(n0:0<n)(h:d<=r)(o:∀e,d<=e->e<r->On n b e=false):CC n b r-CC n b d=0:=by
 have e:d+((r-d).toNat:Int)=r:=⋯;have:=YT (b:=b) n0 (r-d).toNat d (by rwa [e]);rw[e] at this;lia
theorem Zh{n k:Int}(n0:0<n)(hk:k=1\/k= -1):Kth n b n b k d<->On n b d=true:=by
 refine⟨fun h=>h.1,fun o=>?_⟩;obtain⟨e,e1,e2,e3⟩:=f9 n0 (fun d k=>Uj (b:=b) (Xs n) d k) o (d+1);have s:=Gd (b:=b) n0 d;rw[o,xp rfl] at s;have z:=xF (b:=b) n0 e1 e3;exact⟨o,d,e,o,e2,kx _,⋯,fun r h1 h2=>e3 r ⋯ h2,fun _=>⋯,fun _=>⋯⟩
theorem vV{n m:Int}(n0:0<n)(m0:0<m)(h:∀e,On n b e=true):Kth n b m c 1 d<->On m c d=true:=by
 constructor
 ·rintro⟨_,p,e,h1,_,h3,_,_,h6,_⟩;have h6:=h6 nofun;by_cases q:p=d
  ·rwa [q] at h1
  ·have s1:=Gd (b:=b) n0 p;have s2:=Gd (b:=b) n0 d;rw[h,xp rfl] at s1 s2;have:=Nt (b:=b) n0 (show p+1<=d by lia);lia
 ·intro o;obtain⟨e,e1,e2,e3⟩:=f9 m0 (fun d k=>Uj (b:=c) (Xs m) d k) o (d+1);have s:=Gd (b:=b) n0 d;rw[h,xp rfl] at s;exact⟨h d,d,e,o,e2,kx _,⋯,fun r h1 h2=>e3 r ⋯ h2,fun _=>⋯,fun z=>absurd z nofun⟩
section
variable{g:Bs}{p q:PT}{k d:Int}{w:PK}
theorem PT.Su.p1(S:(PT.pr w p q).Su g)(h:0<p.sz g):p.Su g:=⟨h,S.r.2.1.1,S.r.2.1.2⟩
theorem PT.Su.p2(S:(PT.pr w p q).Su g)(h:0<q.sz g):q.Su g:=⟨h,S.r.2.2.1,S.r.2.2.2⟩
theorem PT.Su.o1(S:(PT.no p).Su g):p.Su g:=⟨S.n,S.r.2.1,S.r.2.2⟩
theorem PT.Su.l1(S:(PT.la k p).Su g):p.Su g:=⟨S.n,S.r.2.1,S.r.2.2⟩
theorem PT.on_all:(PT.lf true).Su g->(PT.lf true).at g d=true:=fun S=>by
 have e:(PT.lf true).bt g=1:=S.r;show On 1 ((PT.lf true).bt g) d=true;rw[e];unfold On;rw[Int.emod_one];rfl
theorem PT.on_none:(PT.lf false).Su g->(PT.lf false).at g d=false:=fun S=>by
 have e:(PT.lf false).bt g=0:=S.r;show On 1 ((PT.lf false).bt g) d=false;rw[e];exact du 1 d
end
noncomputable def PX(i:Nat)(k:Int)(A B C:PT):PT×PT:=match i with
 | 0=>(.pr .an A B,.pr .an B A)
 | 1=>(.no (.pr .or A B),.pr .an (.no A) (.no B))
 | 2=>(.pr .bu A B,.pr .an A (.no B))
 | 3=>(.pr .ul A B,.pr .bu (.pr .or A B) (.pr .an A B))
 | 4=>(.no (.no A),A)
 | 5=>(.pr .ul (.pr .ul A B) B,A)
 | 6=>(.pr .an (.pr .or A B) C,.pr .or (.pr .an A C) (.pr .an B C))
 | 7=>(.pr .or A (.pr .an A B),A)
 | 8=>(.la k (.pr .up A B),.pr .up (.la k A) (.la k B))
 | 9=>(.la k (.pr .ne A B),.pr .ne (.la k A) (.la k B))
 | 10=>(.la k (.la (-k) A),A)
 | 11=>(.pr .up A A,A)
 | 12=>(.pr .un A (.pr .up A A),.pr .ne A A)
 | 13=>(.pr .ti A (.no A),A)
 | 14=>(.nt 1 A A,.nt (-1) A A)
 | 15=>(.ev 1 A k,A)
 | 16=>(.pr .up A (.pr .or B A),.pr .or (.pr .up A B) A)
 | 17=>(.pr .an (.pr .up A B) A,.pr .up A B)
 | 18=>(.pr .or (.pr .ti A B) A,.pr .ti A B)
 | 19=>(.pr .up (.lf true) A,.pr .un (.lf true) A)
 | 20=>(.pr .ne (.lf true) A,A)
 | 21=>(.nt 1 (.lf true) A,A)
 | 22=>(.la k (.no A),.no (.la k A))
 | _=>(.pr .up A (.lf false),.pr .ne (.lf false) B)
theorem jY{A B C:PT}{k:Int}{i:Nat}(a0:0<A.sz g)(b0:0<B.sz g)(c0:0<C.sz g)(h:i<24)(S:(PX i k A B C).1.Su g)(T:(PX i k A B C).2.Su g)(d:Int):(PX i k A B C).1.at g d=(PX i k A B C).2.at g d:=by
 have ab:=(Bj a0 b0).1;have ac:=(Bj a0 c0).1;have bc:=(Bj b0 c0).1;have bs:∀{x y:Bool},(x=true<->y=true)->x=y:=ko.mpr;have one:(0:Int)<(PT.lf true).sz g:=by show(0:Int)<1;decide
 match i,h,S,T with
 | 0,_,S,T=>
  show(PT.pr .an A B).at g d=(PT.pr .an B A).at g d;rw[PT.on_bo S a0 b0 rfl,PT.on_bo T b0 a0 rfl,Bool.and_comm]
 | 1,_,S,T=>
  show(PT.no (.pr .or A B)).at g d=(PT.pr .an (.no A) (.no B)).at g d;rw[PT.on_no S,PT.on_bo S.o1 a0 b0 rfl,PT.on_bo T a0 b0 rfl,PT.on_no (T.p1 a0),PT.on_no (T.p2 b0)];cases A.at g d<;>cases B.at g d<;>rfl
 | 2,_,S,T=>
  show(PT.pr .bu A B).at g d=(PT.pr .an A (.no B)).at g d;rw[PT.on_bo S a0 b0 rfl,PT.on_bo T a0 b0 rfl,PT.on_no (T.p2 b0)];rfl
 | 3,_,S,T=>
  show(PT.pr .ul A B).at g d=(PT.pr .bu (.pr .or A B) (.pr .an A B)).at g d;rw[PT.on_bo S a0 b0 rfl,PT.on_bo T ab ab rfl,PT.on_bo (T.p1 ab) a0 b0 rfl,PT.on_bo (T.p2 ab) a0 b0 rfl];cases A.at g d<;>cases B.at g d<;>rfl
 | 4,_,S,T=>
  show(PT.no (.no A)).at g d=A.at g d;rw[PT.on_no S,PT.on_no S.o1,Bool.not_not]
 | 5,_,S,T=>
  show(PT.pr .ul (.pr .ul A B) B).at g d=A.at g d;rw[PT.on_bo S ab b0 rfl,PT.on_bo (S.p1 ab) a0 b0 rfl];cases A.at g d<;>cases B.at g d<;>rfl
 | 6,_,S,T=>
  show(PT.pr .an (.pr .or A B) C).at g d=(PT.pr .or (.pr .an A C) (.pr .an B C)).at g d;rw[PT.on_bo S ab c0 rfl,PT.on_bo (S.p1 ab) a0 b0 rfl,PT.on_bo T ac bc rfl,PT.on_bo (T.p1 ac) a0 c0 rfl,PT.on_bo (T.p2 bc) b0 c0 rfl];cases A.at g d<;>cases B.at g d<;>cases C.at g d<;>rfl
 | 7,_,S,T=>
  show(PT.pr .or A (.pr .an A B)).at g d=A.at g d;rw[PT.on_bo S a0 ab rfl,PT.on_bo (S.p2 ab) a0 b0 rfl];cases A.at g d<;>cases B.at g d<;>rfl
 | 8,_,S,T=>
  show(PT.la k (.pr .up A B)).at g d=(PT.pr .up (.la k A) (.la k B)).at g d;rw[PT.on_la S];exact bs (((PT.on_up S.l1).trans (ABl (fun d=>PT.on_la (T.p1 a0)) (fun d=>PT.on_la (T.p2 b0)) d).symm).trans (PT.on_up T).symm)
 | 9,_,S,T=>
  show(PT.la k (.pr .ne A B)).at g d=(PT.pr .ne (.la k A) (.la k B)).at g d;rw[PT.on_la S];exact bs (((PT.on_ne S.l1).trans (ACt (fun d=>PT.on_la (T.p1 a0)) (fun d=>PT.on_la (T.p2 b0)) d).symm).trans (PT.on_ne T).symm)
 | 10,_,S,T=>
  show(PT.la k (.la (-k) A)).at g d=A.at g d;rw[PT.on_la S,PT.on_la S.l1,show d-k- -k=d by lia]
 | 11,_,S,T=>exact bs ((PT.on_up S).trans d8)
 | 12,_,S,T=>
  have aa:=(Bj a0 a0).1;have e:(PT.pr .up A A).at g=A.at g:=funext fun d=>bs ((PT.on_up (S.p2 aa)).trans d8);exact bs ((PT.on_un S).trans (by rw[e];exact sS.trans (vH.symm.trans (PT.on_ne T).symm)))
 | 13,_,S,T=>exact bs ((PT.on_ti S).trans (yj fun e=>PT.on_no (S.p2 a0)))
 | 14,_,S,T=>exact bs ((PT.on_nt S).trans ((Zh a0 (.inl rfl)).trans ((Zh a0 (.inr rfl)).symm.trans (PT.on_nt T).symm)))
 | 15,_,S,T=>
  have r:∀e,On (A.sz g*1) ((PT.ev 1 A k).bt g) e=true<->Evr (A.sz g) (A.bt g) 1 k e:=S.r.1;exact bs ((r d).trans ⟨fun z=>z.1,fun z=>⟨z,Int.emod_one _⟩⟩)
 | 16,_,S,T=>
  have ba:=(Bj b0 a0).1;refine bs ((PT.on_up S).trans ((ABm fun e=>PT.on_bo (S.p2 ba) b0 a0 rfl).trans ?_));rw[show ((PX 16 k A B C).2.at g d)=_ from PT.on_bo T ab a0 rfl,jh0,PT.on_up (T.p1 ab)]
 | 17,_,S,T=>
  show(PT.pr .an (.pr .up A B) A).at g d=(PT.pr .up A B).at g d;rw[PT.on_bo S ab a0 rfl];refine bs (by rw[yy];exact⟨fun z=>z.1,fun z=>⟨z,((PT.on_up T).mp z).1⟩⟩)
 | 18,_,S,T=>
  show(PT.pr .or (.pr .ti A B) A).at g d=(PT.pr .ti A B).at g d;rw[PT.on_bo S ab a0 rfl];exact bs (by rw[jh0,PT.on_ti T];exact ABn)
 | 19,_,S,T=>exact bs ((PT.on_up S).trans ((yW fun e=>PT.on_all (S.p1 one)).trans ((yX fun e=>PT.on_all (S.p1 one)).symm.trans (PT.on_un T).symm)))
 | 20,_,S,T=>exact bs ((PT.on_ne S).trans (AAd fun e=>PT.on_all (S.p1 one)))
 | 21,_,S,T=>exact bs ((PT.on_nt S).trans (vV one a0 fun e=>PT.on_all ⟨one,S.r.2.1.1,S.r.2.1.2⟩))
 | 22,_,S,T=>
  show(PT.la k (.no A)).at g d=(PT.no (.la k A)).at g d;rw[PT.on_la S,PT.on_no S.l1,PT.on_no T,PT.on_la T.o1]
 | 23,_,S,T=>
  have z0:(0:Int)<(PT.lf false).sz g:=by show(0:Int)<1;decide
  exact bs ⟨fun z=>absurd ((PT.on_up S).mp z) (sO fun e=>PT.on_none (S.p2 z0)),fun z=>absurd ((PT.on_ne T).mp z) (vI fun e=>PT.on_none (T.p1 z0))⟩
 | n+24,h,_,_=>exact absurd h ⋯
theorem yZ(w:PK)(p q:PT):PT.tx (.pr w p q)=sg "("++p.tx++sg " "++sg w.s++sg " "++q.tx++sg ")":=by
 rw[PT.tx_pr,PT.pk_t];simp
theorem mD(k:Int)(p:PT)(d:Int):PT.tx (.ev k p d)=sg "(every "++nW k++sg " of "++p.tx++sg " from "++nW d++sg ")":=by
 rw[PT.tx_ev];simp
section
variable{g:Bs}{p q P:PT}{z y:Int}{j i:Nat}{k d:Int}{w:PK}
theorem NP.le(A:NP g p z j)(h:j<=i:=by decide):NP g p z i:=⟨A.ok,A.kn,A.tl,zo A.mn h,A.sz,A.z0,A.z1,A.ds⟩
theorem NP.up(A:NP g p z j)(h:z∣y)(h0:1<=y)(h1:y<=120):NP g p y j:=⟨A.ok,A.kn,A.tl,A.mn,jk2 A.sz h,h0,h1,A.ds⟩
theorem NP.s1(hg:SmC g)(A:NP g p z j):0<p.sz g/\p.sz g<=120:=⟨PT.sz_pos hg A.ok,jo2 (jp7 (by have:=A.z0;lia) A.sz) A.z1⟩
theorem NP.fine(hg:SmC g)(A:NP g p z 30):p.fine g:=by
 have:=A.tl;have:=A.mn;have:=A.s1 hg;have:=PT.lv_br p;exact⟨A.ok,A.kn,⋯,⋯,⋯,⋯⟩
theorem NP.bin(hg:SmC g)(A:NP g p z j)(B:NP g q z i)(o:P.ok)(kn:P.kn)(tl:P.tx.length<=p.tx.length+q.tx.length+80)(e:P.lv+P.br=p.lv+p.br+(q.lv+q.br)+1)(s:P.sz g=CQ (p.sz g) (q.sz g))(ds:P.dsm):NP g P z (j+i+1):=by
 have:=A.tl;have:=B.tl;have:=A.mn;have:=B.mn;refine⟨o,kn,⋯,⋯,?_,A.z0,A.z1,ds⟩;rw[s];exact(Bj (A.s1 hg).1 (B.s1 hg).1).2.2.2.2.1 _ A.sz B.sz
theorem NP.one(A:NP g p z j)(o:P.ok)(kn:P.kn)(tl:P.tx.length<=p.tx.length+80)(e:P.lv+P.br=p.lv+p.br+1)(s:P.sz g=p.sz g)(ds:P.dsm):NP g P z (j+1):=by
 have:=A.tl;have:=A.mn;exact⟨o,kn,⋯,⋯,s ▸ A.sz,A.z0,A.z1,ds⟩
theorem NP.pr(hg:SmC g)(A:NP g p z j)(B:NP g q z i):NP g (.pr w p q) z (j+i+1):=.bin hg A B ⟨A.ok,B.ok⟩ ⟨A.kn,B.kn⟩ (by
 have:(sg w.t).length<=10:=by cases w<;>ac_rfl
 have:(sg "(").length=1:=∅
 have:(sg ")").length=1:=∅
 rw[PT.tx_pr];simp only[ze];lia) (by simp only[PT.lv,PT.br];lia) rfl trivial
theorem NP.nt(hg:SmC g)(A:NP g p z j)(B:NP g q z i)(sk:Sm k)(k0:k≠0):NP g (.nt k p q) z (j+i+1):=.bin hg A B ⟨sk,A.ok,B.ok,k0⟩ ⟨A.kn,B.kn⟩ (by
 have:=Er sk;have:(sg "(").length=1:=∅
 have:(sg ")").length=1:=∅
 have:(sg " of ").length=4:=∅;have:(sg " from ").length=6:=∅;rw[PT.tx_nt];simp only[ze];lia) (by simp only[PT.lv,PT.br];lia) rfl trivial
theorem NP.no(A:NP g p z j):NP g (.no p) z (j+1):=A.one A.ok A.kn (by
 have:(sg "(not ").length=5:=∅
 have:(sg ")").length=1:=∅
 rw[PT.tx_no];simp only[ze];lia) (by simp only[PT.lv,PT.br];lia) rfl trivial
theorem NP.la(A:NP g p z j)(sk:Sm k):NP g (.la k p) z (j+1):=A.one ⟨sk,A.ok⟩ A.kn (by
 have:=Er sk;have:(sg "(").length=1:=∅
 have:(sg ")").length=1:=∅
 have:(sg " later ").length=7:=∅;rw[PT.tx_la];simp only[ze];lia) (by simp only[PT.lv,PT.br];lia) rfl trivial
theorem NP.ev(A:NP g p z j)(sk:Sm k):NP g (.ev 1 p k) z (j+1):=A.one ⟨sm1 nofun nofun,sk,A.ok,nofun,nofun⟩ A.kn (by
 have:=Er sk;have:(nW 1).length=1:=∅;have:(sg "(every ").length=7:=∅
 have:(sg ")").length=1:=∅
 have:(sg " of ").length=4:=∅;have:(sg " from ").length=6:=∅;rw[mD];simp only[ze];lia) (by simp only[PT.lv,PT.br];lia) (jb6 _) trivial
theorem NP.lf(b:Bool)(z0:1<=z)(z1:z<=120):NP g (.lf b) z 1:=⟨trivial,trivial,by cases b<;>ac_rfl,by show 1+0<=1;decide,jw1 z,z0,z1,trivial⟩
end
noncomputable def pkJ:Nat->PK
 | 0=>.an
 | 1=>.or
 | 2=>.bu
 | 3=>.ul
 | 4=>.up
 | 5=>.un
 | 6=>.ne
 | _=>.ti
noncomputable def byP(i:Nat)(k:Int)(p q:PT):PT:=match i with
 | 8=>.la k p
 | 9=>.nt k p q
 | i=>.pr (pkJ i) p q
noncomputable def woS:List Str:=[Str.ofString "and",Str.ofString "or",Str.ofString "but",Str.ofString "unlike",Str.ofString "upon",Str.ofString "until",Str.ofString "near",Str.ofString "till",Str.ofString "later",Str.ofString "of"]
noncomputable def wS(i:Nat):Str:=woS.getD i ""
theorem ABk(x:Int):∃i:Nat,i<10/\atI (woS.map V.str) (x%10)=some (.str (wS i)):=by
 have a0:=qh x (show (10:Int)≠0 by decide);have a1:=qg x (show (0:Int)<10 by decide);have hk:(x%10).toNat<woS.length:=by show _<10;lia
 refine⟨(x%10).toNat,hk,?_⟩;have:=Dw (xs:=woS.map V.str) (j:=(x%10).toNat) (v:=.str (wS (x%10).toNat)) (by rw[xo,qm hk];unfold wS;rw[Qr,qm hk];rfl)
 rwa [show (((x%10).toNat:Nat):Int)=x%10 by lia] at this
theorem ADk:∀i<10,wS i=Str.ofString "later"->i=8:=∅
theorem ADj:∀i<10,wS i=Str.ofString "of"->i=9:=∅
theorem ADi{i:Nat}{k:Int}{p q:PT}(h:i<10)(h8:i≠8)(h9:i≠9):byP i k p q=.pr (pkJ i) p q/\wS i=Str.ofString (pkJ i).s:=by
 match i,h with
 | 0,_=>exact⟨rfl,∅⟩
 | 1,_=>exact⟨rfl,∅⟩
 | 2,_=>exact⟨rfl,∅⟩
 | 3,_=>exact⟨rfl,∅⟩
 | 4,_=>exact⟨rfl,∅⟩
 | 5,_=>exact⟨rfl,∅⟩
 | 6,_=>exact⟨rfl,∅⟩
 | 7,_=>exact⟨rfl,∅⟩
 | n+8,h=>exact absurd h ⋯
def nF:Sp:=fun vs H Q _=>Ex9 fun(x y:Str) (g:Bs) (z:Int) (w:PK) (p q:PT) (j i:Nat)=>An8 (vs=[.str x,.str (Str.ofString w.s),.str y]) (x=sW p.tx) (y=sW q.tx) (SmC g) (NP g p z j) (NP g q z i) (j+i<=30) (NP g (.pr w p q) z (j+i+1)->Q (.str (sW (PT.pr w p q).tx)) H)
theorem NP.put{x y:Str}{p q:PT}{j i:Nat}(sm:SmC g)(A:NP g p z j)(B:NP g q z i)(w:PK)(ex:x=sW p.tx)(ey:y=sW q.tx)(h:NP g (.pr w p q) z (j+i+1)->Q (.str (sW (PT.pr w p q).tx)) H)(l:j+i<=30:=by decide):nF [.str x,.str (Str.ofString w.s),.str y] H Q E:=⟨x,y,g,z,w,p,q,j,i,rfl,ex,ey,sm,A,B,l,h⟩
def nJ:Sp:=fun vs H Q _=>Ex4 fun(g:Bs) (z:Int) (p:PT) (j:Nat)=>An4 (vs=[.str (sW p.tx)]) (NP g p z j) (j<=30) (NP g (.no p) z (j+1)->Q (.str (sW (PT.no p).tx)) H)
theorem NP.nots{p:PT}{j:Nat}(A:NP g p z j)(h:NP g (.no p) z (j+1)->Q (.str (sW (PT.no p).tx)) H)(l:j<=30:=by decide):nJ [.str (sW p.tx)] H Q E:=⟨g,z,p,j,rfl,A,l,h⟩
def ACG:Sp:=fun vs H Q _=>∃x:Int,vs=[.int x]/\∀i H',i<10->BR H H'->Q (.str (wS i)) H'
def ACX:Sp:=fun vs H Q _=>Ex8 fun(g:Bs) (z k:Int) (p q:PT) (a b i:Nat)=>An9 (vs=[.str (wS i),.int k,.str (sW p.tx),.str (sW q.tx)]) (i<10) (Sm k) (k≠0) (SmC g) (NP g p z a) (NP g q z b) (a+b<=30) (NP g (byP i k p q) z (a+b+1)->Q (.str (sW (byP i k p q).tx)) H)
def tV(K:Fr):Sp:=fun vs H Q _=>Ex4 fun(l:Addr) (x y:Int) (g:Bs)=>An4 (vs=[.ref l,.int (dyC g)]) (SqL K H l [.int x,.int y]) (OkC g) (∀a p z H',BR H H'->Nr g H' a p z 3->Q (.ref a) H')
def PrR(H:Hp)(t:Addr)(g:Bs)(z:Int)(X:PT×PT):Prop:=H t=some (.tup [.str (sW X.1.tx),.str (sW X.2.tx)])/\NP g X.1 z 30/\NP g X.2 z 30
theorem PrR.mk{t:Addr}{P R:PT}{j i:Nat}(A:NP g P z j)(B:NP g R z i)(l:j<=30:=by decide)(l':i<=30:=by decide):PrR (upd H t (.tup [.str (sW P.tx),.str (sW R.tx)])) t g z (P,R):=⟨Ao,A.le l,B.le l'⟩
def zF:Sp:=fun vs H Q _=>Ex6 fun(g:Bs) (z:Int) (A B C:PT) (i:Nat)=>An7 (vs=[.int (i:Int),.str (sW A.tx),.str (sW B.tx),.str (sW C.tx)]) (i<8) (SmC g) (NP g A z 4) (NP g B z 4) (NP g C z 4) (∀t H',BR H H'->PrR H' t g z (PX i 0 A B C)->Q (.ref t) H')
def xR(a b:Nat):Sp:=fun vs H Q _=>Ex6 fun(g:Bs) (z k:Int) (A B:PT) (i:Nat)=>An8 (vs=[.int (i:Int),.int k,.str (sW A.tx),.str (sW B.tx)]) (a<=i) (i<b) (Sm k) (SmC g) (NP g A z 4) (NP g B z 4) (∀t H',BR H H'->PrR H' t g z (PX i k A B A)->Q (.ref t) H')
def tX(K:Fr):Sp:=fun vs H Q _=>Ex7 fun(l:Addr) (ns:List Int) (g:Bs) (z:Int) (A B C:PT)=>An8 (vs=[.ref l,.str (sW A.tx),.str (sW B.tx),.str (sW C.tx)]) (SqL K H l (ns.map V.int)) (ns.length<=63) (SmC g) (NP g A z 4) (NP g B z 4) (NP g C z 4) (∀t H' X,BR H H'->PrR H' t g z X->(ns.getD (0:Int).toNat 0%32<24->Ex4 fun(i:Nat) (k:Int) (C:PT) (w:Int)=>An3 (i<24) (NP g C w 4) (X=PX i k A B C))->Q (.ref t) H')
theorem Hx{i:Nat}{n:Int}{A B:Prop}(h1:(i:Int)=n->A)(h2:(i:Int)≠n->B):if decide (V.int (i:Int)=V.int n)=true then A else B:=Ca (fun h=>h1 (V.int.inj h)) fun h=>h2 fun z=>h (ya V.int z)
noncomputable def n4:List Int:=[-2,-1,1,2]
theorem ADU(x:Int):∃k:Int,Sm k/\k≠0/\atI [V.int (-2),V.int (-1),V.int 1,V.int 2] (x%4)=some (.int k):=by
 rcases(by lia:x%4=0\/x%4=1\/x%4=2\/x%4=3) with e | e | e | e<;>rw[e]
 all_goals exact⟨_,Ir nofun nofun,nofun,rfl⟩
theorem NP.fit{p:PT}{j:Nat}(A:NP g p z j)(l:j<=30:=by decide):p.tx.length<=2400:=by
 have:=A.tl;have:=A.mn;lia
theorem vJ:nW 1=sg "1"/\nW (-1)=sg "-1":=∅
theorem mC(p q:PT):sg "(1 of "++p.tx++sg " from "++q.tx++sg ")"=PT.tx (.nt 1 p q):=by
 rw[PT.tx_nt,vJ.1,show sg "(1 of "=sg "("++sg "1"++sg " of " by ac_rfl]
theorem yd(p q:PT):sg "(-1 of "++p.tx++sg " from "++q.tx++sg ")"=PT.tx (.nt (-1) p q):=by
 rw[PT.tx_nt,vJ.2,show sg "(-1 of "=sg "("++sg "-1"++sg " of " by ac_rfl]
theorem yc(p:PT):sg "(1 of all from "++p.tx++sg ")"=PT.tx (.nt 1 (.lf true) p):=by
 rw[<-mC,show sg "(1 of all from "=sg "(1 of "++PT.tx (.lf true)++sg " from " by ac_rfl]
theorem yf(p:PT)(k:Int):sg "(every 1 of "++p.tx++sg " from "++nW k++sg ")"=PT.tx (.ev 1 p k):=by
 rw[mD,vJ.1,show sg "(every 1 of "=sg "(every "++sg "1"++sg " of " by ac_rfl]
theorem sU(k:Int)(p:PT):sg "("++nW k++sg " later "++sg "("++nW (-k)++sg " later "++p.tx++sg "))"=PT.tx (.la k (.la (-k) p)):=by
 rw[PT.tx_la,PT.tx_la,show sg "))"=sg ")"++sg ")" by ac_rfl];simp only[Zs]
theorem Prt.near{n m z x z' x':Nat}(P:Prt n b m c d e)(L:Lst n b z x)(L':Lst m c z' x')(n0:0<n)(m0:0<m):e<d+((z:Int)+(z':Int)):=by
 refine Int.not_le.mp fun h=>P.ne ?_;have f:=Zm L.z0 L'.z0 (b:=x) (c:=x') (d:=d) (fun i hi=>by rw[<-L.on n0,<-L'.on m0];exact P.eq _ ⋯ ⋯) e;rw[L.on n0,L'.on m0,f]
def Zd(d:Int):Prop:= -9000000000000000000000000000000000000010<=d/\d<=9000000000000000000000000000000000000010
theorem Zd.sm(h:Zd d)(h1:d-1000<=e)(h2:e<=d+1000):Sm e:=by
 unfold Zd at h;unfold Sm;have:(10:Nat)^40=10000000000000000000000000000000000000000:=nofun;lia
section
variable(K:Fr)(cs:Cs)
structure Ks(H:Hp)(x:Addr)(n b m c:Nat):Prop where
 d:∃g j f,Dk K cs H x g j f/\j<=50/\f (sg "r")=some (n,b)/\f (sg "s")=some (m,c)
 n0:0<n
 m0:0<m
 n1:n<=120
 m1:m<=120
def zK:Sp:=fun vs H Q _=>Ex9 fun(x l:Addr) (ns:List Int) (d e:Int) (n b m c:Nat)=>An7 (vs=[.ref x,.ref l,.int d,.int e]) (SqL K H l (ns.map V.int)) (ns.length<=63) (Ks K cs H x n b m c) (Zd d) (Prt n b m c d e) (∀H',Q (.bl true) H')
end
theorem T2{s h x z:Wd}(e:s=h++32::(x++[32])):h++32::(x++32::z)=s++z:=by rw[e];simp
theorem vD:Jl (sg "r"):=⟨∅,∅,∅⟩
theorem vC:Jl (sg "s"):=⟨∅,∅,∅⟩
theorem AEk(g:Bs):Row.T (.cal g)=sg "calendar c "++JZ g:=T2 (show sg "calendar c "=cpl "calendar"++32::(sg "c"++[32]) by ac_rfl)
theorem AEh(p:PT):Row.T (.rule (sg "r") p)=sg "rule r "++p.tx:=T2 (show sg "rule r "=cpl "rule"++32::(sg "r"++[32]) by ac_rfl)
theorem AEg(p:PT):Row.T (.rule (sg "s") p)=sg "rule s "++p.tx:=T2 (show sg "rule s "=cpl "rule"++32::(sg "s"++[32]) by ac_rfl)
theorem AEj(d:Int):Row.T (.on (sg "r") d)=sg "on r "++nW d:=T2 (show sg "on r "=cpl "on"++32::(sg "r"++[32]) by ac_rfl)
theorem AEi(d:Int):Row.T (.on (sg "s") d)=sg "on s "++nW d:=T2 (show sg "on s "=cpl "on"++32::(sg "s"++[32]) by ac_rfl)
theorem AEf(d:Int):Row.T (.same (sg "r") (sg "s") d)=sg "same r s "++nW d:=by
 show cpl "same"++32::(sg "r"++32::(sg "s"++32::nW d))=_;rw[show sg "same r s "=cpl "same"++32::(sg "r"++32::(sg "s"++[32])) by ac_rfl];simp
theorem xn{nm:Wd}(h:Jl nm)(hd:Sm d):(Row.on nm d).ok:=fun w hw=>by
 simp only[Row.ws,zh,vv,or_false] at hw;rcases hw with rfl | rfl
 ·exact h
 ·exact hd
theorem fG{nm:Wd}{p:PT}(h:Jl nm)(f:p.fine g):(Row.rule nm p).ok:=fun w hw=>by
 simp only[Row.ws,zh,vv,or_false] at hw;rcases hw with rfl | rfl
 ·exact h
 ·obtain⟨_,t,_⟩:=PT.rdy f.ok f.tl f.dp;exact⟨f.tl,fun c hc=>GF.mp t.1 c (by rw[Bm];exact hc)⟩
theorem ABK(o:OkC g):(Row.cal g).ok:=fun w hw=>by
 simp only[Row.ws,zh,vv,or_false] at hw;obtain⟨_,l,t⟩:=o.tx;rcases hw with rfl | rfl
 ·exact ACu
 ·exact⟨⋯,fun c hc=>GF.mp t.1 c (by rw[Bm];exact hc)⟩
theorem gO{r:Int}(h:Sm r):(sW (nW r)).length<=640/\PySem.intText? (sW (nW r))=some r:=by
 have e:=Ou (z:=sW (nW r)) (by rw[Bm];exact(JS h).1);rw[Bm,(JS h).2] at e;have:=Er h;exact⟨by rw[Df];lia,e⟩
section
variable{K:Fr}{cs:Cs}{H H':Hp}{x:Addr}{n b m c i:Nat}{d:Int}{y:Str}{Q:VK}{E:XK}
theorem Ks.same(A:Ks K cs H x n b m c)(s:BR H H'):Ks K cs H' x n b m c:=by
 obtain⟨⟨g,j,f,k,h⟩,h1,h2,h3,h4⟩:=A;exact⟨⟨g,j,f,k.same s,h⟩,h1,h2,h3,h4⟩
theorem Ks.at(A:Ks K cs H x n b m c):∃dx a r,H x=some (.ins cs.D dx [("calendars",.ref a),("rules",.ref r)]):=by
 obtain⟨_,_,_,k,_⟩:=A.d;obtain⟨dx,a,r,_,h,_⟩:=k.ex;exact⟨dx,a,r,h⟩
theorem Ks.onr(A:Ks K cs H x n b m c)(sd:Sm d)(Z:Lg y (sg "on r "++nW d) i)(h:∀H',BR H H'->Q (.str (yn (On (n:Int) b d))) H'):Vf K cs [.ref x,.str y] H Q E:=by
 obtain⟨g,j,f,k,jl,e1,e2⟩:=A.d;exact⟨x,g,j,f,.on (sg "r") d,ya (fun z=>[V.ref x,V.str z]) (Z.eq (AEj d).symm),xn vD sd,k,jl,n,b,e1,h⟩
theorem Ks.ons(A:Ks K cs H x n b m c)(sd:Sm d)(Z:Lg y (sg "on s "++nW d) i)(h:∀H',BR H H'->Q (.str (yn (On (m:Int) c d))) H'):Vf K cs [.ref x,.str y] H Q E:=by
 obtain⟨g,j,f,k,jl,e1,e2⟩:=A.d;exact⟨x,g,j,f,.on (sg "s") d,ya (fun z=>[V.ref x,V.str z]) (Z.eq (AEi d).symm),xn vC sd,k,jl,m,c,e2,h⟩
theorem Ks.szr(A:Ks K cs H x n b m c)(h:∀z u H',BR H H'->Lst n b z u->Q (.str (sW (nW (z:Int)))) H'):Vf K cs [.ref x,.str "size r"] H Q E:=by
 obtain⟨g,j,f,k,jl,e1,e2⟩:=A.d;exact⟨x,g,j,f,.size (sg "r"),ya (fun z=>[V.ref x,V.str z]) (show Str.ofString "size r"=sW (Row.T (.size (sg "r"))) by ac_rfl),(fun w hw=>by rw[xb.mp hw];exact vD),k,jl,n,b,e1,h⟩
theorem Ks.szs(A:Ks K cs H x n b m c)(h:∀z u H',BR H H'->Lst m c z u->Q (.str (sW (nW (z:Int)))) H'):Vf K cs [.ref x,.str "size s"] H Q E:=by
 obtain⟨g,j,f,k,jl,e1,e2⟩:=A.d;exact⟨x,g,j,f,.size (sg "s"),ya (fun z=>[V.ref x,V.str z]) (show Str.ofString "size s"=sW (Row.T (.size (sg "s"))) by ac_rfl),(fun w hw=>by rw[xb.mp hw];exact vC),k,jl,m,c,e2,h⟩
theorem Ks.sam(A:Ks K cs H x n b m c)(sd:Sm d)(Z:Lg y (sg "same r s "++nW d) i)(h:Wg n b m c d H Q):Vf K cs [.ref x,.str y] H Q E:=by
 obtain⟨g,j,f,k,jl,e1,e2⟩:=A.d;have:=A.n1;have:=A.m1;refine⟨x,g,j,f,.same (sg "r") (sg "s") d,ya (fun z=>[V.ref x,V.str z]) (Z.eq (AEf d).symm),(fun w hw=>?_),k,jl,n,b,m,c,e1,e2,⟨⋯,⋯⟩,h⟩;simp only[Row.ws,zh,vv,or_false] at hw;rcases hw with rfl | rfl | rfl
 ·exact vD
 ·exact vC
 ·exact sd
end
theorem lW{a b:Bool}:V.str (yn a)=V.str (yn b)<->a=b:=by cases a<;>cases b<;>ac_rfl
theorem Lst.le{n z:Nat}(L:Lst n b z c)(h:0<n)(h1:n<=120):z<=120:=zo (kc h L.dv) h1
theorem ABy(s:String){b:Wd}(ha:32∉sg s)(hb:32∉b):Jv 32 (sW (sg s++(sg " "++b)))=[Str.ofString s,sW b]:=by
 have e:spl 32 (sg s++(sg " "++b))=[sg s,b]:=by
  rw[bsg,jf9,MK 32 _ _ ha];exact ya _ (Wt (ps:=[b]) (by simp) fun p hp=>by rw[xb.mp hp];exact hb)
 unfold Jv;rw[show cps (sW (sg s++(sg " "++b)))=sg s++(sg " "++b) from Bm _,e];exact ya (· ::[sW b]) (J2 (Str.ofString s))
noncomputable def rwS(g:Bs)(p q:PT):List Row:=[.cal g,.rule (sg "r") p,.rule (sg "s") q]
noncomputable def cS(g:Bs):Nat->Option Bs
 | 0=>none
 | _=>some g
noncomputable def mS(g:Bs)(p q:PT):Nat->Wd->Option (Nat×Nat)
 | 0=>fun _=>none
 | 1=>fun _=>none
 | 2=>setM (fun _=>none) (sg "r") ((p.sz g).toNat,p.bt g)
 | _=>setM (setM (fun _=>none) (sg "r") ((p.sz g).toNat,p.bt g)) (sg "s") ((q.sz g).toNat,q.bt g)
def rS(g:Bs)(p q:PT):Nat->Prop
 | 2=>p.rl g (p.bt g)
 | 3=>p.rl g (p.bt g)/\q.rl g (q.bt g)
 | _=>True
section
variable{K:Fr}{cs:Cs}{H:Hp}{x:Addr}{g:Bs}{p q:PT}
theorem zq{i:Nat}{R:Row}(o:OkC g)(f1:p.fine g)(f2:q.fine g)(h:(rwS g p q)[i]?=some R):R.ok:=by
 rcases zh.mp (qv h) with rfl | h
 ·exact ABK o
 rcases zh.mp h with rfl | h
 ·exact fG vD f1
 rw[xb.mp h];exact fG vC f2
theorem uR{i:Nat}{R:Row}(o:OkC g)(f1:p.fine g)(f2:q.fine g)(h:(rwS g p q)[i]?=some R)(r:rS g p q i)(k:∀H',Kd H H'->Dk K cs H' x (cS g (i+1)) i (mS g p q (i+1))->rS g p q (i+1)->Q (.str "ok") H'):ADW K cs H x (cS g i) (i-1) (mS g p q i) Q R:=by
 match i,h with
 | 0,h=>
  cases h;exact⟨o,rfl,fun H' k' d=>k H' k' d trivial⟩
 | 1,h=>
  cases h;exact⟨g,rfl,o.cy.1,f1,fun H' k' d r=>k H' k' d r⟩
 | 2,h=>
  cases h;exact⟨g,rfl,o.cy.1,f2,fun H' k' d r'=>k H' k' d ⟨r,r'⟩⟩
 | n+3,h=>cases h
theorem Dk.lt{c:Option Bs}{j n:Nat}{m:Wd->Option (Nat×Nat)}{nm:Wd}(d:Dk K cs H x c j m)(e:m nm=some (n,b)):b<2^n:=by
 obtain⟨_,_,_,_,_,_,_,_,_,h⟩:=d.ex;obtain⟨y,_,R⟩:=h nm n b e;have:=R.lt
 rwa [zw] at this
end
theorem ye(p:PT):sg "(1 later "++p.tx++sg ")"=PT.tx (.la 1 p):=by
 rw[PT.tx_la,vJ.1,show sg "(1 later "=sg "("++sg "1"++sg " later " by ac_rfl]
theorem yg:Str.ofString "each 1 from 0"=sW (PT.tx (.each 1 0)):=∅
theorem NP.ea1(h0:1<=z)(h1:z<=120):NP g (.each 1 0) z 4:=⟨⟨sm1 nofun nofun,sm1 nofun nofun,nofun,nofun⟩,trivial,∅,by show 1+0<=4;decide,jw1 _,h0,h1,trivial⟩
theorem AEW{lo:Int}{n i:Nat}{v:V}(h:((List.range n).map fun(t:Nat)=>V.int (lo+(t:Int)))[i]?=some v):i<n/\v=.int (lo+(i:Int)):=by
 have hi:i<n:=jf4 fun c=>by
  rw[jj8 (by rw[js,vt];exact c)] at h;cases h
 rw[xo,List.getElem?_range hi] at h;exact⟨hi,(uk h).symm⟩
theorem SqL.kd(k:Kd H H'){xs:List V}(h:SqL K H x xs):SqL K H' x xs:=by
 rcases h with (h | ⟨o,h⟩) | h
 ·exact .inl (.inl (k.lst h))
 ·exact .inl (.inr ⟨o,k _ _ (fun _ z=>nomatch z) h⟩)
 ·exact .inr h
theorem Yh{d:Option Addr}{vs:Array Value}{n:Nat}{s:Array (Option Value)}(h:K.lookup a=some ⟨.type "tuple",d,.seq vs n,s⟩)(l:vs.size<=5)(r:Vals xs vs.toList)(H:Hp):SqT K H a xs:=.inr ⟨_,_,_,h,rfl,rfl,zo l nofun,r⟩
theorem qM{P:Program}{w:World}{mg:Str->Option Value}{t:Nat->Addr}{a0 a2 a6 a11 a12:Addr}{x0 x1 x2 x3 x4 x5 x6 x7 x8 x9:Tok}{d0 d1 d2 d3 d4:Option Addr}{n0 n1 n2 n3 n4:Nat}{s0 s1 s2 s3 s4:Array (Option Value)}(m:mg "FORMS"=some (.ref a))(d:KD P w K a (dB t))(e0:t 0=a0)(e2:t 2=a2)(e6:t 6=a6)(e11:t 11=a11)(e12:t 12=a12)
 (h0:K.lookup a0=some ⟨.type "tuple",d0,.seq #[.str "NAME" x0,.str "TEXT" x1] n0,s0⟩)(h2:K.lookup a2=some ⟨.type "tuple",d1,.seq #[.str "NAME" x2,.str "TEXT" x3] n1,s1⟩)(h6:K.lookup a6=some ⟨.type "tuple",d2,.seq #[.str "RULE" x4,.str "NUMBER" x5] n2,s2⟩)(h11:K.lookup a11=some ⟨.type "tuple",d3,.seq #[.str "RULE" x6] n3,s3⟩)(h12:K.lookup a12=some ⟨.type "tuple",d4,.seq #[.str "RULE" x7,.str "RULE" x8,.str "NUMBER" x9] n4,s4⟩):rW P w K mg a t:=⟨m,d,fun R H=>by
 subst e0 e2 e6 e11 e12;cases R
 ·exact Yh (xs:=[V.str "NAME",V.str "TEXT"]) h0 (by show 2<=5;decide) (.cons ⟨_,rfl⟩ (.cons ⟨_,rfl⟩ .nil)) H
 ·exact Yh (xs:=[V.str "NAME",V.str "TEXT"]) h2 (by show 2<=5;decide) (.cons ⟨_,rfl⟩ (.cons ⟨_,rfl⟩ .nil)) H
 ·exact Yh (xs:=[V.str "RULE",V.str "NUMBER"]) h6 (by show 2<=5;decide) (.cons ⟨_,rfl⟩ (.cons ⟨_,rfl⟩ .nil)) H
 ·exact Yh (xs:=[V.str "RULE"]) h11 (by show 1<=5;decide) (.cons ⟨_,rfl⟩ .nil) H
 ·exact Yh (xs:=[V.str "RULE",V.str "RULE",V.str "NUMBER"]) h12 (by show 3<=5;decide) (.cons ⟨_,rfl⟩ (.cons ⟨_,rfl⟩ (.cons ⟨_,rfl⟩ .nil))) H⟩
end Fw
namespace Fw
open PySem L2 PyProof.Rows
local macro_rules | `(tactic| symm)=> `(tactic| (repeat (first | fail "r" | ((with_reducible refine' Fw.fO ?hc1 ?hc2 ?hc3 ?_);(case hc1=>assumption);(case hc2=>assumption);(case hc3=>decide)) | with_reducible refine Fw.ZP ?_)))
local macro_rules | `(tactic| exists $e)=> `(tactic| (refine $e;symm))
local macro_rules | `(tactic| walk_at"mm")=> `(tactic| (repeat (first | exact List.Mem.head _ | refine List.Mem.tail _ ?_)))
local macro_rules | `(tactic| walk_at"nw")=> `(tactic| (refine CW (by first | exact yU (by ac_rfl) | exact YZ (by ac_rfl) | exact fun z=>absurd (V.str.inj z) (by ac_rfl)) ?_;symm))
local macro_rules | `(tactic| walk_at"ew")=> `(tactic| (refine Hn (by first | exact Hg _ | rfl) ?_;symm))
noncomputable def P:Program:=PySem.Challenge.rw_feastwheel_k93_whole_the_same_for_ever.prog
theorem fill:(PySem.Challenge.rw_feastwheel_k93_whole_the_same_for_ever.prog,Hd.K)=(PySem.Challenge.rw_feastwheel_k93_whole_the_same_for_ever.prog,Hd.K):=by k_fill;rfl
structure Dt where
 (w:World) (mg:Str->Option Value) (b:Heap)
structure Gi(d:Dt):Prop where
 X:(Hd.K d.w.params).In d.b
 G:d.b.Ns mainGlobals d.mg
def Ok(d:Dt):Prop:=∀{f:Addr} {fd:FuncData},Fun (Hd.K d.w.params) "law" "law" fD f fd->Ex P d.w (Hd.K d.w.params) d.mg d.b CX0 136 f fd ["_law_script"] (eZ (Hd.K d.w.params))
instance:Nonempty Dt:=⟨⟨⟨fun _ _=>0,⟨fun _=>0,fun _=>0,id,fun _=>0,fun _ _=>0,fun _=>true,fun _=>0,.refcount,.text,fun _=>0,fun _=>none,fun _=>true,fun _ _ _=>true,fun _ _ _=>true,true,fun _=>true,fun _=>none,fun _=>none,fun _ _ _=>0,fun _ _=>none,fun _=>none,fun _=>(0,true,""),fun _=>none,id,fun _=>true⟩⟩,fun _=>none,default⟩⟩
noncomputable def d0:Dt:=Classical.epsilon fun d=>Gi d/\¬Ok d
noncomputable def w:World:=d0.w
noncomputable def K:Fr:=Hd.K w.params
noncomputable def mg:Str->Option Value:=d0.mg
noncomputable def base:Heap:=d0.b
abbrev Aw:Addr:=549
abbrev Br:Addr:=649
abbrev Bh:Addr:=708
abbrev qu:Addr:=786
abbrev Bg:Addr:=978
abbrev WP:Addr:=999
abbrev lK:Addr:=1018
abbrev O7:Addr:=1044
abbrev Jh:Addr:=1078
abbrev WM:Addr:=1097
abbrev Ue:Addr:=1116
abbrev Km:Addr:=1135
abbrev aP:Addr:=1154
abbrev Kl:Addr:=1173
abbrev K3:Addr:=1192
abbrev UL:Addr:=1211
abbrev NK:Addr:=1230
abbrev Ua:Addr:=1249
abbrev UT:Addr:=1268
abbrev WN:Addr:=1287
abbrev K4:Addr:=1306
abbrev Bd:Addr:=1340
abbrev Eo:Addr:=1663
abbrev Ge:Tok:=1009
abbrev Yj:Tok:=1383
abbrev Yi:Tok:=1384
abbrev Jx:Tok:=1669
abbrev Jw:Tok:=1670
abbrev aq:Tok:=577
abbrev mK:Tok:=579
abbrev Uq:Tok:=820
abbrev Nz:Tok:=816
abbrev Uo:Tok:=818
abbrev RN:Tok:=932
abbrev Ny:Tok:=934
abbrev QQ:Tok:=429
abbrev au:Tok:=427
abbrev Up:Tok:=431
abbrev QR:Tok:=425
abbrev az:Tok:=423
abbrev Nv:Tok:=1994
abbrev G7:Addr:=1309
abbrev QM:Tok:=1996
abbrev QL:Tok:=1997
abbrev QK:Tok:=1998
abbrev QJ:Tok:=1999
abbrev QH:Tok:=2000
abbrev QG:Tok:=2001
abbrev QF:Tok:=2002
abbrev QD:Tok:=2003
abbrev pU:Addr:=1469
noncomputable def Zi:Nat->Addr:=fun i=>([1470,1471,1472,1473,1474,1475,1476,1477,1478,1479,1480,1481,1482,1483,1484,1485,1486,1488]:List Nat).getD i 0
abbrev cX:Addr:=1608
noncomputable def cW:Nat->Addr:=fun i=>([1495,1502,1509,1516,1530,1537,1544,1551,1558,1565,1579,1586,1593,1600,1607]:List Nat).getD i 0
abbrev j7:Addr:=385
abbrev j6:Addr:=392
class Giv:Prop where
 X:K.In base
 G:base.Ns mainGlobals mg
variable{f:Addr}{fd:FuncData}
section
variable[Giv]
theorem gX:K.In base:=Giv.X
theorem gG:base.Ns mainGlobals mg:=Giv.G
local macro_rules | `(tactic| walk_at"k")=> `(tactic| (delta K;first | k_is | kit_is | k_exc))
local macro_rules | `(tactic| walk_at"o")=> `(tactic| first | exact Or.inl rfl | exact Or.inr rfl)
local macro_rules | `(tactic| walk_at"s")=> `(tactic| exact⟨rfl,rfl,rfl,by ac_rfl,rfl,by ac_rfl,by ac_rfl⟩)
local macro_rules | `(tactic| walk_at"hr")=> `(tactic| exact Dy.mono (by assumption) (by first | decide | lia))
local macro_rules | `(tactic| walk_at"kk")=> `(tactic| first | walk_at"k" | (constructor<;>walk_at"kk"))
local macro_rules | `(tactic| walk_at"g")=> `(tactic| (delta K;refine' L2.qN ?_ ?_ ?_ ?_<;>first | k_is | skip))
local macro_rules | `(tactic| walk_at"h")=> `(tactic| (delta K;refine' L2.AAw ?_ ?_ ?_ ?_ ?_<;>first | k_is | skip))
local macro_rules | `(tactic| walk_at"dg")=> `(tactic| (delta K;refine' L2.vm ?_ ?_ ?_ ?_ ?_<;>first | k_is | skip))
local macro_rules | `(tactic| walk_at"dm")=> `(tactic| (delta K;refine' L2.vh ?_ ?_ ?_ ?_ ?_ ?_<;>first | k_is | skip))
local macro_rules | `(tactic| walk_at"db")=> `(tactic| (delta K;refine' L2.vo ?_ ?_ ?_ ?_ ?_<;>first | k_is | skip))
local macro_rules | `(tactic| walk_at"b")=> `(tactic| (intro _ _ _ _ _ _ us hl;(first | obtain⟨_,h⟩:=L2.AEP hl | obtain⟨_,_,h⟩:=L2.AEO hl | obtain⟨_,_,_,h⟩:=L2.AAk hl | obtain⟨_,_,_,_,h⟩:=L2.ACy hl | have h:us=[]:=jc2.mp hl | obtain⟨_,_,_,_,_,h⟩:=L2.AAj hl | obtain⟨_,_,_,_,_,_,h⟩:=L2.AEM hl | obtain⟨_,_,_,_,_,_,_,h⟩:=L2.ACx hl | obtain⟨_,_,_,_,_,_,_,_,h⟩:=L2.AEJ hl);subst h;rfl))
theorem mgo{x:Str}{v:Value}(h:PySem.W.nsIn K mainGlobals x=some (some v)):mg x=some v:=ji6 gX gG h
abbrev C0(k:Nat)(x:Str)(ps:List Str)(sp:Sp):Prop:=Cal P w K mg base k x ps sp
abbrev C1(k:Nat)(x:Str)(ps:List Str)(sp:Sp):Prop:=AEm P w K mg base k x ps sp
abbrev CM0(k:Nat)(C:Addr)(x:Str)(ps:List Str)(sp:Sp):Prop:=lO P w K mg base CX0 k C x ps sp
abbrev CI0(k:Nat)(x:Str)(C:Addr)(ps:List Str)(sp:Sp):Prop:=lQ P w K mg base CX0 k x C ps sp
abbrev F0(k:Nat)(f:Addr)(fd:FuncData)(ps:List Str)(sp:Sp):Prop:=Ex P w K mg base CX0 k f fd ps sp
noncomputable abbrev CL:List Addr:=[WP,lK,O7,Jh,WM,Ue,Km,aP,Kl,K3,UL,NK,Ua,UT,WN,K4]
theorem Az:Cls K Aw:=by walk_at"kk"
theorem Cd:Dj K Aw "base":=by walk_at"kk"
theorem CT:Dj K Aw "terms":=by walk_at"kk"
theorem Ek:Dj K Aw "full_count":=by walk_at"kk"
theorem Gx:Dj K Aw "full_sum":=by walk_at"kk"
theorem Ci:Cls K Br:=by walk_at"kk"
theorem Jt:Dj K Br "start":=by walk_at"kk"
theorem Iv:Dj K Br "months":=by walk_at"kk"
theorem Hu:Dj K Br "leap":=by walk_at"kk"
theorem Cm:Dj K Br "years":=by walk_at"kk"
theorem Ce:Cls K Bh:=by walk_at"kk"
theorem Iw:Dj K Bh "start":=by walk_at"kk"
theorem Ea:Dj K Bh "days":=by walk_at"kk"
theorem EY:Dj K Bh "many":=by walk_at"kk"
theorem Bk:Cls K Bd:=by walk_at"kk"
theorem Gh:Dj K Bd "words":=by walk_at"kk"
theorem Du:Dj K Bd "place":=by walk_at"kk"
theorem Ck:Cls K Eo:=by walk_at"kk"
theorem Fv:Dj K Eo "calendars":=by walk_at"kk"
theorem G4:Dj K Eo "rules":=by walk_at"kk"
theorem V7:Cls K WP:=by walk_at"kk"
theorem V3:RC K Bg WP:=by walk_at"kk"
theorem Zr:Cls K lK:=by walk_at"kk"
theorem Zq:RC K Bg lK:=by walk_at"kk"
theorem Te:Cls K O7:=by walk_at"kk"
theorem TX:RC K Bg O7:=by walk_at"kk"
theorem Px:Cls K Jh:=by walk_at"kk"
theorem Pn:RC K Bg Jh:=by walk_at"kk"
theorem V4:Cls K WM:=by walk_at"kk"
theorem V1:RC K Bg WM:=by walk_at"kk"
theorem Tg:Cls K Ue:=by walk_at"kk"
theorem dG:RC K Bg Ue:=by walk_at"kk"
theorem M6:Cls K Km:=by walk_at"kk"
theorem X6:RC K Bg Km:=by walk_at"kk"
theorem V6:Cls K aP:=by walk_at"kk"
theorem kE:RC K Bg aP:=by walk_at"kk"
theorem M3:Cls K Kl:=by walk_at"kk"
theorem X5:RC K Bg Kl:=by walk_at"kk"
theorem Pr:Cls K K3:=by walk_at"kk"
theorem Pj:RC K Bg K3:=by walk_at"kk"
theorem TY:Cls K UL:=by walk_at"kk"
theorem dC:RC K Bg UL:=by walk_at"kk"
theorem Pq:Cls K NK:=by walk_at"kk"
theorem Zo:RC K Bg NK:=by walk_at"kk"
theorem Td:Cls K Ua:=by walk_at"kk"
theorem dF:RC K Bg Ua:=by walk_at"kk"
theorem Tc:Cls K UT:=by walk_at"kk"
theorem dD:RC K Bg UT:=by walk_at"kk"
theorem V5:Cls K WN:=by walk_at"kk"
theorem V2:RC K Bg WN:=by walk_at"kk"
theorem Pu:Cls K K4:=by walk_at"kk"
theorem Pk:RC K Bg K4:=by walk_at"kk"
theorem IK:mg "range"=none:=vx gX gG (by walk_at"k")
theorem Ds:mg "len"=none:=vx gX gG (by walk_at"k")
theorem xH:mg "abs"=none:=vx gX gG (by walk_at"k")
theorem xG:mg "zip"=none:=vx gX gG (by walk_at"k")
theorem aW:mg "list"=none:=vx gX gG (by walk_at"k")
theorem dw:mg "sum"=none:=vx gX gG (by walk_at"k")
theorem lU:mg "all"=none:=vx gX gG (by walk_at"k")
theorem Wi:mg "tuple"=none:=vx gX gG (by walk_at"k")
theorem ABi:mg "min"=none:=vx gX gG (by walk_at"k")
theorem ABj:mg "max"=none:=vx gX gG (by walk_at"k")
theorem Dr:mg "str"=none:=vx gX gG (by walk_at"k")
theorem JC:mg "isinstance"=none:=vx gX gG (by walk_at"k")
theorem YX:mg "int"=none:=vx gX gG (by walk_at"k")
theorem jh:mg "LONGEST"=some (.int 150000 aq):=mgo (by walk_at"k")
theorem IV:mg "PIECE"=some (.int 256 mK):=mgo (by walk_at"k")
theorem Xu:mg "GREATEST_N"=some (.int 1000 Uq):=mgo (by walk_at"k")
theorem Qk:mg "GREATEST_BASE"=some (.int 20000 Nz):=mgo (by walk_at"k")
theorem Xq:mg "MOST_TERMS"=some (.int 6 Uo):=mgo (by walk_at"k")
theorem K9:mg "MOST_MONTHS"=some (.int 20 RN):=mgo (by walk_at"k")
theorem Jq:mg "LONGEST_MONTH"=some (.int 1000 Ny):=mgo (by walk_at"k")
theorem Sx:mg "MOST_LETTERS"=some (.int 8 QQ):=mgo (by walk_at"k")
theorem ji:mg "LETTERS"=some (.str "abcdefghijklmnopqrstuvwxyz" au):=mgo (by walk_at"k")
theorem Xr:mg "MOST_SIGNS"=some (.int 4000 Up):=mgo (by walk_at"k")
theorem Sy:mg "MOST_FIGURES"=some (.int 60 QR):=mgo (by walk_at"k")
theorem jj:mg "FIGURES"=some (.str "0123456789" az):=mgo (by walk_at"k")
theorem Qj:mg "MOST_BRACKETS"=some (.int 40 Nv):=mgo (by walk_at"k")
theorem Xp:mg "PAIR_WORDS"=some (.ref G7):=mgo (by walk_at"k")
theorem XN:∀H,SqT K H G7 [.str "and",.str "or",.str "but",.str "unlike",.str "upon",.str "until",.str "near",.str "till"]:=by
 have l:K.lookup G7=some ⟨.type "tuple",none,.seq #[.str "and" QM,.str "or" QL,.str "but" QK,.str "unlike" QJ,.str "upon" QH,.str "until" QG,.str "near" QF,.str "till" QD] 0,#[]⟩:=by walk_at"k"
 exact fun H=>.inr ⟨_,_,_,l,rfl,rfl,(by show 8<=sizeLine;decide),(.cons ⟨_,rfl⟩ (.cons ⟨_,rfl⟩ (.cons ⟨_,rfl⟩ (.cons ⟨_,rfl⟩ (.cons ⟨_,rfl⟩ (.cons ⟨_,rfl⟩ (.cons ⟨_,rfl⟩ (.cons ⟨_,rfl⟩ .nil))))))))⟩
theorem Gb:rW P w K mg pU Zi:=qM (a0:=1470) (a2:=1472) (a6:=1476) (a11:=1481) (a12:=1482) (mgo (by walk_at"k")) (L2.xq (a:=1469) (n:=18) [("calendar",2215,1470),("change",2219,1471),("rule",2225,1472),("date",2229,1473),("day",2233,1474),("move",2237,1475),("on",2242,1476),("next",2246,1477),("last",2250,1478),("nth",2254,1479),("count",2259,1480),("size",2264,1481),("same",2267,1482),("meet",2272,1483),("within",2277,1484),("shorter",2282,1485),("show",2285,1486),("almanac",2288,1488)] (by walk_at"k") ∅ rfl) rfl rfl rfl rfl rfl (by walk_at"k") (by walk_at"k") (by walk_at"k") (by walk_at"k") (by walk_at"k")
theorem GC:AEo P w K mg cX cW:=⟨mgo (by walk_at"k"),(L2.xq (a:=1608) (n:=15) [("date",2417,1495),("day",2418,1502),("move",2419,1509),("on",2420,1516),("next",2421,1530),("last",2422,1537),("nth",2423,1544),("count",2424,1551),("size",2425,1558),("same",2426,1565),("meet",2427,1579),("within",2428,1586),("shorter",2429,1593),("show",2430,1600),("almanac",2431,1607)] (by walk_at"k") ∅ rfl),mgo (by walk_at"k"),mgo (by walk_at"k"),mgo (by walk_at"k")⟩
theorem Io:mg "either"=some (.ref j7):=mgo (by walk_at"k")
theorem Ye:mg "unlike"=some (.ref j6):=mgo (by walk_at"k")
theorem co{g n q st ps k sp}(Q:FnG K g n q st)(b:Hw n q st ps)(o:∀{f:Addr} {fd:FuncData},Fun K n q st f fd->F0 k f fd ps sp):C0 k g ps sp:=dJ gX gG Q b o
theorem cm{g n q st ps k sp C CX}(Q:FnM K C g n q st)(b:Hw n q st ps)(o:∀{f:Addr} {fd:FuncData},Fun K n q st f fd->Ex P w K mg base CX k f fd ps sp):lO P w K mg base CX k C g ps sp:=wL Q b o
theorem ci{n q st ps k sp C CX x}(m:PySem.W.makesIn K C=true)(p:PySem.W.keepIn K (.ref C)=true)(e:PySem.W.nsIn K mainGlobals x=some (some (.ref C)))(Q:FnM K C "__init__" n q st)(b:Hw n q st ps)(o:∀{f:Addr} {fd:FuncData},Fun K n q st f fd->Ex P w K mg base CX k f fd ps sp):lQ P w K mg base CX k x C ps sp:=wM gX gG m p e Q b o
theorem co'{g n q ps k sp}(N:List Str)(st:Stmt)(o:∀{f:Addr} {cdv:Value} {A:Around} {outer:List Env} {s:Shared} (nd:N.Nodup) (H:Hp) (vs:List V) (Q:VK) (E:XK),Dy k (A.deeper (envOfC q (BX st) s.heap.objs.size f cdv))->sp vs H Q E->∃t,PSs (VG CX0 P w K mg base N q (BX st) f cdv A outer s H E).nox (Dm st) t/\t { nx:=fun _ H'=>Q .non H',rt:=Q } (start N vs) H)(len:∀{vs H Q E},sp vs H Q E->vs.length=ps.length:=by fail "l")(S:DG N ps (BX st):=by walk_at"s")(Q:FnG K g n q st:=by walk_at"g")(b:Hw n q st ps:=by walk_at"b"):C0 (k+1) g ps sp:=co Q b fun F=>F.ok S len o
theorem cm'{g n q ps k sp C}(N:List Str)(st:Stmt)(o:∀{f:Addr} {cdv:Value} {A:Around} {outer:List Env} {s:Shared} (nd:N.Nodup) (H:Hp) (vs:List V) (Q:VK) (E:XK),Dy k (A.deeper (envOfC q (BX st) s.heap.objs.size f cdv))->sp vs H Q E->∃t,PSs (VG CX0 P w K mg base N q (BX st) f cdv A outer s H E).nox (Dm st) t/\t { nx:=fun _ H'=>Q .non H',rt:=Q } (start N vs) H)(len:∀{vs H Q E},sp vs H Q E->vs.length=ps.length:=by fail "l")(S:DG N ps (BX st):=by walk_at"s")(Q:FnM K C g n q st:=by walk_at"h")(b:Hw n q st ps:=by walk_at"b"):CM0 (k+1) C g ps sp:=cm Q b fun F=>F.ok S len o
theorem ci'{n q ps k sp C x}(N:List Str)(st:Stmt)(o:∀{f:Addr} {cdv:Value} {A:Around} {outer:List Env} {s:Shared} (nd:N.Nodup) (H:Hp) (vs:List V) (Q:VK) (E:XK),Dy k (A.deeper (envOfC q (BX st) s.heap.objs.size f cdv))->sp vs H Q E->∃t,PSs (VG CX0 P w K mg base N q (BX st) f cdv A outer s H E).nox (Dm st) t/\t { nx:=fun _ H'=>Q .non H',rt:=Q } (start N vs) H)(len:∀{vs H Q E},sp vs H Q E->vs.length=ps.length:=by fail "l")(S:DG N ps (BX st):=by walk_at"s")(m:PySem.W.makesIn K C=true:=by walk_at"k")(p:PySem.W.keepIn K (.ref C)=true:=by walk_at"k")(e:PySem.W.nsIn K mainGlobals x=some (some (.ref C)):=by walk_at"k")(Q:FnM K C "__init__" n q st:=by walk_at"h")(b:Hw n q st ps:=by walk_at"b"):CI0 (k+1) x C ps sp:=ci m p e Q b fun F=>F.ok S len o
theorem Cq:C0 1 "refuse_below_one" ["number"] m8:=by
 refine co' ["number"] Le fun nd H vs Q E hr h=>?_;obtain⟨n,rfl,hn,q⟩:=h;refine⟨_,(Af (BK (Al Ew (pv 0) Ah (Aq _)) (Af Bc) Ar)),?_⟩
 symm;exists CW ⋯ ?_;exact q
theorem Ej:C0 1 "refuse_too_long" ["size"] ir:=by
 refine co' ["size"] MT fun nd H vs Q E hr h=>?_;obtain⟨n,rfl,hn,q⟩:=h;refine⟨_,(Af (BK (Al Ft (pv 0) (CN rfl jh (Cz _ _)) (Aq _)) (Af Bc) Ar)),?_⟩
 symm;exists CW ⋯ ?_;exact q
theorem dU:C0 1 "equation" ["one","other"] ADr:=by
 refine co' ["one","other","row","below","times","rest"] bY fun nd H vs Q E hr h=>?_;obtain⟨a,b,rfl,ha,hb,q⟩:=h;refine⟨_,(Ae (Am 2 (BJ (Aa Ah (Aa Ah (Aa (pv 0) Ab))))) (Ae (Am 3 (BJ (Aa Ah (Aa Ah (Aa (pv 1) Ab))))) (Ae (Gr PassesOwn.never (Al Gz (pxT 3) Ah (Aq _)) (Ae (Am 4 (Ai pG (pxT 2) (pxT 3))) (Ae (Am 5 (BJ (Aa (Ai Do (pxT 2) (Ai Cg (pv 4) (pxT 3))) (Aa (Ai Do (pxT 2) (Ai Cg (pv 4) (pxT 3))) (Aa (Ai Do (pxT 2) (Ai Cg (pv 4) (pxT 3))) Ab))))) (Ae (Am 2 (pv 3)) (Af (Am 3 (pv 5))))))) (Ae (BK (Al Ew (pxT 2) Ah (Aq _)) (Af (An (BJ (Aa (HF Fo (pxT 2)) (Aa (HF Fo (pxT 2)) (Aa (HF Fo (pxT 2)) Ab)))))) Ar) (Af (An (pv 2))))))),?_⟩
 symm;exists⟨three,fun p1 hp1=>?_⟩;exists⟨three,fun p2 hp2=>?_⟩;have n12:p1≠p2:=fun z=>by rw[<-z,Ao] at hp2;cases hp2
 refine⟨fun m Z' H'=>∃(pr pb:Addr) (u v r u' v' r':Int) (t1 t2:Option V),Z'=[some (.int a),some (.int b),some (.ref pr),some (.ref pb),t1,t2]/\BR H H'/\
  H' pr=some (.tup [.int u,.int v,.int r])/\H' pb=some (.tup [.int u',.int v',.int r'])/\EqI a b u v r u' v' r'/\m=r'.natAbs,
  ⟨_,p1,p2,1,0,a,0,1,b,none,none,rfl,(Av hp1 _).trans (Av hp2 _),by rw[BP n12];exact Ao,Ao,EqI.start a b,rfl⟩,?_⟩
 rintro m Z' H' ⟨pr,pb,u,v,r,u',v',r',t1,t2,rfl,sm,hpr,hpb,I,rfl⟩;have B:=I.bounds;have br:=ABQ (m:=510) ha hb (show r.natAbs<=a.natAbs+b.natAbs+4 by lia) nofun;have br':=iD (m:=510) hb (show r'.natAbs<=4*b.natAbs+4 by lia) nofun;have bu':=iD (m:=510) hb (show u'.natAbs<=4*b.natAbs+4 by lia) nofun;have bv':=iD (m:=510) ha (show v'.natAbs<=4*a.natAbs+4 by lia) nofun;symm;exists Ay (SqT.of hpb) aU ?_;by_cases hz:r'=0
 ·subst hz;refine HJ rfl ?_;have D:=I.done;symm;exists Ay (SqT.of hpr) aU ?_;refine Ca (fun c=>?_) (fun c=>?_)
  ·symm;exists Ay (SqT.of hpr) ABW ?_;exists Ay (SqT.of hpr) ABV ?_;exists Ay (SqT.of hpr) aU ?_;refine⟨three,fun p hp=>?_⟩;exact q p _ _ _ _ (sm.trans (Av hp _)) Ao (D.1 c)
  ·symm;exact q pr _ _ _ _ sm hpr (D.2 c)
 ·refine qC (fun z=>hz (V.int.inj z)) ?_;refine⟨_,fun Z' H' hh=>hh,?_⟩;have St:=I.step hz;have bq:=iD (m:=520) br (show (r.fdiv r').natAbs<=4*r.natAbs+4 by have:=bz (r:=r) hz;lia) nofun;symm;exists Ay (SqT.of hpr) aU ?_;refine Ay (SqT.of hpb) aU ?_;exists Dq ⟨hz,br'.mono nofun⟩ ?_;exists Ay (SqT.of hpr) ABW ?_;refine Ay (SqT.of hpb) ABW ?_;exists Dq ⟨520,510,bq,bu',nofun⟩ ?_;exists Ay (SqT.of hpr) ABV ?_;refine Ay (SqT.of hpb) ABV ?_;exists Dq ⟨520,510,bq,bv',nofun⟩ ?_;exists Ay (SqT.of hpr) aU ?_;refine Ay (SqT.of hpb) aU ?_;exists Dq ⟨520,510,bq,br',nofun⟩ ?_;exists⟨three,fun p hp=>?_⟩;exact⟨_,St.2,pb,p,u',v',r',_,_,_,_,_,rfl,sm.trans (Av hp _),(Av hp _) _ _ hpb,Ao,St.1,rfl⟩
theorem Oz:C0 2 "divisor" ["one","other"] jA:=by
 refine co' ["one","other"] jP fun nd H vs Q E hr h=>?_;obtain⟨a,b,rfl,ha,hb,q⟩:=h;exists⟨_,(Af (An (Eu Lr (Ag dU (Aa (pv 0) (Aa (pv 1) Ab))) Ah (fun _ _=>rfl)))),?_⟩;exists⟨a,b,rfl,ha,hb,fun p u v g H' sm hp e=>?_⟩;refine Ay (SqT.of hp) aU ?_;rw[e.gd];exact q _ sm
theorem UG:C0 3 "common" ["one","other"] nY:=by
 refine co' ["one","other"] oA fun nd H vs Q E hr h=>?_;obtain⟨a,b,rfl,a0,b0,ha,hb,q⟩:=h;refine⟨_,(Ae (Be (Ag Cq (Aa (pv 0) Ab))) (Ae (Be (Ag Cq (Aa (pv 1) Ab))) (Af (An (Ai Cg (Ai Bf (pv 0) (Ag Oz (Aa (pv 0) (Aa (pv 1) Ab)))) (pv 1)))))),?_⟩
 symm;exists⟨a,rfl,⋯,?_⟩;exists⟨b,rfl,⋯,?_⟩;refine⟨a,b,rfl,ha,hb,fun H' sm=>?_⟩;have g0:=Mz (b:=b) a0;have g1:=c7 (b:=b) a0;exists Dq ⟨g0,(ha.le (x:=(Int.gcd a b:Int)) ⋯).mono nofun⟩ ?_;have d0:0<=a/(Int.gcd a b:Int):=jh1 ⋯ ⋯;have d1:a/(Int.gcd a b:Int)<=a:=jf3 _ ⋯;refine Dq ⟨500,500,ha.le ⋯,hb,nofun⟩ ?_;exact q _ sm
theorem Ja:C0 2 "round_by" ["size","days"] (iu K):=by
 refine co' ["size","days","pieces","day","bits","number","place"] bJ fun nd H vs Q E hr h=>?_;obtain⟨a,ds,n,rfl,hS,n0,n1,fin⟩:=h;refine⟨_,(Ae (Be (Ag Cq (Aa (pv 0) Ab)))
  (Ae (Be (Ag Ej (Aa (pv 0) Ab)))
  (Ae (Am 2 (Ai cL (Fq (Aa Ah Ab)) (Ai Bv (Ai Bf (pv 0) (CN rfl IV (Cz _ _))) Ah)))
  (Ae (JM PassesOwn.never rfl (Gu (pv 1)) (CZ (i:=3) nd rfl (by walk_at"o"))
   (Ae (Am 6 (Ai Bu (pv 3) (pv 0)))
  (Af (JN (Ai Zb (Eu Gv (pv 2) (Ai Bf (pv 6) (CN rfl IV (Cz _ _))) (fun _ _=>rfl)) (Ai Mt Ah (Ai Bu (pv 6) (CN rfl IV (Cz _ _))))) (oY (pv 2) (Ai Bf (pv 6) (CN rfl IV (Cz _ _))) set_list)))))
  (Ae (Am 4 Ah)
  (Ae (JM PassesOwn.never rfl (Oi rfl IK (Aa (BW Bl rfl Ds xi (Aa (pv 2) Ab)) Ab)) (CZ (i:=5) nd rfl (by walk_at"o"))
   (Af (Am 4 (Ai Zb (pv 4) (Ai Mt (Eu Gv (pv 2) (pv 5) (fun _ _=>rfl)) (Ai Cg (pv 5) (CN rfl IV (Cz _ _))))))))
  (Af (An (BJ (Aa (pv 0) (Aa (pv 4) Ab))))))))))),?_⟩
 symm;exists⟨n,rfl,⋯,?_⟩;exists⟨n,rfl,n1,?_⟩;refine⟨(by show 1<=sizeLine;decide),fun l0 hl0=>?_⟩;symm;refine bj Ao ⋯ ⋯ (by show 1*_<=sizeLine;unfold sizeLine;lia) (fun l hl=>?_);have s0:=Av hl0 (.lst [.int 0]);have s1:=s0.trans (Av hl (.lst (List.replicate (n/256+1).toNat [V.int 0]).flatten));have t1:upd (upd H l0 (.lst [.int 0])) l (.lst (List.replicate (n/256+1).toNat [V.int 0]).flatten) l=some (.lst (Sg 0 (n/256+1).toNat)):=by rw[Ao,jX]
 have hl':H l=none:=s0.free hl;generalize upd (upd H l0 (.lst [.int 0])) l (.lst (List.replicate (n/256+1).toNat [V.int 0]).flatten)=H1 at s1 t1 ⊢;generalize hk:(n/256+1).toNat=k at t1;symm;refine⟨a,rfl,⟨_,s1.seq hS⟩,KZ (xs:=ds.map V.int) (fun i Z' H'=>BR H H'/\Ex3 fun(b:Nat) (c c':Option V)=>An3 (H' l=some (.lst (Sg b k))) (Z'=[some (.int n),some (.ref a),some (.ref l),c,none,none,c']) (RB n (ds.take i) b)) ⟨s1,0,none,none,t1,rfl,?_⟩ ?_ ?_ ?_⟩
 ·simpa using RB.nil n
 ·rintro i Z' H' _ ⟨s,_⟩;exact s.seq hS
 ·rintro i x Z' H' hx ⟨s,b,c,c',t,rfl,B⟩;rw[xo] at hx;obtain⟨d,hd,rfl⟩:=ku.mp hx;have m0:=qh d (show n≠0 by lia);have m1:=qg d (show 0<n by lia);symm;have B':=B.snoc (x:=d) ⋯;obtain⟨p,hp⟩:∃p:Nat,d%n=(p:Int):=⟨(d%n).toNat,⋯⟩;rw[hp,zw] at B';rw[hp] at m1 ⊢;have e1:(p:Int)/256=((p/256:Nat):Int):=⋯
  have e2:(p:Int)%256=((p%256:Nat):Int):=⋯;rw[e1];have pk:p/256<k:=⋯;exists By (SqL.of t) (Dw (Mq pk)) ?_;rw[e2];exists Dq ⟨⋯,1,bt1,⋯⟩ ?_;rw[zw,oV,G6]
  try rw[e1]
  refine fK t (by rw[Mp];exact pk) ?_;rw[o9 pk];refine⟨Fp hl' s,_,_,_,Ao,rfl,?_⟩;rw[ky,hd];exact B'
 ·rintro Z' H2 ⟨s2,b,c,c',t2,rfl,B⟩;rw[js,jb4] at B;symm;walk_at"f";symm;exists⟨l,_,rfl,.inl (SqL.of t2),?_⟩;rw[Mp];refine⟨(k:Int),rfl,⋯,⋯,j9 (n:=((k:Int)).toNat) (fun i Z' H'=>H'=H2/\∃(c1:Option V),Z'=[some (.int n),some (.ref a),some (.ref l),c,some (.int ((b%2^(256*i):Nat):Int)),c1,c']/\i<=k) ⟨rfl,none,?_,⋯⟩ ?_ ?_⟩
  ·rw[js4,Nat.pow_zero,Nat.mod_one];rfl
  ·rintro i Z' H' hi ⟨rfl,c1,rfl,_⟩;have ik:i<k:=⋯
   symm;rw[jh9];exists By (SqL.of t2) (Dw (Mq ik)) ?_;refine Dq ⟨20,10,Ji ⋯,(by unfold Bt;decide),nofun⟩ ?_;symm;exists Dq ⟨⋯,256,Ji (ACq _ _),⋯⟩ ?_;rw[show ((i:Int)*256).toNat=256*i by lia,RZ,G6,uv];exact⟨rfl,_,rfl,⋯⟩
  ·rintro Z' H' ⟨rfl,c1,rfl,_⟩;symm;have e:256*((k:Int)).toNat=256*(n/256+1).toNat:=⋯
   rw[e,ud ⋯ B.lt];refine⟨DQ,fun p hp=>?_⟩;exact fin p b _ (s2.trans (Av hp _)) Ao B
theorem Ez:C0 1 "full_bits" ["size"] zU:=by
 refine co' ["size"] ZJ fun nd H vs Q E hr h=>?_;obtain⟨n,rfl,h0,h1,q⟩:=h;exists⟨_,(Af (An (Ai Do (Ai Mt Ah (pv 0)) Ah))),?_⟩;refine Dq ⟨h0,1,(by unfold Bt;decide),⋯⟩ ?_;symm;rw[j8];exact q
theorem WL:C0 2 "days_in" ["turn"] (nU K):=by
 refine co' ["turn","days","first","piece"] jQ fun nd H vs Q E hr h=>?_;obtain⟨a,n,b,rfl,hS,h0,h1,hb,q⟩:=h;refine⟨_,(Ae (Am 1 (Fq Ab))
  (Ae (JM PassesOwn.never rfl (Vl rfl IK (Aa Ah (Aa (pxT 0) (Aa (CN rfl IV (Cz _ _)) Ab)))) (CZ (i:=2) nd rfl (by walk_at"o"))
   (Ae (Am 3 (Ai Hf (Ai Lh (pxT 0) (pv 2)) (Ag Ez (Aa (CN rfl IV (Cz _ _)) Ab))))
  (Af (Ff (BK (Al Ft (pv 3) Ah (Aq _))
   (Af (Be (GR vk jd7 jd8 Iu (pv 1) (Aa (Fi rfl (Eg ["turn","days","first","piece"] ["turn","days","first","piece"] rfl rfl (by with_unfolding_all rfl) ∅ rfl ∅ rfl ∅ (by walk_at"fm") (by with_unfolding_all rfl) (by with_unfolding_all rfl)) (Oi rfl IK (Aa (CN rfl IV (Cz _ _)) Ab)) (fun _ _ _ _=>(SJ (AAP (Ai Hf (Ai Lh (pv 4) (pv 0)) Ah) (fun _=>rfl)))) (fun _ _ _ _=>(Ai Bv (pv 3) (pv 0)))) Ab))))
   Ar)))))
  (Af (An (pv 1))))),?_⟩
 symm;refine⟨(by show 0<=sizeLine;decide),fun l hl=>?_⟩;refine fresh hl fun H1 s1 t1=>?_;have t1:H1 l=some (.lst ((dli b (256*0)).map V.int)):=t1;have hS1:=s1.tup hS;symm;walk_at"f";symm;exists Ay hS1 at0 ?_;refine⟨0,n,256,rfl,nofun,nofun,Ld nofun nofun ⋯ ⋯ nofun nofun,((n-1)/256+1).toNat,?_,?_⟩
 ·rw[JL nofun,xp h0,show n-0-1=n-1 by lia];lia
 refine TF (fun i Z' H'=>An3 (BR H H') (H' l=some (.lst ((dli b (256*i)).map V.int))) (Ex2 fun(c c':Option V)=>Z'=[some (.ref a),some (.ref l),c,c']/\i<=700)) ⟨s1,t1,none,none,rfl,nofun⟩ ?_ ?_
 ·rintro i Z' H2 hi ⟨s2,t2,c,c',rfl,_⟩;have hS2:=s2.tup hS;have i1:i<700:=⋯
  rw[show (0:Int)+(i:Int)*256=((256*i:Nat):Int) by lia];generalize hm:256*i=m at*
  symm;exists Ay hS2 at1 ?_;exists Dq (show (0:Int)<=(m:Int) by lia) ?_;exists⟨256,rfl,nofun,nofun,?_⟩;rw[zw,HD,DP,jo5,ub,show(256:Int).toNat=256 from rfl];exists FN (fun Z' H'=>An3 (BR H H') (H' l=some (.lst ((dli b (256*(i+1))).map V.int))) (Ex2 fun(c c':Option V)=>Z'=[some (.ref a),some (.ref l),c,c']/\i+1<=700)) ?_ (fun Z' H' h=>h);refine Ca (fun _=>?_) (fun p0=>?_)
  rotate_left
  ·symm;refine⟨s2,?_,_,_,rfl,⋯⟩;rw[t2,show 256*(i+1)=m+256 by lia,<-Zu];have:((((List.range 256).map fun i=>V.int (0+(i:Nat)))).filter fun v=>match v with | .int d=>b.testBit (m+d.toNat) | _=>false)=[]:=by
    rw[List.filter_eq_nil_iff];intro v hv;obtain⟨j,hj,rfl⟩:=yv.mp hv;have hj':j<256:=jd3.mp hj;show ¬b.testBit (m+(0+(j:Int)).toNat)=true;rw[show (0+(j:Int)).toNat=j by lia];have e:(b/2^m%2^256).testBit j=b.testBit (m+j):=by
     rw[jc3,<-ub,ja3,decide_eq_true hj',Bool.true_and]
    rw[<-e,show b/2^m%2^256=0 by lia,jf5];exact zi
   rw[this,jl2,yk]
  symm;exists Og rfl t2 ?_;exists Fx (Xa ?_);refine⟨256,rfl,nofun,nofun,?_⟩;refine IW aZ ?_ (fun _ _ _=>trivial) (fun v=>match v with | .int d=>b.testBit (m+d.toNat) | _=>false) (fun v=>match v with | .int d=>V.int ((m:Int)+d) | _=>.non) (fun x hx D ys Q' hD h=>?_) (fun x hx _ D ys Q' hD h=>?_) (fun D hD=>?_)
  ·rw[js,vt];exact Dz nofun
  ·obtain⟨j,hj,rfl⟩:=yv.mp hx;have hj':j<256:=jd3.mp hj;symm;exists Dq (show (0:Int)<=0+(j:Int) by lia) ?_;rw[show (0+(j:Int)).toNat=j by lia,jV,decide_eq_true hj',Bool.true_and];replace h:Q' (b.testBit (m+(0+(j:Int)).toNat)) _:=h;rw[show (0+(j:Int)).toNat=j by lia] at h;exact h
  ·obtain⟨j,hj,rfl⟩:=yv.mp hx;symm;exact h
  have s3:=Av hD (.lst ((((List.range (Int.toNat 256)).map fun i=>V.int (0+(i:Nat))).filter fun v=>match v with | .int d=>b.testBit (m+d.toNat) | _=>false).map fun v=>match v with | .int d=>V.int ((m:Int)+d) | _=>.non))
  symm;refine⟨l,D,_,_,rfl,rfl,s3 _ _ t2,Ao,?_,?_⟩
  ·rw[js,js];refine zo (jv8 (X8 _ _) (jo4 _ _)) ?_;rw[js,vt];exact zo (show m+Int.toNat 256<=200000 by have:Int.toNat 256=256:=rfl;lia) nofun
  symm;refine⟨Fp hl (s2.trans s3),?_,_,_,rfl,⋯⟩;rw[Ao,show Int.toNat 256=256 from rfl,Zu,show 256*(i+1)=m+256 by lia]
 ·rintro Z' H2 ⟨s2,t2,c,c',rfl,_⟩;symm;refine q l _ hl s2 ?_;rw[t2];unfold dli;obtain⟨k,hk⟩:∃k,256*((n-1)/256+1).toNat=n.toNat+k:=⟨256*((n-1)/256+1).toNat-n.toNat,⋯⟩;rw[hk,wB hb]
theorem Fe:C0 2 "bits_by" ["turn","size"] (jB K):=by
 refine co' ["turn","size","bits","width"] jR fun nd H vs Q E hr h=>?_;obtain⟨a,n,z,b,rfl,hS,h0,h1,hb,z0,z1,q⟩:=h;refine⟨_,(Ae (Am 2 (pxT 0)) (Ae (Am 3 (pxT 0)) (Ae (Gr PassesOwn.never (Al Ew (pv 3) (pv 1) (Aq _)) (Ae (Am 2 (Ai Zb (pv 2) (Ai Mt (pv 2) (pv 3)))) (Af (Am 3 (Ai Cg (pv 3) Ah))))) (Af (An (Ai Hf (pv 2) (Ag Ez (Aa (pv 1) Ab)))))))),?_⟩
 symm;exists Ay hS at1 ?_;exists Ay hS at0 ?_;refine⟨fun m Z' H'=>H'=H/\∃wd c:Nat,Z'=[some (.ref a),some (.int z),some (.int (c:Int)),some (.int (wd:Int))]/\n.toNat∣wd/\0<wd/\wd<=300000/\FZ n.toNat b wd c/\m=z.toNat-wd,
  ⟨_,rfl,n.toNat,b,?_,Nat.dvd_refl _,⋯,⋯,FZ.start hb,rfl⟩,?_⟩
 ·have e:((n.toNat:Nat):Int)=n:=⋯
  rw[e]<;>rfl
 rintro m Z' H' ⟨rfl,wd,c,rfl,hd,w0,w1,S,rfl⟩;symm;refine Ca (fun cc=>?_) (fun cc=>?_)
 ·exists⟨_,fun Z' H' hh=>hh,?_⟩;exists Dq ⟨⋯,wd,Ji S.lt,⋯⟩ ?_;refine Dq ⟨20,2,Ji ⋯,(by unfold Bt;decide),nofun⟩ ?_;symm;rw[zw,RZ,G6];refine⟨z.toNat-wd*2,⋯,rfl,wd*2,c ||| (c <<< wd),?_,jm5 hd (Nat.dvd_mul_right _ _),⋯,⋯,S.dbl hd,rfl⟩;rfl
 ·symm;exists⟨z,rfl,⋯,⋯,?_⟩;rw[DP];exact q _ (S.cut ⋯)
theorem Ei:C0 3 "stretched" ["turn","size"] (PL K):=by
 refine co' ["turn","size"] Yy fun nd H vs Q E hr h=>?_;obtain⟨a,n,z,b,rfl,hS,h0,h1,hb,z0,z1,hd,q⟩:=h;refine⟨_,(Ae (Be (Ag Cq (Aa (pv 1) Ab))) (Ae (BK (Al Gz (Ai Bu (pv 1) (pxT 0)) Ah (Aq _)) (Af Bc) Ar) (Ae (Be (Ag Ej (Aa (pv 1) Ab))) (Af (An (BJ (Aa (pv 1) (Aa (Ag Fe (Aa (pv 0) (Aa (pv 1) Ab))) Ab)))))))),?_⟩
 symm;exists⟨z,rfl,⋯,?_⟩;refine Ay hS at0 ?_;exists Dq h0 ?_;rw[Int.emod_eq_zero_of_dvd hd];exists HJ rfl ?_;exists⟨z,rfl,z1,?_⟩;exists⟨a,n,z,b,rfl,hS,h0,⋯,hb,z0,z1,fun c S=>?_⟩;exact⟨(by show 2<=sizeLine;decide),fun p hp=>q p c hp S⟩
theorem Em:C0 4 "common_size" ["one","other"] (ADs K):=by
 refine co' ["one","other","size"] U4 fun nd H vs Q E hr h=>?_;obtain⟨a1,a2,n1,n2,b1,b2,rfl,S1,S2,p1,p2,l1,l2,lz,q⟩:=h;refine⟨_,(Ae (Am 2 (Ag UG (Aa (pxT 0) (Aa (pxT 1) Ab)))) (Ae (Be (Ag Ej (Aa (pv 2) Ab))) (Af (An (pv 2))))),?_⟩
 symm;exists Ay S1 at0 ?_;exists Ay S2 at0 ?_;exists⟨n1,n2,rfl,p1,p2,CP ⋯ ⋯ nofun,CP ⋯ ⋯ nofun,fun H1 s1=>?_⟩;exists⟨_,rfl,lz,?_⟩;exact q _ s1
theorem Kg:C0 5 "both" ["one","other"] (spJ K (Bo and)):=by
 refine co' ["one","other","size"] zm fun nd H vs Q E hr h=>?_;obtain⟨a1,a2,n1,n2,b1,b2,rfl,W,lz,q⟩:=h;have fl:=Bj W.p1 W.p2;have l1:=W.l1;have l2:=W.l2;refine⟨_,(Ae (Am 2 (Ag Em (Aa (pv 0) (Aa (pv 1) Ab)))) (Af (An (BJ (Aa (pv 2) (Aa (Ai Hf (Ag Fe (Aa (pv 0) (Aa (pv 2) Ab))) (Ag Fe (Aa (pv 1) (Aa (pv 2) Ab)))) Ab)))))),?_⟩
 symm;exists⟨a1,a2,n1,n2,b1,b2,rfl,W.s1,W.s2,W.p1,W.p2,W.l1,W.l2,lz,fun H1 s1=>?_⟩;exists⟨a1,n1,_,b1,rfl,s1.tup W.s1,W.p1,⋯,W.k1,fl.1,lz,fun c1 T1=>?_⟩;exists⟨a2,n2,_,b2,rfl,s1.tup W.s2,W.p2,⋯,W.k2,fl.1,lz,fun c2 T2=>?_⟩;rw[DP];refine⟨DQ,fun p hp=>?_⟩;have l:c1 &&& c2<2^(CQ n1 n2).toNat:=Nat.and_lt_two_pow _ T2.lt;exact q p _ _ (s1.trans (Av hp _)) Ao l ⟨l,fun i hi=>by rw[jb0,T1.bit i hi,T2.bit i hi]⟩
theorem Tw:C0 5 "either" ["one","other"] (spJ K (Bo or)):=by
 refine co' ["one","other","size"] n8 fun nd H vs Q E hr h=>?_;obtain⟨a1,a2,n1,n2,b1,b2,rfl,W,lz,q⟩:=h;have fl:=Bj W.p1 W.p2;have l1:=W.l1;have l2:=W.l2;refine⟨_,(Ae (Am 2 (Ag Em (Aa (pv 0) (Aa (pv 1) Ab)))) (Af (An (BJ (Aa (pv 2) (Aa (Ai Zb (Ag Fe (Aa (pv 0) (Aa (pv 2) Ab))) (Ag Fe (Aa (pv 1) (Aa (pv 2) Ab)))) Ab)))))),?_⟩
 symm;exists⟨a1,a2,n1,n2,b1,b2,rfl,W.s1,W.s2,W.p1,W.p2,W.l1,W.l2,lz,fun H1 s1=>?_⟩;exists⟨a1,n1,_,b1,rfl,s1.tup W.s1,W.p1,⋯,W.k1,fl.1,lz,fun c1 T1=>?_⟩;exists⟨a2,n2,_,b2,rfl,s1.tup W.s2,W.p2,⋯,W.k2,fl.1,lz,fun c2 T2=>?_⟩;rw[G6];refine⟨DQ,fun p hp=>?_⟩;have l:=jt6 T1.lt T2.lt;exact q p _ _ (s1.trans (Av hp _)) Ao l ⟨l,fun i hi=>by rw[jd4,T1.bit i hi,T2.bit i hi]⟩
theorem Z6:C0 5 "unlike" ["one","other"] (spJ K (Bo xor)):=by
 refine co' ["one","other","size"] nq fun nd H vs Q E hr h=>?_;obtain⟨a1,a2,n1,n2,b1,b2,rfl,W,lz,q⟩:=h;have fl:=Bj W.p1 W.p2;have l1:=W.l1;have l2:=W.l2;refine⟨_,(Ae (Am 2 (Ag Em (Aa (pv 0) (Aa (pv 1) Ab)))) (Af (An (BJ (Aa (pv 2) (Aa (Ai cJ (Ag Fe (Aa (pv 0) (Aa (pv 2) Ab))) (Ag Fe (Aa (pv 1) (Aa (pv 2) Ab)))) Ab)))))),?_⟩
 symm;exists⟨a1,a2,n1,n2,b1,b2,rfl,W.s1,W.s2,W.p1,W.p2,W.l1,W.l2,lz,fun H1 s1=>?_⟩;exists⟨a1,n1,_,b1,rfl,s1.tup W.s1,W.p1,⋯,W.k1,fl.1,lz,fun c1 T1=>?_⟩;exists⟨a2,n2,_,b2,rfl,s1.tup W.s2,W.p2,⋯,W.k2,fl.1,lz,fun c2 T2=>?_⟩;rw[Lx];refine⟨DQ,fun p hp=>?_⟩;have l:=js6 T1.lt T2.lt;exact q p _ _ (s1.trans (Av hp _)) Ao l ⟨l,fun i hi=>by rw[jm7,T1.bit i hi,T2.bit i hi]⟩
theorem Jc:C0 2 "other_days" ["turn"] (tY K):=by
 refine co' ["turn"] XC fun nd H vs Q E hr h=>?_;obtain⟨a,n,b,rfl,S,n0,n1,hb,q⟩:=h;exists⟨_,(Af (An (BJ (Aa (pxT 0) (Aa (Ai cJ (pxT 0) (Ag Ez (Aa (pxT 0) Ab))) Ab))))),?_⟩;exists Ay S at0 ?_;exists Ay S at1 ?_;exists Ay S at0 ?_;exists⟨n,rfl,⋯,⋯,?_⟩;rw[Lx];refine⟨DQ,fun p hp=>q p _ hp ?_ fun i hi=>?_⟩
 ·exact js6 hb (by have:=kz n.toNat;lia)
 ·rw[jm7,jk0];simp[hi]
theorem Ow:C0 6 "without" ["one","other"] (spJ K (Bo bn)):=by
 refine co' ["one","other"] jF fun nd H vs Q E hr h=>?_;obtain⟨a1,a2,n1,n2,b1,b2,rfl,W,lz,q⟩:=h;exists⟨_,(Af (An (Ag Kg (Aa (pv 0) (Aa (Ag Jc (Aa (pv 1) Ab)) Ab))))),?_⟩;exists⟨a2,n2,b2,rfl,W.s2,W.p2,W.l2,W.k2,fun p c hp hc hbit=>?_⟩;refine⟨a1,p,n1,n2,b1,c,rfl,⟨(Av hp _).tup W.s1,SqT.of Ao,W.p1,W.p2,W.l1,W.l2,W.k1,hc⟩,lz,fun p3 c3 H3 s3 hp3 lt B=>?_⟩;have:=W.p2;exact q p3 c3 H3 ((Av hp _).trans s3) hp3 lt ⟨lt,fun i hi=>by rw[B.bit i hi,hbit _ (jl3 _ ⋯)];rfl⟩
theorem Ia:C0 2 "later" ["turn","number"] (uE K):=by
 refine co' ["turn","number","shift","bits"] uV fun nd H vs Q E hr h=>?_;obtain⟨a,n,num,b,rfl,hS,h0,h1,hb,q⟩:=h;refine⟨_,(Ae (Am 2 (Ai Bu (pv 1) (pxT 0))) (Ae (Am 3 (Ai Zb (Ai Mt (pxT 0) (pv 2)) (Ai Lh (pxT 0) (Ai Do (pxT 0) (pv 2))))) (Af (An (BJ (Aa (pxT 0) (Aa (Ai Hf (pv 3) (Ag Ez (Aa (pxT 0) Ab))) Ab))))))),?_⟩
 have m0:=qh num (show n≠0 by lia);have m1:=qg num h0;symm;refine Ay hS at0 ?_;exists Dq h0 ?_;exists Ay hS at1 ?_;exists Dq ⟨m0,n.toNat,Ji hb,⋯⟩ ?_;exists Ay hS at1 ?_;exists Ay hS at0 ?_;exists Dq (show (0:Int)<=n-num%n by lia) ?_;exists Ay hS at0 ?_;exists Ay hS at0 ?_;exists⟨n,rfl,⋯,⋯,?_⟩;have e:(n-num%n).toNat=n.toNat-(num%n).toNat:=⋯;rw[RZ,HD,G6,DP,e];refine⟨(by show 2<=sizeLine;decide),fun p hp=>?_⟩;exact q p hp
theorem WD:C0 3 "ones_in" ["bits"] zM:=by
 refine co' ["bits","fields","width","each_second"] jJ fun nd H vs Q E hr h=>?_;obtain⟨b,n,rfl,hb,hn,q⟩:=h;refine⟨_,(Ae (Am 1 (pv 0)) (Ae (Am 2 Ah) (Ae (Gr PassesOwn.never (Al Ft (Ai Lh (pv 1) (pv 2)) Ah (Aq _)) (Ae (Am 3 (Ag Fe (Aa (BJ (Aa (Ai Cg Ah (pv 2)) (Aa (Ag Ez (Aa (pv 2) Ab)) Ab))) (Aa (o8 PySem.F.plainAttrs_int jq9 jr0 gC (pv 1)) Ab)))) (Ae (Am 1 (Ai Bv (Ai Hf (pv 1) (pv 3)) (Ai Hf (Ai Lh (pv 1) (pv 2)) (pv 3)))) (Af (Am 2 (Ai Cg Ah (pv 2))))))) (Af (An (pv 1)))))),?_⟩
 symm;refine⟨fun m Z' H'=>BR H H'/\∃f w:Nat,∃x:Option V,Z'=[some (.int (b:Int)),some (.int (f:Int)),some (.int (w:Int)),x]/\0<w/\w<=300000/\f<2^n/\Dg w f (cnt b n)/\m=n-w,
  ⟨_,BR.refl _,b,1,none,rfl,nofun,nofun,hb,Dg.start n b hb,rfl⟩,?_⟩
 rintro m Z' H1 ⟨s1,f,w,x,rfl,w0,w1,hf,D,rfl⟩;symm;exists Dq (show (0:Int)<=(w:Int) by lia) ?_;rw[zw,HD];refine Ca (fun cc=>?_) (fun cc=>?_)
 ·have f1:2^w<=f:=by
   have h1:0<f >>> w:=⋯;rw[ub] at h1;exact ju6 fun z=>by rw[jp2 z] at h1;lia
  have wn:w<n:=by
   refine jf4 fun z=>?_;have:=vj (show 0<2 by decide) z;lia
  have f0:f≠0:=by have:=kz w;lia
  have l1:f<2^(f.log2+1):=Nat.lt_log2_self;have l2:f.log2+1<=n:=by
   have:=Nat.log2_self_le f0;refine jf4 fun z=>?_;have:=vj (show 0<2 by decide) z;lia
  exists⟨_,fun Z' H' hh=>hh,?_⟩;refine Dq ⟨3,20,(by unfold Bt;decide),Ji ⋯,nofun⟩ ?_;symm;exists⟨(w:Int),rfl,⋯,⋯,?_⟩;rw[zw,show(2:Int)*(w:Int)=((2*w:Nat):Int) by lia];refine⟨DQ,fun p hp=>?_⟩;exists fresh hp fun H2 s2 t2=>?_;rw[Ph f0];symm;refine⟨p,_,_,_,rfl,SqT.of t2,⋯,⋯,?_,⋯,⋯,fun c S=>?_⟩
  ·rw[zw];have:=vj (show 0<2 by decide) (show w<=2*w by lia);have:=kz w;lia
  rw[zw,show(((f.log2+1:Nat):Int)).toNat=f.log2+1 by lia] at S;symm;exists Dq (show (0:Int)<=(w:Int) by lia) ?_;refine Dq ⟨3,20,(by unfold Bt;decide),Ji ⋯,nofun⟩ ?_;symm;have E1:=gU w0 l1 S 0;have E2:=gU w0 l1 S w;rw[Nat.pow_zero,Nat.div_one] at E1;obtain⟨d1,d2⟩:=D.pair w0 E1 E2;rw[zw,HD,ub,DP,DP];refine⟨n-2*w,⋯,s1.trans s2,(f &&& c)+(f/2^w &&& c),2*w,some (.int (c:Int)),?_,⋯,⋯,⋯,d1,rfl⟩;rw[ui];rfl
 ·have fl:f<2^w:=by
   have h1:f >>> w=0:=Nat.eq_zero_of_not_pos fun z=>cc (Int.natCast_pos.mpr z);rw[ub] at h1;exact jf4 fun z=>by
    have:=(Nat.le_div_iff_mul_le (kz w)).mpr (show 1*2^w<=f by lia);lia
  symm;rw[D.last fl];exact q _ s1
theorem M8:C0 4 "days_ahead" ["turn","day"] (uL K):=by
 refine co' ["turn","day","part"] XH fun nd H vs Q E hr h=>?_;obtain⟨a,n,d,b,rfl,hS,h0,h1,hb,bd,q⟩:=h;have m0:=qh d (show n≠0 by lia);have m1:=qg d h0;refine⟨_,(Ae (Am 2 (Ai Hf (pxT 0) (Ag Ez (Aa (Ai Bu (pv 1) (pxT 0)) Ab)))) (Af (An (Ai Bv (Ai Cg (Ai Bf (pv 1) (pxT 0)) (Ag WD (Aa (pxT 0) Ab))) (Ag WD (Aa (pv 2) Ab)))))),?_⟩
 symm;exists Ay hS at1 ?_;refine Ay hS at0 ?_;exists Dq h0 ?_;exists⟨d%n,rfl,m0,⋯,?_⟩;rw[DP];exists Ay hS at0 ?_;exists Dq (Dv h0 ⋯) ?_;exists Ay hS at1 ?_;refine⟨b,n.toNat,rfl,hb,⋯,fun H1 s1=>?_⟩;have cl:=qj b n.toNat;exists Dq ⟨260,20,q9 bd h0,Ji ⋯,nofun⟩ ?_;exists⟨_,(d%n).toNat,rfl,HW _ _,⋯,fun H2 s2=>?_⟩;rw[Z0 (c:=b) fun i hi=>GJ _ _ _ hi];exact q _ (s1.trans s2)
theorem dR:C0 5 "how_many" ["turn","first","end"] (zO K):=by
 refine co' ["turn","first","end"] bU fun nd H vs Q E hr h=>?_;obtain⟨a,n,f',e,b,rfl,hS,h0,h1,hb,b1,b2,q⟩:=h;exists⟨_,(Af (An (Ai Do (Ag M8 (Aa (pv 0) (Aa (pv 2) Ab))) (Ag M8 (Aa (pv 0) (Aa (pv 1) Ab)))))),?_⟩;exists⟨a,n,e,b,rfl,hS,h0,h1,hb,b2.mono nofun,fun H1 s1=>?_⟩;exists⟨a,n,f',b,rfl,s1.tup hS,h0,h1,hb,b1.mono nofun,fun H2 s2=>?_⟩;exact q _ (s1.trans s2)
theorem Je:C0 6 "gathered" ["turn","barred","step","join"] (ADp K mg [("either",spJ K (Bo or)),("unlike",spJ K (Bo xor))]):=by
 refine co' ["turn","barred","step","join","told","free","stride"] bV fun nd H vs Q E hr h=>?_;obtain⟨a1,a2,f',n,e,b,c,x,J,G,rfl,hxj,hmg,S1,S2,n0,n1,hb,hc,he,G1,Gs,q⟩:=h;refine⟨_,(Ae (Am 4 (pv 0)) (Ae (Am 5 (Ag Jc (Aa (pv 1) Ab))) (Ae (Am 6 (pv 2)) (Ae (Gr PassesOwn.never (Al Ew (BW Z5 rfl xH PyProof.Rows.boot_abs (Aa (pv 6) Ab)) (pxT 0) (Aq _)) (Ae (Am 4 (ut (i:=3) (k:=5) (Ib.cons Tw (Ib.cons Z6 Ib.nil)) (hr.mono nofun) rfl (by first | exact Or.inl rfl | exact Or.inr (Or.inl rfl) | exact Or.inr (Or.inr rfl)) (Aa (pv 4) (Aa (Ag Kg (Aa (Ag Ia (Aa (pv 4) (Aa (pv 6) Ab))) (Aa (pv 5) Ab))) Ab)))) (Ae (Am 5 (Ag Kg (Aa (pv 5) (Aa (Ag Ia (Aa (pv 5) (Aa (pv 6) Ab))) Ab)))) (Af (Am 6 (Ai Cg Ah (pv 6))))))) (Af (An (pv 4))))))),?_⟩
 symm;refine⟨a2,n,c,rfl,S2,n0,n1,hc,fun pf fc hpf lf bf=>?_⟩;refine fresh hpf fun H1 s1 t1=>?_;have ls:=lcm_self n0;symm;refine⟨fun m Z' H'=>BR H H'/\∃(pt pf:Addr) (g fr k:Nat),0<k/\k<=300000/\H' pt=some (.tup [.int n,.int (g:Int)])/\SqT K H' pf [.int n,.int (fr:Int)]/\g<2^n.toNat/\fr<2^n.toNat/\(∀d,On n g d=true<->G k d)/\(∀d,On n fr d=true<->Fre (On n c) e k d)/\
  Z'=[some (.ref a1),some (.ref a2),some (.int e),some (.ref f'),some (.ref pt),some (.ref pf),some (.int (e*(k:Int)))]/\m=n.toNat-k,
  ⟨_,s1,a1,pf,b,fc,1,nofun,nofun,s1 _ _ S1,SqT.of t1,hb,lf,G1,fun d=>(by rw[Za n0 bf d,Fre.one];cases On n c d<;>simp),(by rw[show e*((1:Nat):Int)=e by lia]<;>rfl),rfl⟩,?_⟩
 rintro m Z' H2 ⟨s2,pt,pf,g,fr,k,k0,k1,Tt,Tf,lg,lfr,og,ofr,rfl,rfl⟩;have ek:(e*(k:Int)).natAbs=k:=by rcases he with h | h<;>rw[h]<;>lia
 symm;exists⟨_,rfl,?_⟩;exists Ay (SqT.of (s2 _ _ S1)) at0 ?_;have mulb:∀x:Int,e*x=x\/e*x= -x:=fun x=>by rcases he with h | h<;>rw[h]<;>lia
 refine Ca (fun hlt=>?_) (fun hge=>?_)
 ·have kn:(k:Int)<n:=by
   have:=mulb k;split at hlt<;>lia
  refine⟨fun Z' H'=>∃m',m'<n.toNat-k/\BR H H'/\∃(pt pf:Addr) (g fr k:Nat),0<k/\k<=300000/\H' pt=some (.tup [.int n,.int (g:Int)])/\SqT K H' pf [.int n,.int (fr:Int)]/\g<2^n.toNat/\fr<2^n.toNat/\(∀d,On n g d=true<->G k d)/\(∀d,On n fr d=true<->Fre (On n c) e k d)/\
   Z'=[some (.ref a1),some (.ref a2),some (.int e),some (.ref f'),some (.ref pt),some (.ref pf),some (.int (e*(k:Int)))]/\m'=n.toNat-k,fun Z' H' hh=>hh,?_⟩
  symm;exists oK rfl hxj hmg ?_;refine⟨pt,n,_,g,rfl,SqT.of Tt,n0,n1,lg,fun p1 h1=>?_⟩;refine fresh h1 fun H3 s3 t3=>?_;have t3:H3 p1=some _:=t3;symm;refine⟨p1,pf,n,n,_,fr,rfl,⟨SqT.of t3,s3.tup Tf,n0,n0,n1,n1,KQ _ _ _,lfr⟩,by rw[ls];exact n1,fun p2 c2 H4 s4 t4 B2 R2=>?_⟩;rw[ls] at t4 B2 R2;symm;refine⟨pt,p2,n,n,g,c2,rfl,⟨SqT.of (s4 _ _ (s3 _ _ Tt)),SqT.of t4,n0,n0,n1,n1,lg,B2⟩,(by rw[ls];exact n1),fun p3 c3 H5 s5 t5 B3 R3=>?_⟩;rw[ls] at t5 B3 R3;symm;refine⟨pf,n,_,fr,rfl,s5.tup (s4.tup (s3.tup Tf)),n0,n1,lfr,fun p4 h4=>?_⟩;refine fresh h4 fun H6 s6 t6=>?_;have t6:H6 p4=some _:=t6;symm;refine⟨pf,p4,n,n,fr,_,rfl,⟨s6.tup (s5.tup (s4.tup (s3.tup Tf))),SqT.of t6,n0,n0,n1,n1,lfr,KQ _ _ _⟩,by rw[ls];exact n1,fun p5 c5 H7 s7 t7 B5 R5=>?_⟩;rw[ls] at t7 B5 R5;symm;refine Dq ⟨2,20,Ji nofun,(by show(e*(k:Int)).natAbs<2^20;rw[ek];lia),nofun⟩ ?_;symm;have e2:e*((2*k:Nat):Int)=2*(e*(k:Int)):=by rw[jh2,jn4];rfl
  refine⟨n.toNat-2*k,⋯,s2.trans (s3.trans (s4.trans (s5.trans (s6.trans s7)))),p3,p5,c3,c5,2*k,⋯,⋯,s7 _ _ (s6 _ _ t5),SqT.of t7,B3,B5,(fun d=>?_),(fun d=>?_),by rw[e2]<;>rfl,rfl⟩
  ·rw[R3.on n0 n0 n0 (Xs n) (Xs n) d];exact Gs k d _ _ (og d) (by rw[R2.on n0 n0 n0 (Xs n) (Xs n) d,KN n0 lg,yy,og,ofr])
  ·rw[R5.on n0 n0 n0 (Xs n) (Xs n) d,KN n0 lfr,Fre.step,yy,ofr,ofr]
 ·have kn:n.toNat<=k:=by
   have:=mulb k;split at hge<;>lia
  symm;exact q pt g H2 k kn s2 Tt lg og
theorem dN:C0 7 "upon" ["R","S"] (spJ K (WR (UpJ 1))):=by
 refine co' ["R","S","size","days"] za fun nd H vs Q E hr h=>?_;obtain⟨a1,a2,n1,n2,b1,b2,rfl,W,lz,q⟩:=h;have fl:=Bj W.p1 W.p2;refine⟨_,(Ae (Am 2 (Ag Em (Aa (pv 0) (Aa (pv 1) Ab)))) (Ae (Am 3 (Ag Ei (Aa (pv 0) (Aa (pv 2) Ab)))) (Af (An (Ag Kg (Aa (pv 3) (Aa (Ag Je (Aa (Ag Ei (Aa (pv 1) (Aa (pv 2) Ab))) (Aa (Ag Ia (Aa (pv 3) (Aa Ah Ab))) (Aa Ah (Aa (CN rfl Io (G9 _)) Ab))))) Ab))))))),?_⟩
 symm;refine⟨a1,a2,n1,n2,b1,b2,rfl,W.s1,W.s2,W.p1,W.p2,W.l1,W.l2,lz,fun H1 s1=>?_⟩;generalize hz:CQ n1 n2=z at*
 have z0:=fl.1;have d1:n1∣z:=fl.2.1;have d2:n2∣z:=fl.2.2.1;have ls:=lcm_self z0;symm;refine⟨a1,n1,z,b1,rfl,s1.tup W.s1,W.p1,W.l1,W.k1,z0,lz,d1,fun pr cr hr1 Sr=>?_⟩;exists fresh hr1 fun H2 s2 t2=>?_;refine⟨a2,n2,z,b2,rfl,s2.tup (s1.tup W.s2),W.p2,W.l2,W.k2,z0,lz,d2,fun ps cs hs1 Ss=>?_⟩;exists fresh hs1 fun H3 s3 t3=>?_;refine⟨pr,z,_,cr,rfl,s3.tup (SqT.of t2),z0,lz,Sr.lt,fun pl hl1=>?_⟩;refine fresh hl1 fun H4 s4 t4=>?_;have t4:H4 pl=some _:=t4;symm;refine⟨ps,pl,_,z,1,cs,_,_,or,Gt (On z cs) (On z (lat z.toNat cr (1%z).toNat)) (1),rfl,qf,Io,s4 _ _ t3,SqT.of t4,z0,lz,Ss.lt,KQ _ _ _,.inl rfl,fun d=>Gt.one.symm,KR,fun pg g H5 k kn s5 t5 lg og0=>?_⟩;have en:((z.toNat:Nat):Int)=z:=⋯;have og:∀d,On z g d=true<->Gat (On z cs) (On z (lat z.toNat cr (1%z).toNat)) (1) d:=fun d=>by rw[og0,Gat.iff (n:=z.toNat) ⋯ kn (fun x y h=>Lk (en ▸ h)) (fun x y h=>Lk (en ▸ h))]
 symm;refine⟨pr,pg,z,z,cr,g,rfl,⟨s5.tup (s4.tup (s3.tup (SqT.of t2))),SqT.of t5,z0,z0,lz,lz,Sr.lt,lg⟩,by rw[ls];exact lz,fun p c H6 s6 t6 B R=>?_⟩;rw[ls] at t6 B R;refine q p c H6 (s1.trans (s2.trans (s3.trans (s4.trans (s5.trans s6))))) t6 B fun d=>?_;rw[R.self z0 d,yy];exact lr (FZ.on W.p1 z0 d1 Sr) (FZ.on W.p2 z0 d2 Ss) (fun d=>KN z0 Sr.lt) og d
theorem YC:C0 7 "until" ["R","S"] (spJ K (WR (UpJ (-1)))):=by
 refine co' ["R","S","size","days"] uT fun nd H vs Q E hr h=>?_;obtain⟨a1,a2,n1,n2,b1,b2,rfl,W,lz,q⟩:=h;have fl:=Bj W.p1 W.p2;refine⟨_,(Ae (Am 2 (Ag Em (Aa (pv 0) (Aa (pv 1) Ab)))) (Ae (Am 3 (Ag Ei (Aa (pv 0) (Aa (pv 2) Ab)))) (Af (An (Ag Kg (Aa (pv 3) (Aa (Ag Je (Aa (Ag Ei (Aa (pv 1) (Aa (pv 2) Ab))) (Aa (Ag Ia (Aa (pv 3) (Aa (HF Fo Ah) Ab))) (Aa (HF Fo Ah) (Aa (CN rfl Io (G9 _)) Ab))))) Ab))))))),?_⟩
 symm;refine⟨a1,a2,n1,n2,b1,b2,rfl,W.s1,W.s2,W.p1,W.p2,W.l1,W.l2,lz,fun H1 s1=>?_⟩;generalize hz:CQ n1 n2=z at*
 have z0:=fl.1;have d1:n1∣z:=fl.2.1;have d2:n2∣z:=fl.2.2.1;have ls:=lcm_self z0;symm;refine⟨a1,n1,z,b1,rfl,s1.tup W.s1,W.p1,W.l1,W.k1,z0,lz,d1,fun pr cr hr1 Sr=>?_⟩;exists fresh hr1 fun H2 s2 t2=>?_;refine⟨a2,n2,z,b2,rfl,s2.tup (s1.tup W.s2),W.p2,W.l2,W.k2,z0,lz,d2,fun ps cs hs1 Ss=>?_⟩;exists fresh hs1 fun H3 s3 t3=>?_;refine⟨pr,z,_,cr,rfl,s3.tup (SqT.of t2),z0,lz,Sr.lt,fun pl hl1=>?_⟩;refine fresh hl1 fun H4 s4 t4=>?_;have t4:H4 pl=some _:=t4;symm;refine⟨ps,pl,_,z,-1,cs,_,_,or,Gt (On z cs) (On z (lat z.toNat cr (-1%z).toNat)) (-1),rfl,qf,Io,s4 _ _ t3,SqT.of t4,z0,lz,Ss.lt,KQ _ _ _,.inr rfl,fun d=>Gt.one.symm,KR,fun pg g H5 k kn s5 t5 lg og0=>?_⟩;have en:((z.toNat:Nat):Int)=z:=⋯;have og:∀d,On z g d=true<->Gat (On z cs) (On z (lat z.toNat cr (-1%z).toNat)) (-1) d:=fun d=>by rw[og0,Gat.iff (n:=z.toNat) ⋯ kn (fun x y h=>Lk (en ▸ h)) (fun x y h=>Lk (en ▸ h))]
 symm;refine⟨pr,pg,z,z,cr,g,rfl,⟨s5.tup (s4.tup (s3.tup (SqT.of t2))),SqT.of t5,z0,z0,lz,lz,Sr.lt,lg⟩,by rw[ls];exact lz,fun p c H6 s6 t6 B R=>?_⟩;rw[ls] at t6 B R;refine q p c H6 (s1.trans (s2.trans (s3.trans (s4.trans (s5.trans s6))))) t6 B fun d=>?_;rw[R.self z0 d,yy];exact lr (FZ.on W.p1 z0 d1 Sr) (FZ.on W.p2 z0 d2 Ss) (fun d=>KN z0 Sr.lt) og d
theorem qp:C0 7 "till" ["R","S"] (spJ K (WR TiU)):=by
 refine co' ["R","S","size"] zb fun nd H vs Q E hr h=>?_;obtain⟨a1,a2,n1,n2,b1,b2,rfl,W,lz,q⟩:=h;have fl:=Bj W.p1 W.p2;refine⟨_,(Ae (Am 2 (Ag Em (Aa (pv 0) (Aa (pv 1) Ab)))) (Af (An (Ag Je (Aa (Ag Ei (Aa (pv 0) (Aa (pv 2) Ab))) (Aa (Ag Ei (Aa (pv 1) (Aa (pv 2) Ab))) (Aa Ah (Aa (CN rfl Io (G9 _)) Ab)))))))),?_⟩
 symm;refine⟨a1,a2,n1,n2,b1,b2,rfl,W.s1,W.s2,W.p1,W.p2,W.l1,W.l2,lz,fun H1 s1=>?_⟩;generalize hz:CQ n1 n2=z at*
 have z0:=fl.1;have d1:n1∣z:=fl.2.1;have d2:n2∣z:=fl.2.2.1;have ls:=lcm_self z0;symm;refine⟨a1,n1,z,b1,rfl,s1.tup W.s1,W.p1,W.l1,W.k1,z0,lz,d1,fun pr cr hr1 Sr=>?_⟩;exists fresh hr1 fun H2 s2 t2=>?_;refine⟨a2,n2,z,b2,rfl,s2.tup (s1.tup W.s2),W.p2,W.l2,W.k2,z0,lz,d2,fun ps cs hs1 Ss=>?_⟩;exists fresh hs1 fun H3 s3 t3=>?_;refine⟨pr,ps,_,z,1,cr,cs,_,or,Gt (On z cr) (On z cs) (1),rfl,qf,Io,s3 _ _ t2,SqT.of t3,z0,lz,Sr.lt,Ss.lt,.inl rfl,fun d=>Gt.one.symm,KR,fun pg g H5 k kn s5 t5 lg og0=>?_⟩;have oR:=fun d=>FZ.on W.p1 z0 d1 Sr d;have oS:=fun d=>FZ.on W.p2 z0 d2 Ss d;have en:((z.toNat:Nat):Int)=z:=⋯;have og:∀d,On z g d=true<->Gat (On z cr) (On z cs) (1) d:=fun d=>by rw[og0,Gat.iff (n:=z.toNat) ⋯ kn (fun x y h=>Lk (en ▸ h)) (fun x y h=>Lk (en ▸ h))]
 refine q pg g H5 (s1.trans (s2.trans (s3.trans s5))) t5 lg fun d=>?_;rw[og];constructor
 ·rintro⟨j,ht,hb⟩;refine⟨d-1*(j:Int),by rw[<-oR];exact ht,⋯,fun s' h1 h2=>?_⟩;by_cases hd:d<s'
  ·exact hd
  ·have:=hb (d-s').toNat ⋯;rw[oS,show d-1*(((d-s').toNat:Nat):Int)=s' by lia,h1] at this;cases this
 ·rintro⟨r,hs,hle,hb⟩;refine⟨(d-r).toNat,by rw[oR,show d-1*(((d-r).toNat:Nat):Int)=r by lia];exact hs,fun i hi=>?_⟩;rw[oS];cases h:On n2 b2 (d-1*(i:Int))
  ·rfl
  ·have:=hb _ h ⋯;lia
theorem Tu:C0 8 "nearer_ahead" ["R"] (ACO K):=by
 refine co' ["R","days","behind","first_nearer"] Rh fun nd H vs Q E hr h=>?_;obtain⟨a,n,b,rfl,hS,h0,h1,hb,q⟩:=h;refine⟨_,(Ae (Am 1 (Ag WL (Aa (pv 0) Ab)))
  (Ae (Am 2 (Ai cM (Cu FJ (pv 1) (DR Ah) Eb) (Fi rfl (Eg ["R","days","behind","first_nearer"] ["R","days","behind","first_nearer"] rfl rfl (by with_unfolding_all rfl) ∅ rfl ∅ rfl ∅ (by walk_at"fm") (by with_unfolding_all rfl) (by with_unfolding_all rfl)) (Gu (Cu FJ (pv 1) Eb (DR Ah))) (fun _ _ _ _=>Ec) (fun _ _ _ _=>(Ai Bv (pv 0) (Eu HH (pv 1) Ah))))))
  (Ae (PQ (i:=3) nd rfl (by walk_at"o") (xs:=["day","other"]) rfl (Ik ["day","other"] ["R","days","behind","first_nearer"] ["R","days","behind","first_nearer"] rfl rfl (by with_unfolding_all rfl) ∅ rfl ∅ ∅ ∅ (by walk_at"fm") (by with_unfolding_all rfl) (by with_unfolding_all rfl)) (fU (c:=false) rfl xG (Aa (pv 1) (Aa (pv 2) Ab))) (fun _ _ _ _=>Ec) (fun _ _ _ _=>(ZV (n:=2) rfl (DN (CZ (i:=0) (show (["day","other","R","days","behind","first_nearer"]:List Str).Nodup from by ac_rfl) rfl (by walk_at"o")) (DN (CZ (i:=1) (show (["day","other","R","days","behind","first_nearer"]:List Str).Nodup from by ac_rfl) rfl (by walk_at"o")) Hl)))) (fun _ _ _ _=>(Ai Bv (Ai Bf (Ai Bv (pv 0) (pv 1)) Ah) Ah)))
  (Af (An (Ag qp (Aa (pv 0) (Aa (Ag Ja (Aa (pxT 0) (Aa (pv 3) Ab))) Ab)))))))),?_⟩
 symm;refine⟨a,n,b,rfl,hS,h0,h1,hb,fun l H1 hl s1 t1=>?_⟩;have mem:=gb (b:=b) h0;have srt:=Zv b n.toNat;have len:=X8 b n.toNat;generalize dli b n.toNat=ds at t1 mem srt len;symm;refine Gg (SqL.of t1) (fun l2 hl2=>?_);rw[kY];refine fresh hl2 fun H2 s2 t2=>?_;have t2:H2 l2=some _:=t2;exists Fx (K8 ?_);refine Gg (SqL.of (s2 _ _ t1)) (fun l3 hl3=>?_);rw[kW,<-List.map_take];refine fresh hl3 fun H3 s3 t3=>?_;have t3:H3 l3=some _:=t3;have s13:=s1.trans (s2.trans s3);refine⟨l3,rfl,⟨_,SqL.of t3⟩,?_⟩;refine IW Nu ?_ (fun D ys hD=>(Av hD _).seq (SqL.of t3)) (fun _=>true) (fun v=>match v with | .int d=>V.int (d+n) | _=>.non) (fun x hx D ys Q' hD h=>h) (fun x hx _ D ys Q' hD h=>?_) (fun D hD=>?_)
 ·rw[js,je0];exact uj (Nat.min_le_left _ _) nofun
 ·obtain⟨d,hd,rfl⟩:=yv.mp hx;symm;exists Ay ((Av hD _).tup (s13.tup hS)) at0 ?_;exact h
 rw[jd1.mpr (fun _ _=>rfl),ua];rw[show ((fun v:V=>match v with | .int d=>V.int (d+n) | _=>.non) ∘ V.int)=V.int ∘ (· +n) from rfl,<-ua]
 refine fresh hD fun H4 s4 t4=>?_;have t4:H4 D=some _:=t4;symm;have bl:=Ui n ds;refine zy ((s3.trans s4) _ _ t2) t4 ?_ (fun l5 hl5=>?_)
 ·rw[<-ze,<-ve,js];exact zo (js2 bl) (zo (show ds.length<=150000 by lia) nofun)
 rw[<-ve];show Ht _ _ _ (upd H4 l5 (.lst ((HS n ds).map V.int))) _;refine fresh hl5 fun H5 s5 t5=>?_;have t5:H5 l5=some _:=t5;have s15:=s13.trans (s4.trans s5);have t15:=(s2.trans (s3.trans (s4.trans s5))) _ _ t1;symm;exists ZQ (fJ ?_);refine⟨l,l5,rfl,⟨_,_,SqL.of t15,SqL.of t5⟩,?_⟩;refine qe (SqL.of t15) (SqL.of t5) ?_ (fun x y=>(x+y)/2+1) (fun x y H' Q' h=>?_) (fun D6 H6 hD6 s6 t6=>?_)
 ·exact uj (show ds.length<=150000 by lia) nofun
 ·symm;exact h
 symm;exists Ay (s6.tup (s15.tup hS)) at0 ?_;have ls:=lcm_self h0;exists⟨D6,mids n ds,n,rfl,SqL.of t6,h0,h1,fun p c H7 s7 t7 B=>?_⟩;refine⟨a,p,n,n,b,c,rfl,⟨(s6.trans s7).tup (s15.tup hS),SqT.of t7,h0,h0,h1,h1,hb,B.lt⟩,by rw[ls];exact h1,fun p8 e H8 s8 t8 le R=>?_⟩;rw[ls] at t8 le R;refine q p8 e H8 (s15.trans (s6.trans (s7.trans s8))) t8 le fun d=>?_;rw[R];have per:∀d k,On n b (d+n*k)=On n b d:=fun d k=>Uj (Xs n) d k;exact kI h0 per fun x=>by rw[B.bit x];exact pM h0 per srt mem x
theorem ABM:C0 9 "near" ["R","S"] (spJ K (WR NrU)):=by
 refine co' ["R","S","early"] zf fun nd H vs Q E hr h=>?_;obtain⟨a1,a2,n1,n2,b1,b2,rfl,W,lz,q⟩:=h;have p1:=W.p1;have p2:=W.p2;have fl:=Bj p1 p2;have fl':=Vr p1 p2;refine⟨_,(Ae (Am 2 (Ag Tu (Aa (pv 0) Ab))) (Af (An (Ag Tw (Aa (Ag YC (Aa (pv 0) (Aa (Ag Kg (Aa (pv 1) (Aa (pv 2) Ab))) Ab))) (Aa (Ag dN (Aa (pv 0) (Aa (Ag Ow (Aa (pv 1) (Aa (pv 2) Ab))) Ab))) Ab)))))),?_⟩
 symm;exists⟨a1,n1,b1,rfl,W.s1,p1,W.l1,W.k1,fun pe e H1 s1 t1 le oe=>?_⟩;refine⟨a2,pe,n2,n1,b2,e,rfl,⟨s1.tup W.s2,SqT.of t1,p2,p1,W.l2,W.l1,W.k2,le⟩,by rw[<-fl'];exact lz,fun pb cb H2 s2 t2 Bb Rb=>?_⟩;rw[<-fl'] at t2 Bb Rb;generalize hz:CQ n1 n2=z at*
 have z0:=fl.1;have d1:n1∣z:=fl.2.1;have d2:n2∣z:=fl.2.2.1;have lz1:CQ n1 z=z:=Xv p1 z0 d1;have ls:=lcm_self z0;symm;refine⟨a1,pb,n1,z,b1,cb,rfl,⟨(s1.trans s2).tup W.s1,SqT.of t2,p1,z0,W.l1,lz,W.k1,Bb⟩,by rw[lz1];exact lz,fun pu cu H3 s3 t3 lu ou=>?_⟩;rw[lz1] at t3 lu ou;have s13:=s1.trans (s2.trans s3);symm;refine⟨a2,pe,n2,n1,b2,e,rfl,⟨s13.tup W.s2,SqT.of ((s2.trans s3) _ _ t1),p2,p1,W.l2,W.l1,W.k2,le⟩,by rw[<-fl'];exact lz,fun pw cw H4 s4 t4 Bw Rw=>?_⟩;rw[<-fl'] at t4 Bw Rw;symm;refine⟨a1,pw,n1,z,b1,cw,rfl,⟨(s13.trans s4).tup W.s1,SqT.of t4,p1,z0,W.l1,lz,W.k1,Bw⟩,by rw[lz1];exact lz,fun pv cv H5 s5 t5 lv ov=>?_⟩;rw[lz1] at t5 lv ov;symm;refine⟨pu,pv,z,z,cu,cv,rfl,⟨SqT.of ((s4.trans s5) _ _ t3),SqT.of t5,z0,z0,lz,lz,lu,lv⟩,by rw[ls];exact lz,fun p c H6 s6 t6 B R=>?_⟩;rw[ls] at t6 B R;refine q p c H6 (s13.trans (s4.trans (s5.trans s6))) t6 B fun d=>?_;rw[R.self z0 d,jh0,ou,ov,d9,lq];refine Iff.trans ?_ (pL p1 (fun d k=>Uj (Xs n1) d k));unfold GUp GUn;have e1:∀x,On z cb x=true<->On n2 b2 x=true/\Wh (On n1 b1) x:=fun x=>by rw[Rb.on p2 p1 z0 d2 d1 x,yy,oe]
 have e2:∀x,On z cw x=true<->On n2 b2 x=true/\¬Wh (On n1 b1) x:=fun x=>by
  rw[Rw.on p2 p1 z0 d2 d1 x];unfold bn;rw[yy,<-oe,jt2,jp0]
 simp only[e1,e2]
theorem ADR:C0 8 "kth" ["number","R","S"] (ADo K):=by
 refine co' ["number","R","S","size","step","ends","days","place","odd"] ACa fun nd H vs Q E hr h=>?_;obtain⟨k,a1,a2,n1,n2,b1,b2,rfl,W,k0,lz,q⟩:=h;have fl:=Bj W.p1 W.p2;refine⟨_,(Ae (BK (Al Ba (pv 0) Ah (Aq _)) (Af Bc) Ar) (Ae (Am 3 (Ag Em (Aa (pv 1) (Aa (pv 2) Ab)))) (Ae (Ff (Am 4 (Ed (Al Ft (pv 0) Ah (Aq _)) Ah (HF Fo Ah)))) (Ae (Ff (Am 5 (Ed (Al Ft (pv 0) Ah (Aq _)) (Ag Ei (Aa (pv 2) (Aa (pv 3) Ab))) (Ag Ia (Aa (Ag Ei (Aa (pv 2) (Aa (pv 3) Ab))) (Aa (HF Fo Ah) Ab)))))) (Ae (Am 6 (Ag Ei (Aa (pv 1) (Aa (pv 3) Ab)))) (Ae (Am 7 (BW Z5 rfl xH PyProof.Rows.boot_abs (Aa (pv 0) Ab))) (Ae (Gr PassesOwn.never (PW.pt (Oh (Al Ft (pv 7) Ah (Aq _)) (Kv (Al Ft (pxT 6) Ah (Aq _))))) (Ae (Am 8 (Ag Kg (Aa (pv 6) (Aa (Ag Je (Aa (pv 6) (Aa (pv 5) (Aa (pv 4) (Aa (CN rfl Ye (G9 _)) Ab))))) Ab)))) (Ae (Ff (Am 6 (Ed (Al Ba (Ai Bu (pv 7) Ah) Ah (Aq _)) (pv 8) (Ag Ow (Aa (pv 6) (Aa (pv 8) Ab)))))) (Af (Am 7 (Ai Bf (Ai Bv (pv 7) Ah) Ah)))))) (Af (An (Ed (Al Ft (pv 0) Ah (Aq _)) (Ag dN (Aa (pv 6) (Aa (pv 5) Ab))) (Ag YC (Aa (pv 6) (Aa (pv 5) Ab))))))))))))),?_⟩
 symm;exists CW (fun c=>k0 (by injection c)) ?_;refine⟨a1,a2,n1,n2,b1,b2,rfl,W.s1,W.s2,W.p1,W.p2,W.l1,W.l2,lz,fun H1 s1=>?_⟩;generalize hz:CQ n1 n2=z at*
 have z0:=fl.1;have d1:n1∣z:=fl.2.1;have d2:n2∣z:=fl.2.2.1;have ls:=lcm_self z0;have str2:∀(H':Hp) (Q':VK) (E':XK),BR H H'->(∀(p:Addr) (c:Nat),H' p=none->FZ n2.toNat b2 z.toNat c->Q' (.ref p) (upd H' p (.tup [.int z,.int (c:Int)])))->PL K ([.ref a2,.int z]++[]) H' Q' E':=fun H' Q' E' s hq=>
  ⟨a2,n2,z,b2,rfl,s.tup W.s2,W.p2,W.l2,W.k2,z0,lz,d2,hq⟩
 symm;obtain⟨e,he⟩:∃e:Int,(0<k->e=1)/\(¬0<k->e= -1):=⟨if 0<k then 1 else -1,fun c=>xp c,fun c=>xy c⟩;have hek:e=if 0<k then 1 else -1:=by
  split
  ·exact he.1 (by assumption:_)
  ·exact he.2 (by assumption:_)
 have he':e=1\/e= -1:=by
  by_cases c:0<k
  ·exact .inl (he.1 c)
  ·exact .inr (he.2 c)
 refine FN (fun Z' H'=>Z'=[some (.int k),some (.ref a1),some (.ref a2),some (.int z),some (.int e),none,none,none,none]/\H'=H1) ?_ ?_
 ·symm;refine Ca (fun c=>?_) (fun c=>?_)
  ·rw[he.1 c];symm;exact⟨rfl,rfl⟩
  ·rw[he.2 c];symm;exact⟨rfl,rfl⟩
 rintro Z' H1' ⟨rfl,rfl⟩;symm;refine FN (fun Z' H'=>Ex2 fun(pe:Addr) (ce:Nat)=>An5 (Z'=[some (.int k),some (.ref a1),some (.ref a2),some (.int z),some (.int e),some (.ref pe),none,none,none]) (BR H1' H') (H' pe=some (.tup [.int z,.int (ce:Int)])) (ce<2^z.toNat) (∀d,On z ce d=On n2 b2 (if 0<k then d else d+1))) ?_ ?_
 ·symm;refine Ca (fun c=>?_) (fun c=>?_)
  ·symm;exists str2 _ _ _ s1 fun ps cs hs1 Ss=>?_;exact⟨ps,cs,rfl,Av hs1 _,Ao,Ss.lt,fun d=>by rw[xp c];exact FZ.on W.p2 z0 d2 Ss d⟩
  ·symm;exists str2 _ _ _ s1 fun ps cs hs1 Ss=>?_;exists⟨ps,z,-1,cs,rfl,SqT.of Ao,z0,lz,Ss.lt,fun p hp=>?_⟩;exact⟨p,_,rfl,(Av hs1 _).trans (Av hp _),Ao,KQ _ _ _,fun d=>by rw[xy c,KN z0 Ss.lt,FZ.on W.p2 z0 d2 Ss,show d- -1=d+1 by lia]⟩
 rintro Z' H2 ⟨pe,ce,rfl,s2,t2,lce,oe⟩;symm;refine⟨a1,n1,z,b1,rfl,s2.tup (s1.tup W.s1),W.p1,W.l1,W.k1,z0,lz,d1,fun pr cr hr1 Sr=>?_⟩;exists fresh hr1 fun H3 s3 t3=>?_;refine⟨_,rfl,?_⟩;obtain⟨p0,hp0⟩:∃p0:Int,(if k<0 then -k else k)=p0:=⟨_,rfl⟩;have ap:p0=(k.natAbs:Int):=by split at hp0<;>lia
 rw[hp0];symm;refine⟨fun m Z' H'=>BR H3 H'/\∃(pd:Addr) (t:Nat) (p:Int) (od:Option V),1<=p/\p<=p0/\H' pd=some (.tup [.int z,.int (t:Int)])/\t<2^z.toNat/\((∀d,Bar (On z ce) e z.toNat d)->∀d,(On z t d=true/\(cG (On z t) (On z ce) e z.toNat d:Int)=p)<->(On n1 b1 d=true/\(cG (On n1 b1) (On z ce) e z.toNat d:Int)=p0))/\
  Z'=[some (.int k),some (.ref a1),some (.ref a2),some (.int z),some (.int e),some (.ref pe),some (.ref pd),some (.int p),od]/\m=p.toNat,
  ⟨_,BR.refl _,pr,cr,p0,none,⋯,⋯,t3,Sr.lt,(fun _ d=>by rw[show On z cr=On n1 b1 from funext (FZ.on W.p1 z0 d1 Sr)]),rfl,rfl⟩,?_⟩
 rintro m Z' H4 ⟨s4,pd,t,p,od,p1,pp,td,lt,hT,rfl,rfl⟩;symm;have te:=s4 _ _ (s3 _ _ t2);have fin:(p=1\/t=0)->∀(E':XK),spJ K (WR (UpJ e)) ([.ref pd,.ref pe]++[]) H4 Q E':=fun nn E'=>
  ⟨pd,pe,z,z,t,ce,rfl,⟨SqT.of td,SqT.of te,z0,z0,lz,lz,lt,lce⟩,(by rw[ls];exact lz),fun p' c' H' s' t' lc' R=>by
   rw[ls] at t' lc' R;exact q p' c' H' (s1.trans (s2.trans (s3.trans (s4.trans s')))) t' lc' fun d=>by rw[R];exact(vU (b1:=b1) (t:=t) z0 d2 W.p1 k0 hek ap oe hT nn d).symm⟩
 refine Ca (fun hp=>?_) (fun hp=>?_)
 ·symm;exists Ay (SqT.of td) at1 ?_;refine Ca (fun ht=>?_) (fun ht=>?_)
  ·refine⟨fun Z' H'=>∃m',m'<p.toNat/\BR H3 H'/\∃(pd:Addr) (t:Nat) (p:Int) (od:Option V),1<=p/\p<=p0/\H' pd=some (.tup [.int z,.int (t:Int)])/\t<2^z.toNat/\((∀d,Bar (On z ce) e z.toNat d)->∀d,(On z t d=true/\(cG (On z t) (On z ce) e z.toNat d:Int)=p)<->(On n1 b1 d=true/\(cG (On n1 b1) (On z ce) e z.toNat d:Int)=p0))/\
   Z'=[some (.int k),some (.ref a1),some (.ref a2),some (.int z),some (.int e),some (.ref pe),some (.ref pd),some (.int p),od]/\m'=p.toNat,fun Z' H' hh=>hh,?_⟩
   symm;exists⟨pd,pe,_,z,e,t,ce,_,xor,(fun k d=>cG (On z t) (On z ce) e k d%2=1),rfl,qk _ qf,Ye,td,SqT.of te,z0,lz,lt,lce,he',(fun d=>qw),Zj,fun pg g H5 kk kn s5 t5 lg og=>?_⟩;refine⟨pd,pg,z,z,t,g,rfl,⟨s5.tup (SqT.of td),SqT.of t5,z0,z0,lz,lz,lt,lg⟩,(by rw[ls];exact lz),fun po c H6 s6 t6 B R=>?_⟩;rw[ls] at t6 B R;have td6:=s6 _ _ (s5 _ _ td);symm;refine FN (fun Z' H'=>Ex2 fun(pn:Addr) (t':Nat)=>An6 (Z'=[some (.int k),some (.ref a1),some (.ref a2),some (.int z),some (.int e),some (.ref pe),some (.ref pn),some (.int p),some (.ref po)]) (BR H6 H') (H' pn=some (.tup [.int z,.int (t':Int)])) (t'<2^z.toNat) (p%2=1->∀d,On z t' d=On z c d) (¬p%2=1->∀d,On z t' d=(On z t d&&!On z c d))) ?_ ?_
   ·symm;refine Ca (fun o=>?_) (fun o=>?_)
    ·symm;exact⟨po,c,rfl,BR.refl _,t6,B,fun _ _=>rfl,fun z=>absurd (by injection o) z⟩
    ·symm;refine⟨pd,po,z,z,t,c,rfl,⟨SqT.of td6,SqT.of t6,z0,z0,lz,lz,lt,B⟩,(by rw[ls];exact lz),fun pn t' H7 s7 t7 B7 R7=>?_⟩;rw[ls] at t7 B7 R7;symm;exact⟨pn,t',rfl,s7,t7,B7,fun z=>absurd (ya V.int z) o,fun _ d=>R7.self z0 d⟩
   rintro Z' H7 ⟨pn,t',rfl,s7,t7,lt',w1,w2⟩;symm;exact⟨_,(by lia:((p+1)/2).toNat<p.toNat),s4.trans (s5.trans (s6.trans s7)),pn,t',(p+1)/2,_,⋯,⋯,t7,lt',(fun hB d=>(pR hB kn og (fun d=>R.self z0 d) hp w1 w2 d).trans (hT hB d)),rfl,rfl⟩
  ·symm;have nn:p=1\/t=0:=.inr ⋯;refine Ca (fun c=>?_) (fun c=>?_)
   ·symm;have f:=fin nn;rw[he.1 c] at f;exact f _
   ·symm;have f:=fin nn;rw[he.2 c] at f;exact f _
 ·refine Fz ?_;have nn:p=1\/t=0:=.inl ⋯;symm;refine Ca (fun c=>?_) (fun c=>?_)
  ·symm;have f:=fin nn;rw[he.1 c] at f;exact f _
  ·symm;have f:=fin nn;rw[he.2 c] at f;exact f _
theorem wN:C0 6 "every" ["number","R","day"] (ADq K):=by
 refine co' ["number","R","day","size","days","first","places"] uW fun nd H vs Q E hr h=>?_;obtain⟨k,d,a,n,b,rfl,hS,h0,h1,hb,bd,bk,k1,lz,q⟩:=h;have bn:Bt 64 n:=CP ⋯ ⋯ nofun;refine⟨_,(Ae (Be (Ag Cq (Aa (pv 0) Ab)))
  (Ae (Am 3 (Ai Cg (pxT 1) (pv 0)))
  (Ae (Be (Ag Ej (Aa (pv 3) Ab)))
  (Ae (Am 4 (Ag WL (Aa (pv 1) Ab)))
  (Ae (Am 5 (Ai Bu (Ag dR (Aa (pv 1) (Aa Ah (Aa (pv 2) Ab)))) (pv 0)))
  (Ae (Am 6 (cH rfl rfl aW rfl IK (Aa (pv 5) (Aa (Ai Cg (BW Bl rfl Ds xi (Aa (pv 4) Ab)) (pv 0)) (Aa (pv 0) Ab)))))
  (Af (An (Ag Ja (Aa (pv 3) (Aa (Fi rfl (Eg ["number","R","day","size","days","first","places"] ["number","R","day","size","days","first","places"] rfl rfl (by with_unfolding_all rfl) ∅ rfl ∅ rfl ∅ (by walk_at"fm") (by with_unfolding_all rfl) (by with_unfolding_all rfl)) (Gu (pv 6)) (fun _ _ _ _=>Ec) (fun _ _ _ _=>(Ai Bv (Ai Cg (Ai Bf (pv 0) (BW Tj rfl Ds xi (Aa (pv 5) Ab))) (Eu HH (pv 2) Ah)) (Eu ju (pv 5) (Ai Bu (pv 0) (BW Tj rfl Ds xi (Aa (pv 5) Ab))) (fun _ _=>rfl))))) Ab))))))))))),?_⟩
 symm;exists⟨k,rfl,k1,?_⟩;exists Ay hS at0 ?_;exists Dq ⟨64,400,bn,bk,nofun⟩ ?_;refine⟨n*k,rfl,lz,?_⟩;have kn:=gJ h0 (show 0<k by lia);symm;refine⟨a,n,b,rfl,hS,h0,h1,hb,fun ld H1 _ s1 t1=>?_⟩;have D:=Dn.mk' h0 (Zv b n.toNat) (gb (b:=b) h0);have len:=X8 b n.toNat;generalize dli b n.toNat=ds at t1 D len;have hS1:=s1.tup hS;symm;refine⟨a,n,0,d,b,rfl,hS1,h0,h1,hb,(by unfold Bt;decide),bd,fun H2 s2=>?_⟩;rw[Nq,Int.sub_zero];symm;have f0:=qh (CC n b d) (show k≠0 by lia);have f1:=qg (CC n b d) (show 0<k by lia);have t2:=s2 _ _ t1;have hS2:=s2.tup hS1;refine⟨ld,_,rfl,.inl (SqL.of t2),?_⟩;rw[js];symm;exists J4 ?_;have mk:(ds.length:Int)*k<=n*k:=ke ⋯ ⋯;have mk0:0<=(ds.length:Int)*k:=jg5 ⋯ ⋯;refine⟨CC n b d%k,(ds.length:Int)*k,k,ds.length,.inl rfl,⋯,⋯,Ld ⋯ ⋯ ⋯ ⋯ ⋯ ⋯,?_,⋯,fun lp hlp=>?_⟩
 ·rw[JL ⋯];rcases jd6 ds.length with z | z
  ·rw[z,xy (by simp;lia)];rfl
  ·have e1:(ds.length:Int)*k-CC n b d%k-1=(k-1-CC n b d%k)+k*((ds.length:Int)-1):=by
    rw[Int.mul_sub,Jn k];lia
   have e2:k<=(ds.length:Int)*k:=gJ ⋯ ⋯;rw[xp ⋯,e1,jn9 _ _ ⋯,jc7 ⋯ ⋯];lia
 have s3:=Av hlp (.lst ((List.range ds.length).map fun(i:Nat)=>V.int (CC n b d%k+(i:Int)*k)));have t3:=s3 _ _ t2;have p3:upd H2 lp (.lst ((List.range ds.length).map fun(i:Nat)=>V.int (CC n b d%k+(i:Int)*k))) lp=some (.lst ((List.range ds.length).map fun(i:Nat)=>V.int (CC n b d%k+(i:Int)*k))):=Ao;have hS3:=s3.tup hS2;generalize upd H2 lp (.lst ((List.range ds.length).map fun(i:Nat)=>V.int (CC n b d%k+(i:Int)*k)))=H3 at s3 t3 p3 hS3 ⊢;symm;exists Fx (K8 ?_);refine⟨lp,rfl,⟨_,SqL.of p3⟩,?_⟩;refine IW Nu ?_ (fun D' ys hD'=>(Av hD' _).seq (SqL.of p3)) (fun _=>true) (fun v=>match v with | .int P=>.int (Ju n ds P) | _=>.non) (fun x hx D' ys Q' hD' h=>h) (fun x hx _ D' ys Q' hD' h=>?_) (fun D' hD'=>?_)
 ·rw[js,vt];exact uj (show ds.length<=150000 by lia) nofun
 ·obtain⟨i,hi,rfl⟩:=yv.mp hx;have hi':=jd3.mp hi;replace h:Q' (.int (Ju n ds (CC n b d%k+(i:Int)*k))) _:=h;have ik:(i:Int)*k<=(ds.length:Int)*k:=ke ⋯ ⋯;have ik0:0<=(i:Int)*k:=jg5 ⋯ ⋯;generalize hP:CC n b d%k+(i:Int)*k=P at h ⊢;have m0:=qh P (show (ds.length:Int)≠0 by lia);have m1:=qg P (show (0:Int)<(ds.length:Int) by lia);obtain⟨x,hx⟩:∃x,ds[(P%(ds.length:Int)).toNat]?=some x:=⟨_,qm ⋯⟩;have ed:Ju n ds P=P/(ds.length:Int)*n+x:=by
   unfold Ju;rw[hx];rfl
  rw[ed] at h;have P0:0<=P:=⋯;have P1:P/(ds.length:Int)<=P:=jf3 _ P0;have P2:0<=P/(ds.length:Int):=jh1 P0 ⋯;have t4:=Av hD' (.lst ys) _ _ t3;symm;refine⟨ld,_,rfl,.inl (SqL.of t4),?_⟩;rw[js];symm;exists Dq (Dv ⋯ ⋯) ?_;refine Ay ((Av hD' _).tup hS3) at0 ?_;exists Dq ⟨64,64,CP ⋯ ⋯ nofun,bn,nofun⟩ ?_;refine⟨ld,_,rfl,.inl (SqL.of t4),?_⟩;rw[js];symm;rw[show P%(ds.length:Int)=(((P%(ds.length:Int)).toNat:Nat):Int) by lia];exists By (SqL.of t4) (Dw (ABU hx)) ?_;exact h
 have e:((((List.range ds.length).map fun(i:Nat)=>V.int (CC n b d%k+(i:Int)*k)).filter fun _=>true).map fun v=>match v with | .int P=>V.int (Ju n ds P) | _=>.non)=(((List.range ds.length).map fun(i:Nat)=>Ju n ds (CC n b d%k+(i:Int)*k)).map V.int):=by
  rw[jd1.mpr (fun _ _=>rfl),ua,ua];rfl
 rw[e];symm;refine⟨D',_,n*k,rfl,SqL.of Ao,⋯,lz,fun p c H5 s5 t5 B=>?_⟩;refine q p c H5 ((((s1.trans s2).trans s3).trans (Av hD' _)).trans s5) t5 B.lt fun x=>?_;rw[B.bit x];exact vz h0 ⋯ D x
theorem lG:C0 1 "term_on" ["term","k"] mz:=by
 refine co' ["term","k"] jG fun nd H vs Q E hr h=>?_;obtain⟨p,k,t,rfl,hp,ok,bk,q⟩:=h;have n0:=ok.n0;have n1:=ok.n1;have a0:=ok.a0;have a1:=ok.a1;exists⟨_,(Af (An (HB xj (Ai Bv (Ai Bu (Ai Bv (Ai Cg (pxT 0) (pv 1)) (pxT 0)) (pxT 0)) (pxT 0)) (pxT 0) (Aq _)))),?_⟩;exists Ay (SqT.of hp) rE ?_;exists Dq ⟨64,400,CP ⋯ ⋯ nofun,bk,nofun⟩ ?_;exists Ay (SqT.of hp) wX ?_;exists Ay (SqT.of hp) VP ?_;exists Ay (SqT.of hp) rE ?_;exists Ay (SqT.of hp) VP ?_;exact q
theorem YD:C0 1 "signs_upto" ["terms","k"] (tQ K):=by
 refine co' ["terms","k"] W7 fun nd H vs Q E hr h=>?_;obtain⟨p,k,ts,rfl,T,bk,q⟩:=h;obtain⟨us,hS,hT⟩:=T.ex;exists⟨_,(Af (An (BW (M7 rfl) rfl dw jk1 (Aa (Fi rfl (Eg ["terms","k"] ["terms","k"] rfl rfl (by with_unfolding_all rfl) ∅ rfl ∅ rfl ∅ (by walk_at"fm") (by with_unfolding_all rfl) (by with_unfolding_all rfl)) (SM (pv 0)) (fun _ _ _ _=>Ec) (fun _ _ _ _=>(Ai Cg (Eu HH (pv 0) Ah) (Ai Bf (Ai Bv (Ai Cg (Eu HH (pv 0) Ah) (pv 2)) (Eu HH (pv 0) Ah)) (Eu HH (pv 0) Ah))))) Ab)))),?_⟩;refine dI rfl hS (by rw[hT.len];exact Dz (by have:=T.few;lia)) (fun v=>((Um H v).map fun _=>true).getD false) (fun v=>((Um H v).map fun t=>V.int (t.1*ctT t k)).getD .non) (fun x hx D ys Q' hD h=>?_) (fun x hx _ D ys Q' hD h=>?_) (fun D hD=>?_)
 ·obtain⟨a,t,rfl,ht,ha⟩:=hT.mem hx;rw[JD ha] at h;exact h
 ·obtain⟨a,t,rfl,ht,ha⟩:=hT.mem hx;rw[JD ha] at h;have ok:=T.ok t ht;have n0:=ok.n0;have n1:=ok.n1;have a0:=ok.a0;have a1:=ok.a1;have sg:=ok.sg;have b0:=ok.b0;have b1:=ok.b1;have ha':=Av hD (.lst ys) _ _ ha;symm;exists Ay (SqT.of ha') rG ?_;exists Ay (SqT.of ha') rE ?_;exists Dq ⟨64,400,CP ⋯ ⋯ nofun,bk,nofun⟩ ?_;exists Ay (SqT.of ha') wX ?_;refine Ay (SqT.of ha') VP ?_;refine Dq (Dv ⋯ ⋯) ?_;have bb:Bt 465 (t.2.1*k+t.2.2.1):=((show Bt 64 t.2.1 from CP ⋯ ⋯ nofun).mul bk).add ((show Bt 64 t.2.2.1 from CP ⋯ ⋯ nofun).mono nofun);refine Dq ⟨200,465,bt_of ⋯ ⋯,q9 bb ⋯,nofun⟩ ?_;exact h
 rw[hT.fm (fun _=>true) fun t=>V.int (t.1*ctT t k),jd1.mpr (fun _ _=>rfl)];have e:(ts.map fun t=>V.int (t.1*ctT t k))=(ts.map fun t=>t.1*ctT t k).map V.int:=by rw[ua];rfl
 rw[e];symm;refine⟨D,_,rfl,SqL.of Ao,?_⟩;exact q _ (Av hD _)
theorem lJ:C0 1 "is_term" ["term"] nQ:=by
 refine co' ["term"] jN fun nd H vs Q E hr h=>?_;obtain⟨p,t,rfl,hp,ok,q⟩:=h;have n0:=ok.n0;have n1:=ok.n1;have a0:=ok.a0;have a1:=ok.a1;have sg:=ok.sg;have b0:=ok.b0;have b1:=ok.b1;refine⟨_,(Ae (BK (PW.pt (Oh (Al Gz (pxT 0) Ah (Aq _)) (Kv (Al Gz (pxT 0) (HF Fo Ah) (Aq _))))) (Af (An Vm)) Ar) (Af (An (Sd (Mm J6 J6 Ah (pxT 0) (CN rfl Xu (Cz _ _))) (Sd (Mm J6 J6 Ah (pxT 0) (pxT 0)) (Xf (Mm J6 Ew Ah (pxT 0) (pxT 0)))))))),?_⟩
 symm;exists Ay (SqT.of hp) rG ?_;have rest:True:=trivial;rcases sg with e | e
 ·exists HJ (ya V.int e) (Fz ?_);exists Ay (SqT.of hp) VP ?_;exists Hn n0 ?_;rw[decide_eq_true n1];exists Gw ?_;exists Ay (SqT.of hp) rE ?_;exists Hn a0 ?_;exists Ay (SqT.of hp) VP ?_;rw[decide_eq_true a1];exists Gw ?_;exists Ay (SqT.of hp) wX ?_;exists Hn b0 ?_;exists Ay (SqT.of hp) VP ?_;rw[decide_eq_true b1];exact q
 ·refine qC (fun z=>by have:=V.int.inj z;lia) ?_;symm;exists Ay (SqT.of hp) rG ?_;exists HJ (ya V.int e) ?_;exists Ay (SqT.of hp) VP ?_;exists Hn n0 ?_;rw[decide_eq_true n1];exists Gw ?_;exists Ay (SqT.of hp) rE ?_;exists Hn a0 ?_;exists Ay (SqT.of hp) VP ?_;rw[decide_eq_true a1];exists Gw ?_;exists Ay (SqT.of hp) wX ?_;exists Hn b0 ?_;exists Ay (SqT.of hp) VP ?_;rw[decide_eq_true b1];exact q
theorem Gy:C0 1 "least_length" ["base","terms"] (uC K):=by
 refine co' ["base","terms"] Ri fun nd H vs Q E hr h=>?_;obtain⟨p,b,ts,rfl,T,q⟩:=h;obtain⟨us,hS,hT⟩:=T.ex;exists⟨_,(Af (An (Ai Do (pv 0) (BW Bl rfl Ds xi (Aa (Fi rfl (Gj ["base","terms"] rfl ∅ rfl ∅ rfl ∅ ∅) (SM (pv 1)) (fun _ _ _ _=>(SJ (Al Ba (Eu HH (pv 0) Ah) (HF Fo Ah) (Aq _)))) (fun _ _ _ _=>(pv 0))) Ab))))),?_⟩;refine dI rfl hS (by rw[hT.len];exact Dz (by have:=T.few;lia)) (fun v=>((Um H v).map fun t=>decide (t.1= -1)).getD false) (fun v=>v) (fun x hx D ys Q' hD h=>?_) (fun x hx _ D ys Q' hD h=>h) (fun D hD=>?_)
 ·obtain⟨a,t,rfl,ht,ha⟩:=hT.mem hx;rw[JD ha] at h;symm;exists Ay (SqT.of (Av hD _ _ _ ha)) rG ?_;rw[qY];exact h
 symm;exists⟨D,_,rfl,.inl (SqL.of Ao),?_⟩;have e:((us.filter fun v=>((Um H v).map fun t=>decide (t.1= -1)).getD false).map fun v=>v).length=(ts.filter fun t=>decide (t.1= -1)).length:=by
  have:=ya List.length (hT.fm (fun t=>decide (t.1= -1)) (fun _=>V.non));rw[js,js] at this;rw[js];exact this
 rw[e];exact q _ (Av hD _)
theorem Ox:C0 2 "refuse_measure" ["base","terms"] (iw K):=by
 refine co' ["base","terms"] N8 fun nd H vs Q E hr h=>?_;obtain⟨p,b,ts,rfl,T,g,q⟩:=h;obtain⟨us,hS,hT⟩:=T.ex;have b0:=g.b0;have b1:=g.b1;have fl:=g.fl;have few:=T.few;refine⟨_,(Ae (BK (PW.pt (Hr (Al Ew (pv 0) Ah (Aq _)) (Gp (Al Ft (pv 0) (CN rfl Qk (Cz _ _)) (Aq _)))))
  (Af Bc)
  Ar)
  (Ae (BK (Al Ft (BW Bl rfl Ds xi (Aa (pv 1) Ab)) (CN rfl Xq (Cz _ _)) (Aq _))
   (Af Bc)
   Ar)
  (Ae (BK (Ih (Gq (BW (Tp rfl) rfl lU jo8 (Aa (Fi rfl (Gj ["base","terms"] rfl ∅ rfl ∅ rfl ∅ ∅) (SM (pv 1)) (fun _ _ _ _=>Ec) (fun _ _ _ _=>(Ag lJ (Aa (pv 0) Ab)))) Ab))))
   (Af Bc)
   Ar)
  (Af (BK (Al Ew (Ag Gy (Aa (pv 0) (Aa (pv 1) Ab))) Ah (Aq _))
   (Af Bc)
   Ar))))),?_⟩
 symm;exists CW ⋯ ?_;exists CW ⋯ ?_;exists⟨p,us,rfl,.inr hS,?_⟩;refine CW (by rw[hT.len];lia) ?_;symm;refine dI rfl hS (by rw[hT.len];exact Dz ⋯) (fun _=>true) (fun _=>.bl true) (fun x hx D ys Q' hD h=>h) (fun x hx _ D ys Q' hD h=>?_) (fun D hD=>?_)
 ·obtain⟨a,t,rfl,ht,ha⟩:=hT.mem hx;symm;exact⟨a,t,rfl,Av hD _ _ _ ha,T.ok t ht,h⟩
 have s1:=Av hD (.lst ((us.filter fun _=>true).map fun _=>V.bl true));have e:((us.filter fun _=>true).map fun _=>V.bl true)=(us.map fun _=>true).map V.bl:=by
  rw[jd1.mpr (fun _ _=>rfl),ua];rfl
 symm;exists⟨D,us.map (fun _=>true),rfl,SqL.of (by rw[Ao,e]),?_⟩;rw[show ((us.map fun _=>true).all id)=true from jb2.mpr (fun x hx=>by obtain⟨_,_,rfl⟩:=yv.mp hx;rfl)];exists Fz ?_;exists⟨p,b,ts,rfl,T.same s1,fun H2 s2=>?_⟩;exists CW ⋯ ?_;exact q _ (s1.trans s2)
theorem aG:C0 4 "period_of" ["terms"] (nH K):=by
 refine co' ["terms","told","term"] Y8 fun nd H vs Q E hr h=>?_;obtain⟨p,ts,rfl,T,q⟩:=h;obtain⟨us,hS,hT⟩:=T.ex;have few:=T.few;have ulen:=hT.len;refine⟨_,(Ae (Am 1 Ah) (Ae (JM PassesOwn.never rfl (SM (pv 0)) (CZ (i:=2) nd rfl (by walk_at"o")) (Af (Am 1 (Ag UG (Aa (pv 1) (Aa (pxT 2) Ab)))))) (Af (An (pv 1))))),?_⟩
 symm;walk_at"f";symm;refine⟨p,rfl,⟨us,hS⟩,vg (xs:=us) (fun i Z' H'=>BR H H'/\∃c:Option V,Z'=[some (.ref p),some (.int (PER (ts.take i))),c]) ⟨BR.refl _,none,rfl⟩ ?_ ?_ ?_⟩
 ·rintro i Z' H' _ ⟨s,_⟩;exact s.tup hS
 ·rintro i x Z' H' hx ⟨s,c,rfl⟩;obtain⟨a,t,rfl,ht,ha⟩:=hT.at hx;have i6:i<6:=by
   have:=(zk.mp ht).1;lia
  obtain⟨h1,h2⟩:=Ml T.ok i ⋯;have h3:=AAR (show i<=6 by lia);have ok:=T.ok t (qv ht);have n0:=ok.n0;have n1:=ok.n1;symm;exists Ay (SqT.of (s _ _ ha)) VP ?_;exists⟨_,_,rfl,h1,⋯,CP ⋯ ⋯ nofun,CP ⋯ ⋯ nofun,fun H2 s2=>?_⟩;refine⟨s.trans s2,some (.ref a),?_⟩;have e2:PER (ts.take (i+1))=CQ (PER (ts.take i)) t.2.2.2:=by
   unfold PER;rw[ky,ht,jc4,jt3];rfl
  rw[e2]<;>rfl
 ·rintro Z' H' ⟨s,c,rfl⟩;symm;rw[ulen,jb4];exact q _ s
theorem Dh:CM0 2 Aw "upto" ["self","k"] (yz K Aw):=by
 refine cm' ["self","k"] Rp fun nd H vs Q E hr h=>?_;obtain⟨x,p,dx,k,b,ts,fs,rfl,hx,fb,ft,T,b0,b1,bk,q⟩:=h;exists⟨_,(Af (An (Ai Bv (Ai Cg (Bq (pv 0) (by rfl)) (pv 1)) (Ag YD (Aa (Bq (pv 0) (by rfl)) (Aa (pv 1) Ab)))))),?_⟩;exists⟨x,Aw,dx,fs,_,rfl,hx,Az,Cd,fb,?_⟩;exists Dq ⟨64,400,CP ⋯ ⋯ nofun,bk,nofun⟩ ?_;exists⟨x,Aw,dx,fs,_,rfl,hx,Az,CT,ft,?_⟩;exists⟨p,k,ts,rfl,T,bk,fun H' s=>?_⟩;exact q _ s
theorem K5:DG ["self","base","terms"] ["self","base","terms"] (BX Gf):=by walk_at"s"
theorem K6{ds:Array Value}(F:Kq K "__init__" "Measure.__init__" Gf f fd ds):F0 5 f fd ["self","base","terms"] (W0 K Aw):=by
 refine F.ok (k:=4) K5 (fun h=>?_) fun nd H vs Q E hr h=>?_
 ·obtain⟨x,dx,b,v,us,ts,rfl,_⟩:=h;rfl
 obtain⟨x,dx,b,v,us,ts,rfl,hx,hT,hv,ok,few,g,po,q⟩:=h;refine⟨_,(Ae (FP (pv 0) (pv 1) (by rfl)) (Ae (FP (pv 0) (Ed (Al Lj (pv 2) JP (Aq _)) (BJ Ab) (BZ Il rfl Wi jm8 (Aa (pv 2) Ab))) (by rfl)) (Ae (Be (Ag Ox (Aa (Bq (pv 0) (by rfl)) (Aa (Bq (pv 0) (by rfl)) Ab)))) (Ae (FP (pv 0) (Ag aG (Aa (Bq (pv 0) (by rfl)) Ab)) (by rfl)) (Ae (FP (pv 0) (DX Dh Az (pv 0) (Aa (Bq (pv 0) (by rfl)) Ab)) (by rfl)) (Af (BK (Al Ba (Bq (pv 0) (by rfl)) Ah (Aq _)) (Af Bc) Ar))))))),?_⟩
 symm;refine⟨x,Aw,dx,[],rfl,hx,Az,Cd,nofun,?_⟩;have k1:∀y o,y≠x->H y=some o->upd H x (.ins Aw dx (Dl "base" (.int b) [])) y=some o:=fun y o hy h=>by rw[BP hy];exact h
 have x1:upd H x (.ins Aw dx (Dl "base" (.int b) [])) x=some (.ins Aw dx [("base",.int b)]):=Ao;generalize upd H x (.ins Aw dx (Dl "base" (.int b) []))=H1 at k1 x1 ⊢;have tmk:∀{H':Hp},(∀y o,y≠x->H y=some o->H' y=some o)->Tms H' us ts:=fun{H'} k=>by
  have:∀{vs:List V} {ts:List Tm},Tms H vs ts->Tms H' vs ts:=fun{vs ts} h=>by
   induction h with
   | nil=>exact .nil
   | cons h _ ih=>exact .cons (k _ _ (fun e=>by subst e;rw[hx] at h;cases h) h) ih
  exact this hT
 symm;rcases hv with ⟨rfl,eu⟩ | ⟨l,rfl,hl⟩
 all_goals refine⟨rfl,?_⟩
 all_goals symm
 all_goals first | refine Hn rfl ?_ | refine CW (fun z=>by cases z) ?_
 all_goals symm
 all_goals first
  | refine⟨l,us,rfl,.inl ⟨SqL.of (k1 _ _ (Hh hl hx (by intro z;cases z)) hl),fun p hp=>?_⟩⟩
  | (refine ⟨ka _,fun p hp=>?_⟩
     rw[show upd H1 p (.tup [])=upd H1 p (.tup us) by rw[eu]])
 all_goals
  have px:x≠p:=Bx x1 hp;symm;refine⟨x,Aw,dx,_,rfl,by rw[BP px];exact x1,Az,CT,(by show 1<1000;decide),?_⟩;have k2:∀y o,y≠x->H1 y=some o->upd (upd H1 p (.tup us)) x (.ins Aw dx (Dl "terms" (.ref p) [("base",.int b)])) y=some o:=fun y o hy h=>by
   rw[BP hy];exact Av hp _ _ _ h
  have x2:upd (upd H1 p (.tup us)) x (.ins Aw dx (Dl "terms" (.ref p) [("base",.int b)])) x=some (.ins Aw dx [("base",.int b),("terms",.ref p)]):=Ao;have p2:upd (upd H1 p (.tup us)) x (.ins Aw dx (Dl "terms" (.ref p) [("base",.int b)])) p=some (.tup us):=by rw[BP (Ne.symm px),Ao]
  generalize upd (upd H1 p (.tup us)) x (.ins Aw dx (Dl "terms" (.ref p) [("base",.int b)]))=H2 at k2 x2 p2 ⊢;have k02:∀y o,y≠x->H y=some o->H2 y=some o:=fun y o hy h=>k2 y o hy (k1 y o hy h);have T2:TmT K H2 p ts:=⟨⟨us,SqT.of p2,tmk k02⟩,ok,few⟩;symm;exists⟨x,Aw,dx,_,_,rfl,x2,Az,Cd,rfl,?_⟩;exists⟨x,Aw,dx,_,_,rfl,x2,Az,CT,rfl,?_⟩;refine⟨p,b,ts,rfl,T2,g,fun H3 s3=>?_⟩;have x3:=s3 _ _ x2;symm;exists⟨x,Aw,dx,_,_,rfl,x3,Az,CT,rfl,?_⟩;refine⟨p,ts,rfl,T2.same s3,fun H4 s4=>?_⟩;have x4:=s4 _ _ x3;have p4:=(s3.trans s4) _ _ p2;symm;refine⟨x,Aw,dx,_,rfl,x4,Az,Ek,(by show 2<1000;decide),?_⟩;have pne:p≠x:=Ne.symm px;have k5:∀y o,y≠x->H4 y=some o->upd H4 x (.ins Aw dx (Dl "full_count" (.int (PER ts)) [("base",.int b),("terms",.ref p)])) y=some o:=fun y o hy h=>by rw[BP hy];exact h
  have x5:upd H4 x (.ins Aw dx (Dl "full_count" (.int (PER ts)) [("base",.int b),("terms",.ref p)])) x=some (.ins Aw dx [("base",.int b),("terms",.ref p),("full_count",.int (PER ts))]):=Ao;generalize upd H4 x (.ins Aw dx (Dl "full_count" (.int (PER ts)) [("base",.int b),("terms",.ref p)]))=H5 at k5 x5 ⊢;have k05:∀y o,y≠x->H y=some o->H5 y=some o:=fun y o hy h=>k5 y o hy ((s3.trans s4) _ _ (k02 y o hy h));have T5:TmT K H5 p ts:=⟨⟨us,SqT.of (k5 _ _ pne p4),tmk k05⟩,ok,few⟩;obtain⟨h1,h2⟩:=Ml ok 6 nofun;rw[va few] at h1 h2;have h3:=AAR (show 6<=6 by decide);symm;exists⟨x,dx,_,rfl,x5,rfl,?_⟩;exists⟨x,Aw,dx,_,_,rfl,x5,Az,Ek,rfl,?_⟩;refine⟨x,p,dx,PER ts,b,ts,_,rfl,x5,rfl,rfl,T5,g.b0,g.b1,CP ⋯ ⋯ nofun,fun H6 s6=>?_⟩;have x6:=s6 _ _ x5;symm;refine⟨x,Aw,dx,_,rfl,x6,Az,Gx,(by show 3<1000;decide),?_⟩;have k7:∀y o,y≠x->H6 y=some o->upd H6 x (.ins Aw dx (Dl "full_sum" (.int (UP b ts (PER ts))) [("base",.int b),("terms",.ref p),("full_count",.int (PER ts))])) y=some o:=fun y o hy h=>by rw[BP hy];exact h
  have x7:upd H6 x (.ins Aw dx (Dl "full_sum" (.int (UP b ts (PER ts))) [("base",.int b),("terms",.ref p),("full_count",.int (PER ts))])) x=some (.ins Aw dx (mF b p (PER ts) (UP b ts (PER ts)))):=Ao;generalize upd H6 x (.ins Aw dx (Dl "full_sum" (.int (UP b ts (PER ts))) [("base",.int b),("terms",.ref p),("full_count",.int (PER ts))]))=H7 at k7 x7 ⊢;have k07:∀y o,y≠x->H y=some o->H7 y=some o:=fun y o hy h=>k7 y o hy (s6 _ _ (k05 y o hy h));symm;exists⟨x,Aw,dx,_,_,rfl,x7,Az,Gx,rfl,?_⟩;refine CW (fun z=>by have:=V.int.inj z;lia) ?_;symm;refine q _ k07 ⟨⟨dx,p,x7,⟨us,SqT.of (k7 _ _ pne (s6 _ _ (k5 _ _ pne p4))),tmk k07⟩,ok,few⟩,g,po⟩
theorem Gk:CI0 5 "Measure" Aw ["self","base","terms"] (W0 K Aw):=Tq (st:=Gf) (ds:= #[.none]) gX gG (by walk_at"k") (by walk_at"k") (by walk_at"k") (by walk_at"dm") (fun _ _ _ _ _ _ _ us hl=>by obtain⟨_,_,_,rfl⟩:=AAk hl;exact⟨_,rfl,rfl⟩) K6
theorem Jg:CM0 2 Aw "at" ["self","k"] (ADt K Aw):=by
 refine cm' ["self","k"] XR fun nd H vs Q E hr h=>?_;obtain⟨x,k,b,ts,rfl,M,bk,q⟩:=h;obtain⟨dx,p,hx,T⟩:=M.ex;obtain⟨us,hS,hT⟩:=T.ex;exists⟨_,(Af (An (Ai Bv (Bq (pv 0) (by rfl)) (BW (M7 rfl) rfl dw jk1 (Aa (Fi rfl (Eg ["self","k"] ["self","k"] rfl rfl (by with_unfolding_all rfl) ∅ rfl ∅ rfl ∅ (by walk_at"fm") (by with_unfolding_all rfl) (by with_unfolding_all rfl)) (SM (Bq (pv 0) (by rfl))) (fun _ _ _ _=>(SJ (Gq (Ag lG (Aa (pv 0) (Aa (pv 2) Ab)))))) (fun _ _ _ _=>(Eu HH (pv 0) Ah))) Ab))))),?_⟩;exists⟨x,Aw,dx,_,_,rfl,hx,Az,Cd,rfl,?_⟩;exists Fx (xY ?_);refine⟨x,Aw,dx,_,_,rfl,hx,Az,CT,rfl,?_⟩;refine⟨p,rfl,⟨_,hS⟩,IW lX (by rw[hT.len];exact Dz (by have:=T.few;lia)) (fun D ys hD=>(Av hD _).tup hS) (fun v=>((Um H v).map fun t=>onT t k).getD false) (fun v=>((Um H v).map fun t=>V.int t.1).getD .non) (fun y hy D ys Q' hD h=>?_) (fun y hy _ D ys Q' hD h=>?_) (fun D hD=>?_)⟩
 ·obtain⟨a,t,rfl,ht,ha⟩:=hT.mem hy;rw[JD ha] at h;symm;exact⟨a,k,t,rfl,Av hD _ _ _ ha,T.ok t ht,bk,⟨_,rfl,h⟩⟩
 ·obtain⟨a,t,rfl,ht,ha⟩:=hT.mem hy;rw[JD ha] at h;symm;refine Ay (SqT.of (Av hD _ _ _ ha)) rG ?_;exact h
 rw[hT.fm (fun t=>onT t k) fun t=>V.int t.1];have e:((ts.filter fun t=>onT t k).map fun t=>V.int t.1)=((ts.filter fun t=>onT t k).map fun t=>t.1).map V.int:=by rw[ua];rfl
 rw[e];symm;exists⟨D,_,rfl,SqL.of Ao,?_⟩;exact q _ (Av hD _)
theorem GD:CM0 1 Aw "period" ["self"] (ACJ K Aw):=by
 refine cm' ["self"] Ob fun nd H vs Q E hr h=>?_;obtain⟨x,b,ts,rfl,M,q⟩:=h;obtain⟨dx,p,hx,T⟩:=M.ex;exists⟨_,(Af (An (Bq (pv 0) (by rfl)))),?_⟩;refine⟨x,Aw,dx,_,_,rfl,hx,Az,Ek,rfl,?_⟩;exact q
theorem Qn:C0 1 "refuse_months" ["lengths","leap"] (tU K):=by
 refine co' ["lengths","leap"] QV fun nd H vs Q E hr h=>?_;obtain⟨l,lp,ls,ts,rfl,hS,g,q⟩:=h;have l0:=g.l0;have l1:=g.l1;have p0:=g.p0;have p1:=g.p1;have ne:ls≠[]:=fun z=>by rw[z] at l0;simp at l0
 refine⟨_,(Ae (BK (PW.pt (Hr (Al Ew (BW Bl rfl Ds xi (Aa (pv 0) Ab)) Ah (Aq _)) (Gp (Al Ft (BW Bl rfl Ds xi (Aa (pv 0) Ab)) (CN rfl K9 (Cz _ _)) (Aq _))))) (Af Bc) Ar) (Ae (BK (PW.pt (Hr (Al Ew (BW (lD rfl) rfl ABi PyProof.Rows.boot_min (Aa (pv 0) Ab)) Ah (Aq _)) (Gp (Al Ft (BW (lE rfl) rfl ABj PyProof.Rows.boot_max (Aa (pv 0) Ab)) (CN rfl Jq (Cz _ _)) (Aq _))))) (Af Bc) Ar) (Af (BK (PW.pt (Hr (Al Ew (pv 1) Ah (Aq _)) (Gp (Al Ft (pv 1) (BW Bl rfl Ds xi (Aa (pv 0) Ab)) (Aq _))))) (Af Bc) Ar)))),?_⟩
 symm;refine⟨l,_,rfl,.inl hS,?_⟩;rw[js];symm;exists CW ⋯ ?_;refine⟨l,_,rfl,.inl hS,?_⟩;rw[js];symm;exists CW ⋯ ?_;refine⟨l,ls,rfl,hS,ne,fun m hm _=>?_⟩;have:=g.m m hm;symm;exists CW ⋯ ?_;refine⟨l,ls,rfl,hS,ne,fun m hm _=>?_⟩;have:=g.m m hm;symm;exists CW ⋯ ?_;exists CW ⋯ ?_;refine⟨l,_,rfl,.inl hS,?_⟩;rw[js];symm;exists CW ⋯ ?_;exact q
theorem QS:DG ["self","start","lengths","leap","terms"] ["self","start","lengths","leap","terms"] (BX Gn):=by walk_at"s"
theorem Jp{ds:Array Value}(F:Kq K "__init__" "Sun.__init__" Gn f fd ds):F0 7 f fd ["self","start","lengths","leap","terms"] (Q6 K Br Aw):=by
 refine F.ok (k:=6) QS (fun h=>?_) fun nd H vs Q E hr h=>?_
 ·obtain⟨x,dx,ll,s,lp,v,us,ls,ts,rfl,_⟩:=h;rfl
 obtain⟨x,dx,ll,s,lp,v,us,ls,ts,rfl,hx,hl,hT,hv,g,bs,q⟩:=h;have lx:ll≠x:=Hh hl hx (by intro z;cases z);have l0:=g.l0;have l1:=g.l1;have p0:=g.p0;have p1:=g.p1;have f0:=g.f0;have f1:=g.f1;refine⟨_,(Ae (Be (Ag Qn (Aa (pv 2) (Aa (pv 3) Ab))))
  (Ae (FP (pv 0) (pv 1) (by rfl))
  (Ae (FP (pv 0) (BZ Il rfl Wi jm8 (Aa (pv 2) Ab)) (by rfl))
  (Ae (FP (pv 0) (pv 3) (by rfl))
  (Ae (FP (pv 0) (GQ Gk (Aa (BW (M7 rfl) rfl dw jk1 (Aa (pv 2) Ab)) (Aa (pv 4) Ab))) (by rfl))
  (Ae (BK (Al Ew (Ag Gy (Aa (Eu Gv (pv 2) (Ai Do (pv 3) Ah) (fun _ _=>rfl)) (Aa (Bq (Bq (pv 0) (by rfl)) (by rfl)) Ab))) Ah (Aq _))
   (Af Bc)
   Ar)
  (Af (BK (Al Ew (Ag Gy (Aa (Bq (Bq (pv 0) (by rfl)) (by rfl)) (Aa (Bq (Bq (pv 0) (by rfl)) (by rfl)) Ab))) Ah (Aq _))
   (Af Bc)
   Ar)))))))),?_⟩
 symm;exists⟨ll,lp,ls,ts,rfl,SqL.of hl,g,?_⟩;refine⟨x,Br,dx,[],rfl,hx,Ci,Jt,nofun,?_⟩;have k1:But x H (upd H x (.ins Br dx (Dl "start" (.int s) []))):=But.upd;have x1:upd H x (.ins Br dx (Dl "start" (.int s) [])) x=some (.ins Br dx [("start",.int s)]):=Ao;generalize upd H x (.ins Br dx (Dl "start" (.int s) []))=H1 at k1 x1 ⊢;symm;refine⟨ll,_,rfl,.inl ⟨SqL.of (k1 _ _ lx hl),fun p hp=>?_⟩⟩;have px:x≠p:=Bx x1 hp;symm;refine⟨x,Br,dx,_,rfl,by rw[BP px];exact x1,Ci,Iv,(by show 1<1000;decide),?_⟩;have k2:But x H1 (upd (upd H1 p (.tup (ls.map V.int))) x (.ins Br dx (Dl "months" (.ref p) [("start",.int s)]))):=fun y o hy h=>by
  rw[BP hy];exact Av hp _ _ _ h
 have x2:upd (upd H1 p (.tup (ls.map V.int))) x (.ins Br dx (Dl "months" (.ref p) [("start",.int s)])) x=some (.ins Br dx [("start",.int s),("months",.ref p)]):=Ao;have t2:upd (upd H1 p (.tup (ls.map V.int))) x (.ins Br dx (Dl "months" (.ref p) [("start",.int s)])) p=some (.tup (ls.map V.int)):=by rw[BP (Ne.symm px),Ao]
 generalize upd (upd H1 p (.tup (ls.map V.int))) x (.ins Br dx (Dl "months" (.ref p) [("start",.int s)]))=H2 at k2 x2 t2 ⊢;symm;refine⟨x,Br,dx,_,rfl,x2,Ci,Hu,(by show 2<1000;decide),?_⟩;have k3:But x H2 (upd H2 x (.ins Br dx (Dl "leap" (.int lp) [("start",.int s),("months",.ref p)]))):=But.upd;have x3:upd H2 x (.ins Br dx (Dl "leap" (.int lp) [("start",.int s),("months",.ref p)])) x=some (.ins Br dx [("start",.int s),("months",.ref p),("leap",.int lp)]):=Ao;generalize upd H2 x (.ins Br dx (Dl "leap" (.int lp) [("start",.int s),("months",.ref p)]))=H3 at k3 x3 ⊢;have k03:But x H H3:=fun y o hy h=>k3 y o hy (k2 y o hy (k1 y o hy h));have l3:=k03 _ _ lx hl;have t3:=k3 _ _ (Ne.symm px) t2;symm;exists⟨ll,ls,rfl,SqL.of l3,?_⟩;refine fun y dy hy hdy ne=>Xy hy hdy ne (hT.but hx .ins k03) ?_ g.ok g.few g.gm g.po fun H4 s4 M4=>⟨rfl,?_⟩
 ·rcases hv with z | ⟨l,z,e⟩
  ·exact .inl z
  ·exact .inr ⟨l,z,k03 _ _ (Hh e hx (by intro z;cases z)) e⟩
 have x4:=s4 _ _ x3;have yx:y≠x:=fun e=>by subst e;rw[x3] at hy;cases hy
 symm;refine⟨x,Br,dx,_,rfl,x4,Ci,Cm,(by show 3<1000;decide),?_⟩;have k5:But x H4 (upd H4 x (.ins Br dx (Dl "years" (.ref y) [("start",.int s),("months",.ref p),("leap",.int lp)]))):=But.upd;have x5:upd H4 x (.ins Br dx (Dl "years" (.ref y) [("start",.int s),("months",.ref p),("leap",.int lp)])) x=some (.ins Br dx (sF s lp p y)):=Ao;generalize upd H4 x (.ins Br dx (Dl "years" (.ref y) [("start",.int s),("months",.ref p),("leap",.int lp)]))=H5 at k5 x5 ⊢;have M5:=M4.butX x4 .ins yx k5;have t5:=k5 _ _ (Ne.symm px) (s4 _ _ t3);have l5:=k5 _ _ lx (s4 _ _ l3);have k05:∀y o,y≠x->H y=some o->H5 y=some o:=fun y o hy h=>k5 y o hy (s4 _ _ (k03 y o hy h));obtain⟨d5,tp,e5,T5⟩:=M5.ex;have elp:lp-1=(((lp-1).toNat:Nat):Int):=⋯;have hat:atI (ls.map V.int) (lp-1)=some (V.int (ls.getD (lp-1).toNat 0)):=by
  conv=>lhs;rw[elp]
  refine Dw ?_;rw[xo,Qr,qm ⋯];rfl
 symm;exists By (SqL.of l5) hat ?_;exists⟨x,Br,dx,_,_,rfl,x5,Ci,Cm,rfl,?_⟩;exists⟨y,Aw,d5,_,_,rfl,e5,Az,CT,rfl,?_⟩;exists⟨tp,_,ts,rfl,T5,fun H6 s6=>?_⟩;exists CW ⋯ ?_;have x6:=s6 _ _ x5;have e6:=s6 _ _ e5;exists⟨x,Br,dx,_,_,rfl,x6,Ci,Cm,rfl,?_⟩;exists⟨y,Aw,d5,_,_,rfl,e6,Az,Cd,rfl,?_⟩;exists⟨x,Br,dx,_,_,rfl,x6,Ci,Cm,rfl,?_⟩;exists⟨y,Aw,d5,_,_,rfl,e6,Az,CT,rfl,?_⟩;exists⟨tp,_,ts,rfl,T5.same s6,fun H7 s7=>?_⟩;exists CW ⋯ ?_;refine q _ (fun y o hy h=>s7 _ _ (s6 _ _ (k05 y o hy h))) ⟨⟨dx,p,y,s7 _ _ x6,SqT.of (s7 _ _ (s6 _ _ t5)),(M5.same s6).same s7⟩,g,bs⟩
theorem UV:CI0 7 "Sun" Br ["self","start","lengths","leap","terms"] (Q6 K Br Aw):=Tq (st:=Gn) (ds:= #[(.int 1 Ge),.none]) gX gG (by walk_at"k") (by walk_at"k") (by walk_at"k") (by walk_at"dm") (fun _ _ _ _ _ _ _ us hl=>by obtain⟨_,_,_,_,_,rfl⟩:=AAj hl;exact⟨_,rfl,rfl⟩) Jp
theorem NT:rZ P w K mg base CX0 7 "Sun" Br ["self","start","lengths","leap","terms"] [(.int 1),.non] (Q6 K Br Aw):=lF (st:=Gn) (ds:= #[(.int 1 Ge),.none]) (dv:=[(.int 1 Ge),.none]) 3 rfl gX gG (by walk_at"k") (by walk_at"k") (by walk_at"k") (by walk_at"dm") (fun _ _ _ _ _ _ _ us hl=>by obtain⟨_,_,_,rfl⟩:=AAk hl;exact⟨_,rfl,rfl⟩) (.cons (by first | exact rfl | exact Cz _ _ | trivial) (.cons (by first | exact rfl | exact Cz _ _ | trivial) .nil)) Jp
theorem O4:CM0 3 Br "year_start" ["self","year"] (ABz K Br Aw):=by
 refine cm' ["self","year"] OJ fun nd H vs Q E hr h=>?_;obtain⟨x,n,s,ls,lp,ts,rfl,S,bn,q⟩:=h;obtain⟨dx,p,y,hx,hp,M⟩:=S.ex;obtain⟨d,fs,ey,ly⟩:=M.meth;obtain⟨d2,tp,e2,T2⟩:=M.ex;exists⟨_,(Af (An (Ai Bv (Bq (pv 0) (by rfl)) (DX Dh Az (Bq (pv 0) (by rfl)) (Aa (pv 1) Ab))))),?_⟩;exists⟨x,Br,dx,_,_,rfl,hx,Ci,Jt,rfl,?_⟩;exists⟨x,Br,dx,_,_,rfl,hx,Ci,Cm,rfl,?_⟩;exists⟨y,d,fs,rfl,ey,ly.2.2.1,?_⟩;exists⟨y,tp,d2,n,_,ts,_,rfl,e2,rfl,rfl,T2,M.gd.b0,M.gd.b1,bn.mono nofun,fun H' s'=>?_⟩;exact q _ s'
theorem VM:CM0 3 Br "lengths" ["self","year"] (nO K Br Aw):=by
 refine cm' ["self","year","told"] U6 fun nd H vs Q E hr h=>?_;obtain⟨x,n,s,ls,lp,ts,rfl,S,bn,q⟩:=h;obtain⟨dx,p,y,hx,hp,M⟩:=S.ex;have g:=S.gd;have p0:=g.p0;have p1:=g.p1;have elp:lp-1=(((lp-1).toNat:Nat):Int):=⋯;generalize hi:(lp-1).toNat=i at elp;have il:i<ls.length:=⋯;refine⟨_,(Ae (Am 2 (BZ YB rfl aW PyProof.Rows.boot_list (Aa (Bq (pv 0) (by rfl)) Ab)))
  (Ae (JN (Ai Do (Ai Bv (Eu Gv (pv 2) (Ai Do (Bq (pv 0) (by rfl)) Ah) (fun _ _=>rfl)) (DX Jg Az (Bq (pv 0) (by rfl)) (Aa (pv 1) Ab))) (Bq (Bq (pv 0) (by rfl)) (by rfl))) (oY (pv 2) (Ai Do (Bq (pv 0) (by rfl)) Ah) set_list))
  (Af (An (pv 2))))),?_⟩
 symm;exists⟨x,Br,dx,_,_,rfl,hx,Ci,Iv,rfl,?_⟩;refine⟨p,_,rfl,.inr hp,fun l hl=>?_⟩;refine fresh hl fun H1 s1 t1=>?_;have M1:=M.same s1;obtain⟨d1,fs,e1,l1⟩:=M1.meth;obtain⟨d2,tp,e2,T2⟩:=M1.ex;have x1:=s1 _ _ hx;symm;exists⟨x,Br,dx,_,_,rfl,x1,Ci,Hu,rfl,?_⟩;rw[elp];have hat:atI (ls.map V.int) (i:Int)=some (V.int (ls.getD i 0)):=by
  refine Dw ?_;rw[xo,Qr,qm il];rfl
 exists By (SqL.of t1) hat ?_;exists⟨x,Br,dx,_,_,rfl,x1,Ci,Cm,rfl,?_⟩;exists⟨y,d1,fs,rfl,e1,l1.2.1,?_⟩;refine⟨y,n,_,ts,rfl,M1,bn.mono nofun,fun H2 s2=>?_⟩;have x2:=s2 _ _ x1;symm;exists⟨x,Br,dx,_,_,rfl,x2,Ci,Cm,rfl,?_⟩;exists⟨y,Aw,d2,_,_,rfl,s2 _ _ e2,Az,Cd,rfl,?_⟩;exists⟨x,Br,dx,_,_,rfl,x2,Ci,Hu,rfl,?_⟩;rw[elp];have t2:=s2 _ _ t1;refine fK t2 (by rw[js];exact il) ?_;symm;have ev:ls.getD i 0+AT ls.sum ts n-ls.sum=ls.getD i 0+ONS ts n:=by
  unfold AT;lia
 rw[ev];have el:(ls.map V.int).set i (V.int (ls.getD i 0+ONS ts n))=(VR ls lp ts n).map V.int:=by
  unfold VR;rw[hi,List.map_set]
 rw[el];refine q l _ hl (fun b o h=>?_) Ao;rw[BP (Bx h hl)];exact s2 _ _ (s1 _ _ h)
theorem aO:CM0 3 Br "cycle" ["self"] (xV K Br Aw):=by
 refine cm' ["self","years"] ZL fun nd H vs Q E hr h=>?_;obtain⟨x,s,ls,lp,ts,rfl,S,q⟩:=h;obtain⟨dx,p,y,hx,hp,M⟩:=S.ex;obtain⟨d,fs,ey,ly⟩:=M.meth;obtain⟨d2,tp,e2,T2⟩:=M.ex;have pp:=RD S.gd.ok S.gd.few;refine⟨_,(Ae (Am 1 (Cv GD Az (Bq (pv 0) (by rfl)))) (Af (An (BJ (Aa (pv 1) (Aa (DX Dh Az (Bq (pv 0) (by rfl)) (Aa (pv 1) Ab)) Ab)))))),?_⟩
 symm;exists⟨x,Br,dx,_,_,rfl,hx,Ci,Cm,rfl,?_⟩;exists⟨y,d,fs,rfl,ey,ly.2.2.2,?_⟩;exists⟨y,_,ts,rfl,M,?_⟩;exists⟨x,Br,dx,_,_,rfl,hx,Ci,Cm,rfl,?_⟩;exists⟨y,d,fs,rfl,ey,ly.2.2.1,?_⟩;exists⟨y,tp,d2,_,_,ts,_,rfl,e2,rfl,rfl,T2,M.gd.b0,M.gd.b1,CP ⋯ ⋯ nofun,fun H' s'=>?_⟩;refine⟨two,fun c hc=>?_⟩;exact q _ _ (s'.trans (Av hc _)) Ao
theorem LR:C0 2 "refuse_part" ["measure","greatest"] (tR K Aw):=by
 refine co' ["measure","greatest"] Uw fun nd H vs Q E hr h=>?_;obtain⟨y,b,g,ts,rfl,M,f,bg,q⟩:=h;obtain⟨d,p,e,T⟩:=M.ex;refine⟨_,(Ae (BK (Al Ew (Ag Gy (Aa (Bq (pv 0) (by rfl)) (Aa (Bq (pv 0) (by rfl)) Ab))) Ah (Aq _)) (Af Bc) Ar) (Af (BK (Al Ft (Bq (pv 0) (by rfl)) (pv 1) (Aq _)) (Af Bc) Ar))),?_⟩
 symm;exists⟨y,Aw,d,_,_,rfl,e,Az,Cd,rfl,?_⟩;exists⟨y,Aw,d,_,_,rfl,e,Az,CT,rfl,?_⟩;exists⟨p,_,ts,rfl,T,fun H1 s1=>?_⟩;exists CW ⋯ ?_;exists⟨y,Aw,d,_,_,rfl,s1 _ _ e,Az,Cd,rfl,?_⟩;exists CW ⋯ ?_;exact q _ s1
theorem Qv:CI0 3 "Moon" Bh ["self","start","days","many"] (Yr K Bh Aw):=by
 refine ci' ["self","start","days","many"] Qf fun nd H vs Q E hr h=>?_;obtain⟨x,dx,d,m,s,bd,bm,td,tm,rfl,hx,hd,hm,g,bs,q⟩:=h;refine⟨_,(Ae (Be (Ag LR (Aa (pv 2) (Aa (CN rfl Jq (Cz _ _)) Ab)))) (Ae (Be (Ag LR (Aa (pv 3) (Aa (CN rfl K9 (Cz _ _)) Ab)))) (Ae (FP (pv 0) (pv 1) (by rfl)) (Ae (FP (pv 0) (pv 2) (by rfl)) (Af (FP (pv 0) (pv 3) (by rfl))))))),?_⟩
 symm;exists⟨d,bd,_,td,rfl,hd,g.fd,g.gd,fun H0 s0=>?_⟩;refine⟨m,bm,_,tm,rfl,hm.same s0,g.fm,g.gm,fun H9 s9=>?_⟩;have s09:=s0.trans s9;have hx:=s09 _ _ hx;have hd:=hd.same s09;have hm:=hm.same s09;have dnx:d≠x:=by
  obtain⟨_,_,e,_⟩:=hd.ex;exact Hh e hx (by intro z;injection z with _ _ z;cases z)
 have mnx:m≠x:=by
  obtain⟨_,_,e,_⟩:=hm.ex;exact Hh e hx (by intro z;injection z with _ _ z;cases z)
 symm;refine⟨x,Bh,dx,[],rfl,hx,Ce,Iw,nofun,?_⟩;have k1:But x H9 (upd H9 x (.ins Bh dx (Dl "start" (.int s) []))):=But.upd;have x1:upd H9 x (.ins Bh dx (Dl "start" (.int s) [])) x=some (.ins Bh dx [("start",.int s)]):=Ao;generalize upd H9 x (.ins Bh dx (Dl "start" (.int s) []))=H1 at k1 x1 ⊢;symm;refine⟨x,Bh,dx,_,rfl,x1,Ce,Ea,(by show 1<1000;decide),?_⟩;have k2:But x H1 (upd H1 x (.ins Bh dx (Dl "days" (.ref d) [("start",.int s)]))):=But.upd;have x2:upd H1 x (.ins Bh dx (Dl "days" (.ref d) [("start",.int s)])) x=some (.ins Bh dx [("start",.int s),("days",.ref d)]):=Ao;generalize upd H1 x (.ins Bh dx (Dl "days" (.ref d) [("start",.int s)]))=H2 at k2 x2 ⊢;symm;refine⟨x,Bh,dx,_,rfl,x2,Ce,EY,(by show 2<1000;decide),?_⟩;have k3:But x H2 (upd H2 x (.ins Bh dx (Dl "many" (.ref m) [("start",.int s),("days",.ref d)]))):=But.upd;have x3:upd H2 x (.ins Bh dx (Dl "many" (.ref m) [("start",.int s),("days",.ref d)])) x=some (.ins Bh dx (moF s d m)):=Ao;generalize upd H2 x (.ins Bh dx (Dl "many" (.ref m) [("start",.int s),("days",.ref d)]))=H3 at k3 x3 ⊢;have k03:But x H9 H3:=fun y o hy h=>k3 y o hy (k2 y o hy (k1 y o hy h));symm;refine q _ (fun y o hy h=>k03 y o hy (s09 _ _ h)) ⟨⟨dx,d,m,x3,hd.butX hx .ins dnx k03,hm.butX hx .ins mnx k03⟩,g,bs⟩
theorem Nf:CM0 3 Bh "year_start" ["self","year"] (xT K Bh Aw):=by
 refine cm' ["self","year"] Mh fun nd H vs Q E hr h=>?_;obtain⟨x,n,s,bd,bm,td,tm,rfl,S,bn,q⟩:=h;obtain⟨dx,d,m,hx,D,M⟩:=S.ex;obtain⟨d1,f1,e1,l1⟩:=D.meth;obtain⟨d2,f2,e2,l2⟩:=M.meth;obtain⟨d4,p4,e4,T4⟩:=M.ex;have g:=S.gd;exists⟨_,(Af (An (Ai Bv (Bq (pv 0) (by rfl)) (DX Dh Az (Bq (pv 0) (by rfl)) (Aa (DX Dh Az (Bq (pv 0) (by rfl)) (Aa (pv 1) Ab)) Ab))))),?_⟩;exists⟨x,Bh,dx,_,_,rfl,hx,Ce,Iw,rfl,?_⟩;exists⟨x,Bh,dx,_,_,rfl,hx,Ce,Ea,rfl,?_⟩;exists⟨d,d1,f1,rfl,e1,l1.2.2.1,?_⟩;exists⟨x,Bh,dx,_,_,rfl,hx,Ce,EY,rfl,?_⟩;exists⟨m,d2,f2,rfl,e2,l2.2.2.1,?_⟩;refine⟨m,p4,d4,n,_,tm,_,rfl,e4,rfl,rfl,T4,M.gd.b0,M.gd.b1,bn.mono nofun,fun H1 s1=>?_⟩;obtain⟨d3,p3,e3,T3⟩:=(D.same s1).ex;symm;exists⟨d,p3,d3,_,_,td,_,rfl,e3,rfl,rfl,T3,D.gd.b0,D.gd.b1,(yN g.okm M.gd.b0 M.gd.b1 g.fwm bn).mono nofun,fun H2 s2=>?_⟩;exact q _ (s1.trans s2)
theorem Ub:CM0 3 Bh "lengths" ["self","year"] (eY K Bh Aw):=by
 refine cm' ["self","year","first"] Ro fun nd H vs Q E hr h=>?_;obtain⟨x,n,s,bd,bm,td,tm,rfl,S,bn,q⟩:=h;obtain⟨dx,d,m,hx,D,M⟩:=S.ex;obtain⟨d2,f2,e2,l2⟩:=M.meth;obtain⟨d4,p4,e4,T4⟩:=M.ex;have g:=S.gd;have a0:=dq g.okm g.fm n;have a1:=sG g.okm g.fwm (b:=bm) n;have gm:=g.gm;refine⟨_,(Ae (Am 2 (DX Dh Az (Bq (pv 0) (by rfl)) (Aa (pv 1) Ab)))
  (Af (An (Fi rfl (Eg ["self","year","first"] ["self","year","first"] rfl rfl (by with_unfolding_all rfl) ∅ rfl ∅ rfl ∅ (by walk_at"fm") (by with_unfolding_all rfl) (by with_unfolding_all rfl)) (Oi rfl IK (Aa (DX Jg Az (Bq (pv 0) (by rfl)) (Aa (pv 1) Ab)) Ab)) (fun _ _ _ _=>Ec) (fun _ _ _ _=>(DX (ta:=yq K (Ie 1) (Str.ofString "days")) Jg Az (Bq (ta:=Ie 1) (pv 1) (by rfl)) (Aa (Ai Bv (pv 3) (pv 0)) Ab))))))),?_⟩
 symm;exists⟨x,Bh,dx,_,_,rfl,hx,Ce,EY,rfl,?_⟩;exists⟨m,d2,f2,rfl,e2,l2.2.2.1,?_⟩;refine⟨m,p4,d4,n,_,tm,_,rfl,e4,rfl,rfl,T4,M.gd.b0,M.gd.b1,bn.mono nofun,fun H1 s1=>?_⟩;have hx1:=s1 _ _ hx;have M1:=M.same s1;have D1:=D.same s1;have bu:Bt 386 (UP bm tm n):=yN g.okm M.gd.b0 M.gd.b1 g.fwm bn;obtain⟨d3,f3,e3,l3⟩:=M1.meth;symm;exists Fx (Xa ?_);exists⟨x,Bh,dx,_,_,rfl,hx1,Ce,EY,rfl,?_⟩;exists⟨m,d3,f3,rfl,e3,l3.2.1,?_⟩;refine⟨m,n,_,tm,rfl,M1,bn.mono nofun,fun H2 s2=>?_⟩;have hx2:=s2 _ _ hx1;have D2:=D1.same s2;refine⟨_,rfl,⋯,⋯,?_⟩;refine Kc aZ (by rw[js,vt];exact Dz ⋯) (fun E i ys H3=>H3 E=some (.lst ys)/\BR H2 H3/\ys=((List.range i).map fun j:Nat=>AT bd td (UP bm tm n+(j:Int))).map V.int) (fun E hE=>⟨Ao,Av hE _,rfl⟩)
  (fun E i ys H3 _ ⟨h1,_,h3⟩=>⟨h1,by rw[h3,js,js,vt];exact qo _,trivial⟩) (fun E i v ys H3 hE hv ⟨h1,h2,h3⟩=>?_) (fun E ys H3 hE ⟨h1,h2,h3⟩=>?_)
 ·rw[xo] at hv;obtain⟨j,hj,rfl⟩:=ku.mp hv;have jl:j<(AT bm tm n).toNat:=jd3.mp (qv hj);obtain rfl:j=i:=by
   have:=zk.mp hj;obtain⟨_,e⟩:=this;rw[List.getElem_range] at e;exact e.symm
  have D3:=D2.same h2;obtain⟨d5,f5,e5,l5⟩:=D3.meth;refine JG (Gw ?_);rw[jh9];symm;exists⟨x,Bh,dx,_,_,rfl,h2 _ _ hx2,Ce,Ea,rfl,?_⟩;exists⟨d,d5,f5,rfl,e5,l5.2.1,?_⟩;refine⟨d,_,_,td,rfl,D3,(bu.add ((show Bt 64 (j:Int) from CP ⋯ ⋯ nofun).mono (show 64<=386 by decide))).mono (show 387<=400 by decide),fun H4 s4=>?_⟩;refine⟨s4 _ _ h1,Ao,Fp hE (h2.trans s4),?_⟩;rw[h3,List.range_succ,ve,ve];rfl
 ·rw[js,vt] at h3;subst h3;exact q E H3 ((s1.trans s2).free hE) ((s1.trans s2).trans h2) h1
theorem YJ:CM0 3 Bh "cycle" ["self"] (nM K Bh Aw):=by
 refine cm' ["self","years","months","times"] XQ fun nd H vs Q E hr h=>?_;obtain⟨x,s,bd,bm,td,tm,rfl,S,q⟩:=h;obtain⟨dx,d,m,hx,D,M⟩:=S.ex;obtain⟨d1,f1,e1,l1⟩:=D.meth;obtain⟨d2,f2,e2,l2⟩:=M.meth;obtain⟨d4,p4,e4,T4⟩:=M.ex;have g:=S.gd;obtain⟨Pm0,Pm1,Pmd⟩:=RD g.okm g.fwm;obtain⟨Pd0,Pd1,Pdd⟩:=RD g.okd g.fwd;have M0:=YS (base:=bm) g.okm g.fm Pm0;have MA:=rK (b:=bm) g.okm M.gd.b0 M.gd.b1 g.fwm (k:=PER tm) (K:=PER tm) ⋯ ⋯;refine⟨_,(Ae (Am 1 (Cv GD Az (Bq (pv 0) (by rfl)))) (Ae (Am 2 (DX Dh Az (Bq (pv 0) (by rfl)) (Aa (pv 1) Ab))) (Ae (Am 3 (Ai Bf (Cv GD Az (Bq (pv 0) (by rfl))) (Ag Oz (Aa (Cv GD Az (Bq (pv 0) (by rfl))) (Aa (pv 2) Ab))))) (Af (An (BJ (Aa (Ai Cg (pv 1) (pv 3)) (Aa (DX Dh Az (Bq (pv 0) (by rfl)) (Aa (Ai Cg (pv 2) (pv 3)) Ab)) Ab)))))))),?_⟩
 symm;exists⟨x,Bh,dx,_,_,rfl,hx,Ce,EY,rfl,?_⟩;exists⟨m,d2,f2,rfl,e2,l2.2.2.2,?_⟩;exists⟨m,_,tm,rfl,M,?_⟩;exists⟨x,Bh,dx,_,_,rfl,hx,Ce,EY,rfl,?_⟩;exists⟨m,d2,f2,rfl,e2,l2.2.2.1,?_⟩;refine⟨m,p4,d4,_,_,tm,_,rfl,e4,rfl,rfl,T4,M.gd.b0,M.gd.b1,CP ⋯ ⋯ nofun,fun H1 s1=>?_⟩;have hx1:=s1 _ _ hx;have D1:=D.same s1;obtain⟨d5,f5,e5,l5⟩:=D1.meth;have eT:moT td bm tm=PER td/(Int.gcd (PER td) (UP bm tm (PER tm)):Int):=rfl;generalize hM:UP bm tm (PER tm)=MM at*
 symm;exists⟨x,Bh,dx,_,_,rfl,hx1,Ce,Ea,rfl,?_⟩;exists⟨d,d5,f5,rfl,e5,l5.2.2.2,?_⟩;exists⟨d,_,td,rfl,D1,?_⟩;exists⟨x,Bh,dx,_,_,rfl,hx1,Ce,Ea,rfl,?_⟩;exists⟨d,d5,f5,rfl,e5,l5.2.2.2,?_⟩;exists⟨d,_,td,rfl,D1,?_⟩;refine⟨_,_,rfl,CP ⋯ ⋯ nofun,(bt_of ⋯ ⋯).mono nofun,fun H2 s2=>?_⟩;have g0:=Mz (b:=MM) Pd0;have g1:=c7 (b:=MM) Pd0;symm;refine Dq (Dv g0 ⋯) ?_;rw[<-eT];have t0:0<=moT td bm tm:=by rw[eT];exact jh1 ⋯ ⋯
 have t1:moT td bm tm<=PER td:=by rw[eT];exact jf3 _ ⋯
 generalize moT td bm tm=T at*
 have D2:=D1.same s2;have hx2:=s2 _ _ hx1;obtain⟨d6,f6,e6,l6⟩:=D2.meth;obtain⟨d7,p7,e7,T7⟩:=D2.ex;have bM:Bt 200 MM:=bt_of ⋯ ⋯;have bT:Bt 64 T:=CP ⋯ ⋯ nofun;symm;exists Dq ⟨64,64,CP ⋯ ⋯ nofun,bT,nofun⟩ ?_;exists⟨x,Bh,dx,_,_,rfl,hx2,Ce,Ea,rfl,?_⟩;exists⟨d,d6,f6,rfl,e6,l6.2.2.1,?_⟩;refine Dq ⟨200,64,bM,bT,nofun⟩ ?_;exists⟨d,p7,d7,_,_,td,_,rfl,e7,rfl,rfl,T7,D.gd.b0,D.gd.b1,(bM.mul bT).mono nofun,fun H3 s3=>?_⟩;refine⟨two,fun c hc=>?_⟩;exact q _ _ ((s1.trans s2).trans (s3.trans (Av hc _))) Ao
theorem Qm:C0 2 "refuse_wanted" ["month","day","step"] tM:=by
 refine co' ["month","day","step"] QT (len:=by intro _ _ _ _ h;obtain⟨m,d,st,rfl,_⟩:=h;cases m<;>cases d<;>rfl) fun nd H vs Q E hr h=>?_;obtain⟨m,d,st,rfl,m0,d0,st1,q⟩:=h;refine⟨_,(Ae (Ff (BK (Al ux (pv 0) JP (Aq _)) (Af (Be (Ag Cq (Aa (pv 0) Ab)))) Ar)) (Ae (BK (Al Ba (pv 1) Ah (Aq _)) (Af Bc) Ar) (Af (Be (Ag Cq (Aa (pv 2) Ab)))))),?_⟩
 symm;refine FN (fun Z' H'=>H'=H/\Z'=[some (oI m),some (oI d),some (.int st)]) ?_ ?_
 ·symm;exists⟨rfl,?_⟩;cases m with
  | none=>
   exists Fz ?_;exact⟨rfl,rfl⟩
  | some i=>
   exists Gw ?_;exact⟨i,rfl,m0 i rfl,⟨rfl,rfl⟩⟩
 rintro Z' H' ⟨rfl,rfl⟩;cases d with
 | none=>
  symm;exists CW (fun e=>nomatch e) ?_;exact⟨st,rfl,st1,q⟩
 | some i=>
  symm;exists CW (fun e=>d0 (ya some (V.int.inj e))) ?_;exact⟨st,rfl,st1,q⟩
theorem Qp:C0 1 "days_of_month" ["first","length","day"] uJ:=by
 refine co' ["first","length","day","place"] QZ (len:=by intro _ _ _ _ h;obtain⟨f,n,d,rfl,_⟩:=h;cases d<;>rfl) fun nd H vs Q E hr h=>?_;obtain⟨f,n,d,rfl,n0,n1,q⟩:=h;refine⟨_,(Ae (BK (Al Lj (pv 2) JP (Aq _)) (Af (An (cF rfl rfl aW rfl IK (Aa (pv 0) (Aa (Ai Bv (pv 0) (pv 1)) Ab))))) Ar) (Ae (Ff (Am 3 (Ed (Al Ft (pv 2) Ah (Aq _)) (Ai Do (pv 2) Ah) (Ai Bv (pv 1) (pv 2))))) (Ae (BK (PW.pt (Hr (Al Ew (pv 3) Ah (Aq _)) (Gp (Al xj (pv 3) (pv 1) (Aq _))))) (Af (An (Fq Ab))) Ar) (Af (An (Fq (Aa (Ai Bv (pv 0) (pv 3)) Ab))))))),?_⟩
 cases d with
 | none=>
  symm;exists⟨rfl,?_⟩;exists Gw ?_;refine⟨f,f+n,rfl,⋯,⋯,fun l hl=>?_⟩;refine q l _ hl (Av hl _) ?_;rw[Ao,show f+n-f=n by lia];unfold X7;rw[ua];rfl
 | some i=>
  rw[show oI (some i)=V.int i from rfl];symm;exists⟨rfl,?_⟩;exists Fz ?_;refine FN (fun Z' H'=>H'=H/\Z'=[some (.int f),some (.int n),some (.int i),some (.int (plD n i))]) ?_ ?_
  ·symm;refine Ca (fun h=>?_) (fun h=>?_)
   ·rw[show plD n i=i-1 from xp h];symm;exact⟨rfl,rfl⟩
   ·rw[show plD n i=n+i from xy h];symm;exact⟨rfl,rfl⟩
  rintro Z' H' ⟨rfl,rfl⟩;simp only[X7] at q;generalize plD n i=pl at*
  symm;refine Ca (fun h1=>Gw ?_) (fun h1=>?_)
  ·rw[xp (.inl h1)] at q;symm;refine⟨ka _,fun l hl=>?_⟩;exact q l _ hl (Av hl _) Ao
  symm;refine Ca (fun h2=>?_) (fun h2=>?_)
  ·rw[xp (.inr h2)] at q;symm;refine⟨ka _,fun l hl=>?_⟩;exact q l _ hl (Av hl _) Ao
  ·rw[xy (fun z=>z.elim h1 h2)] at q;symm;refine⟨(by show 1<=sizeLine;decide),fun l hl=>?_⟩;exact q l _ hl (Av hl _) Ao
theorem Tz:C0 4 "days_of_year" ["calendar","year","month","day"] (uI K Br Bh Aw):=by
 refine co' ["calendar","year","month","day","told","first","number","length"] Rm (len:=by intro _ _ _ _ h;obtain⟨x,d,y,m,i,rfl,_⟩:=h;cases m<;>cases i<;>rfl) fun nd H vs Q E hr h=>?_;obtain⟨x,d,y,m,i,rfl,S,by',q⟩:=h;have g:=Ey.good S;have ln:=Bs.len g y;have lm:=Bs.mem g y;have nn:∀n∈d.L y,0<=n:=fun n hn=>(lm n hn).1;refine⟨_,(Ae (Am 4 (Fq Ab)) (Ae (Am 5 (SN (k:=3) (Hz.cons Ci O4 nofun (Hz.cons Ce Nf nofun Hz.nil)) (hr.mono nofun) (pv 0) (Aa (pv 1) Ab))) (Ae (Am 6 Ah) (Ae (JM PassesOwn.never rfl (Gu (SN (k:=3) (Hz.cons Ci VM nofun (Hz.cons Ce Ub nofun Hz.nil)) (hr.mono nofun) (pv 0) (Aa (pv 1) Ab))) (CZ (i:=7) nd rfl (by walk_at"o")) (Ae (Ff (BK (PW.pt (Hr (Al Lj (pv 2) JP (Aq _)) (Gp (Al Ba (pv 2) (pv 6) (Aq _))))) (Af (Be (GR vk jd7 jd8 Iu (pv 4) (Aa (Ag Qp (Aa (pv 5) (Aa (pv 7) (Aa (pv 3) Ab)))) Ab)))) Ar)) (Ae (Am 5 (Ai Bv (pv 5) (pv 7))) (Af (Am 6 (Ai Bv (pv 6) Ah)))))) (Af (An (pv 4))))))),?_⟩
 symm;refine⟨ka _,fun t0 ht0=>?_⟩;have s1:=Av ht0 (.lst []);have e1:upd H t0 (.lst []) t0=some (.lst []):=Ao;have S1:=Ey.same S s1;generalize upd H t0 (.lst [])=H1 at s1 e1 S1 ⊢;symm;obtain⟨C,dx,fs,sp,mem,e,lk,use⟩:=S1.ys;exists⟨x,C,dx,fs,sp,mem,rfl,e,lk,?_⟩;refine use S1 by' fun H2 s2=>?_
 have S2:=Ey.same S1 s2;have e2:=s2 _ _ e1;have s12:=s1.trans s2;symm;exists R0 (K8 ?_);obtain⟨C',dx',fs',sp',mem',e',lk',use'⟩:=S2.le;exists⟨x,C',dx',fs',sp',mem',rfl,e',lk',?_⟩;refine use' S2 by' fun l H3 hl s3 t3=>?_
 have e3:=s3 _ _ e2;have s13:=s12.trans s3;have lt:l≠t0:=fun z=>by rw[z,e2] at hl;cases hl
 generalize d.L y=L at*
 generalize d.Y y=Y0 at*
 refine⟨l,rfl,⟨_,SqL.of t3⟩,KZ (xs:=L.map V.int) (fun k Z' H'=>An4 (BR H H') (H' l=some (.lst (L.map V.int))) (k<=L.length) (∃(v:Option V),H' t0=some (.lst ((yrL (L.take k) Y0 1 m i).map V.int))/\Z'=[some (.ref x),some (.int y),some (oI m),some (oI i),some (.ref t0),some (.int (Y0+PS L k)),some (.int (1+(k:Int))),v])) ⟨s13,t3,ka _,none,e3,by rw[ww,jd5];rfl⟩ ?_ ?_ ?_⟩
 ·rintro k Z' H' hk ⟨_,t,_⟩;exact SqL.of t
 ·rintro k v0 Z' H' hv ⟨sH,tl,k1,v,td,rfl⟩;rw[xo] at hv;obtain⟨n,hn,rfl⟩:=ku.mp hv;have kl:k<L.length:=(zk.mp hn).1;have hnm:=lm n (qv hn);have e5:=lV hn Y0 m i;have eP:PS L (k+1)=PS L k+n:=by
   rw[iM kl,Qr,hn];rfl
  have l1:=aX (L.take k) Y0 1 m i fun n hn=>nn n (jp5 hn);have l2:=Wo (M:=1006) lm;have l3:=gZ (f:=Y0+PS L k) hnm.1 i;have l4:(L.take k).sum<=L.sum:=by
   have:=iQ nn (show k<=L.length by lia) (qo _)
   rwa [ABc] at this
  generalize yrL (L.take k) Y0 1 m i=ds at*
  symm;refine FN (fun Z' H'=>An4 (BR H H') (H' l=some (.lst (L.map V.int))) (H' t0=some (.lst ((yrL (L.take (k+1)) Y0 1 m i).map V.int))) (Z'=[some (.ref x),some (.int y),some (oI m),some (oI i),some (.ref t0),some (.int (Y0+PS L k)),some (.int (1+(k:Int))),some (.int n)])) ?_ ?_
  ·have ext:(m=none\/m=some (1+(k:Int)))->∀(l5:Addr) (H5:Hp) (s5:BR H' H5) (t5:H5 l5=some (.lst ((X7 (Y0+PS L k) n i).map V.int))) {Q2:VK},(∀(H4:Hp),BR H H4->H4 l=some (.lst (L.map V.int))->H4 t0=some (.lst ((yrL (L.take (k+1)) Y0 1 m i).map V.int))->Q2 .non H4)->Q7 (.ref t0) [.ref l5] H5 Q2:=fun hm l5 H5 s5 t5 {Q2} hQ=>by
    have td5:=s5 _ _ td;have tl5:=s5 _ _ tl;refine⟨t0,l5,_,_,rfl,rfl,td5,t5,?_,?_⟩
    ·rw[js,js,sizeLine_eq];lia
    ·rw[<-ve];refine hQ _ (fun r o ho=>?_) ?_ ?_
     ·rw[BP fun z=>by rw[z,ht0] at ho;cases ho];exact s5 _ _ (sH _ _ ho)
     ·rw[BP lt];exact tl5
     ·rw[Ao,e5,xp hm]
   have skip:¬(m=none\/m=some (1+(k:Int)))->BR H H'/\H' l=some (.lst (L.map V.int))/\H' t0=some (.lst ((yrL (L.take (k+1)) Y0 1 m i).map V.int)):=fun hm=>⟨sH,tl,by rw[e5,xy hm,yk];exact td⟩;cases m with
   | none=>
    symm;exists⟨rfl,?_⟩;exists Gw (Gw ?_);exists Og rfl td ?_;refine⟨_,n,i,rfl,hnm.1,⋯,fun l5 H5 h5 s5 t5=>?_⟩;refine GP ?_;refine ext (.inl rfl) l5 H5 s5 t5 fun H4 a1 a2 a3=>?_;exact⟨a1,a2,a3,rfl⟩
   | some j=>
    symm;exists⟨rfl,?_⟩;exists Fz ?_;refine Ca (fun z=>?_) (fun z=>?_)
    ·have z':some j=some (1+(k:Int)):=ya some (V.int.inj z);symm;exists Og rfl td ?_;refine⟨_,n,i,rfl,hnm.1,⋯,fun l5 H5 h5 s5 t5=>?_⟩;refine GP ?_;refine ext (.inr z') l5 H5 s5 t5 fun H4 a1 a2 a3=>?_;exact⟨a1,a2,a3,rfl⟩
    ·symm;obtain⟨a1,a2,a3⟩:=skip (fun w=>by rcases w with w | w;cases w;exact z (ya V.int (uk w)));exact⟨a1,a2,a3,rfl⟩
  rintro Z' H4 ⟨sH,tl,td,rfl⟩;symm;refine⟨sH,tl,⋯,some (.int n),td,?_⟩;rw[show (1:Int)+((k+1:Nat):Int)=1+(k:Int)+1 by lia,eP,<-Int.add_assoc]<;>rfl
 rintro Z' H' ⟨sH,tl,k1,v,td,rfl⟩;symm;rw[js,jb4] at td;exact q t0 _ ht0 sH td
theorem nj:DG ["calendar","month","day","step","rest","cycle","years","size","days","year"] ["calendar","month","day","step","rest"] (BX XM):=by walk_at"s"
theorem pI{ds:Array Value}(F:Kq K "dated" "dated" XM f fd ds):F0 5 f fd ["calendar","month","day","step","rest"] (Ys K Br Bh Aw):=by
 refine F.ok (k:=4) nj (fun h=>?_) fun nd H vs Q E hr h=>?_
 ·obtain⟨x,g,m,i,rfl,_⟩:=h;cases m<;>cases i<;>rfl
 obtain⟨x,g,m,i,rfl,S,sm,m0,i0,q⟩:=h;have gd:=Ey.good S;have Y0:=sm.y0;have Y1:=sm.y1;have D0:=sm.d0;have D1:=sm.d1;refine⟨_,(Ae (Be (Ag Qm (Aa (pv 1) (Aa (pv 2) (Aa (pv 3) Ab))))) (Ae (Am 5 (CK (k:=3) (Hz.cons Ci aO nofun (Hz.cons Ce YJ nofun Hz.nil)) (pv 0))) (Ae (Am 6 (Ag UG (Aa (pxT 5) (Aa (pv 3) Ab)))) (Ae (Am 7 (Ai Cg (Ai Bf (pv 6) (pxT 5)) (pxT 5))) (Ae (Be (Ag Ej (Aa (pv 7) Ab))) (Ae (Am 8 (Fq Ab)) (Ae (JM PassesOwn.never rfl (Vl rfl IK (Aa (Ai Bu (pv 4) (pv 3)) (Aa (pv 6) (Aa (pv 3) Ab)))) (CZ (i:=9) nd rfl (by walk_at"o")) (Af (Be (GR vk jd7 jd8 Iu (pv 8) (Aa (Ag Tz (Aa (pv 0) (Aa (pv 9) (Aa (pv 1) (Aa (pv 2) Ab))))) Ab))))) (Af (An (Ag Ja (Aa (pv 7) (Aa (pv 8) Ab)))))))))))),?_⟩
 symm;exists⟨m,i,1,rfl,m0,i0,nofun,?_⟩;obtain⟨C,dx,fs,sp,mem,e,lk,use⟩:=S.cyc;refine⟨x,C,dx,fs,sp,mem,rfl,e,lk,?_⟩;refine use S fun c H1 s1 t1=>?_;clear C dx fs sp mem e lk use;have S1:=Ey.same S s1;generalize hY:g.cy.1=Y at*
 generalize hD:g.cy.2=D at*
 symm;exists Ay (SqT.of t1) at0 ?_;refine⟨_,_,rfl,⋯,⋯,CP ⋯ ⋯ nofun,CP ⋯ ⋯ nofun,fun H2 s2=>?_⟩;have lc:CQ Y 1=Y:=by rw[Vr ⋯ nofun];exact Xv nofun ⋯ (jw1 Y)
 rw[lc];symm;exists Ay (SqT.of (s2 _ _ t1)) at0 ?_;exists Dq (Dv ⋯ ⋯) ?_;exists Ay (SqT.of (s2 _ _ t1)) at1 ?_;rw[Int.ediv_self ⋯];exists J4 ?_;rw[jg6];exists⟨_,rfl,⋯,?_⟩;refine⟨ka _,fun l hl=>?_⟩;have hlH:H l=none:=(s1.trans s2).free hl;refine fresh hl fun H3 s3 t3=>?_;have S3:=Ey.same (Ey.same S1 s2) s3;symm;exists R0 (fL ?_);obtain⟨n,hn⟩:∃n:Nat,(n:Int)=Y:=⟨Y.toNat,⋯⟩;refine⟨0,Y,1,rfl,⋯,⋯,Ld ⋯ ⋯ ⋯ ⋯ ⋯ ⋯,n,by rw[JL nofun,xp ⋯];lia,TF (fun k Z' H'=>An3 (BR H H') (k<=n) (∃(v:Option V),An4 ((dtL g m i k).length<=30000*k) (H' l=some (.lst ((dtL g m i k).map V.int))) (Ey K Br Bh Aw H' x g) (Z'=[some (.ref x),some (oI m),some (oI i),some (.int 1),some (.int 0),some (.ref c),some (.int Y),some (.int D),some (.ref l),v]))) ⟨s1.trans (s2.trans s3),⋯,none,qo _,t3,S3,rfl⟩ ?_ ?_⟩
 ·rintro k Z' H' hk ⟨sH,k1,v,dl,tl,SH,rfl⟩;have ek:(0:Int)+(k:Int)*1=(k:Int):=⋯
  have ln:=Bs.len gd (k:Int);have lm:=Bs.mem gd (k:Int);have le:=aX (g.L (k:Int)) (g.Y (k:Int)) 1 m i fun n hn=>(lm n hn).1;have l2:=Wo (M:=1006) lm;have lN:(dtL g m i (k+1)).length<=30000*(k+1):=by
   show(dtL g m i k++_).length<=_;rw[ze];lia
  symm;exists Og rfl tl ?_;rw[ek];refine⟨x,g,_,m,i,rfl,SH,CP ⋯ ⋯ nofun,fun l5 H5 h5 s5 t5=>?_⟩;refine GP ?_;have tl5:=s5 _ _ tl;refine⟨l,l5,_,_,rfl,rfl,tl5,t5,?_,?_⟩
  ·rw[js,js,sizeLine_eq,<-ze];exact zo lN ⋯
  ·rw[<-ve];refine⟨fun u o ho=>?_,⋯,_,lN,Ao,Ey.but (Ey.same SH s5) tl5 But.upd,rfl⟩;rw[BP fun z=>by rw[z,hlH] at ho;cases ho];exact s5 _ _ (sH _ _ ho)
 ·rintro Z' H' ⟨sH,_,v,dl,tl,SH,rfl⟩;symm;refine⟨l,_,D,rfl,SqL.of tl,⋯,⋯,fun p b H6 s6 t6 B=>?_⟩;exact q p b H6 (sH.trans s6) t6 (by rw[show Y.toNat=n by lia];exact B)
theorem wO:C0 5 "dated" ["calendar","month","day","step","rest"] (Ys K Br Bh Aw):=wK (st:=XM) (ds:= #[.none,.none,(.int 1 Yj),(.int 0 Yi)]) gX gG (by walk_at"dg") (fun _ _ _ _ _ _ _ us hl=>by obtain⟨_,_,_,_,_,rfl⟩:=AAj hl;exact⟨_,rfl,rfl⟩) pI
theorem ACY:DG ["turn","day"] ["turn","day"] (BX zc):=by walk_at"s"
theorem ACs(F:Fun K "on" "on" zc f fd):F0 1 f fd ["turn","day"] (ACM K):=by
 refine F.ok (k:=0) ACY (fun h=>?_) fun nd H vs Q E hr h=>?_
 ·obtain⟨a,n,d,b,rfl,_⟩:=h;rfl
 obtain⟨a,n,d,b,rfl,hS,h0,q⟩:=h;exists⟨_,(Af (An (HB Ba (Ai Hf (Ai Lh (pxT 0) (Ai Bu (pv 1) (pxT 0))) Ah) Ah (Aq _)))),?_⟩;exists Ay hS at1 ?_;refine Ay hS at0 ?_;exists Dq h0 ?_;exists Dq (show (0:Int)<=d%n from qh d ⋯) ?_;rw[wY];exact q
theorem aH:C0 1 "on_rounds" ["turn","day"] (ACM K):=co (st:=zc) (by walk_at"g") (by walk_at"b") fun F=>ACs F
theorem N7:DG ["self","kept","made_of","words"] ["self","kept","made_of","words"] (BX HY):=by walk_at"s"
theorem Oo{ds:Array Value}(F:Kq K "__init__" "Rule.__init__" HY f fd ds):F0 1 f fd ["self","kept","made_of","words"] (Wx K Bg):=by
 refine F.ok (k:=0) N7 (fun h=>?_) fun nd H vs Q E hr h=>?_
 ·obtain⟨x,p,pm,pw,C,dx,rfl,_⟩:=h;rfl
 obtain⟨x,p,pm,pw,C,dx,rfl,hx,R,q⟩:=h;refine⟨_,(Ae (FP (pv 0) (Ed (Al Lj (pv 1) JP (Aq _)) (BJ (Aa Ah (Aa Ah Ab))) (pv 1)) (by rfl)) (Ae (FP (pv 0) (Ed (Al Lj (pv 2) JP (Aq _)) (BJ Ab) (pv 2)) (by rfl)) (Af (FP (pv 0) (Ed (Al Lj (pv 3) JP (Aq _)) (BJ (Aa Aj Ab)) (pv 3)) (by rfl))))),?_⟩
 symm;symm;exists⟨rfl,fP (CW (fun e=>nomatch e) ?_)⟩;exists⟨x,C,dx,[],rfl,hx,R.cl,R.k,nofun,?_⟩;symm;exists⟨rfl,fP (CW (fun e=>nomatch e) ?_)⟩;exists⟨x,C,dx,_,rfl,Ao,R.cl,R.m,(show 1<1000 by decide),?_⟩;symm;exists⟨rfl,fP (CW (fun e=>nomatch e) ?_)⟩;exists⟨x,C,dx,_,rfl,Ao,R.cl,R.w,(show 2<1000 by decide),?_⟩;refine q _ (fun y o ne e=>?_) Ao;rw[BP ne,BP ne,BP ne];exact e
theorem Bp:ABg P w K mg base 1 "Rule" ["self","kept","made_of","words"] (Wx K Bg):=ql (st:=HY) (ds:= #[.none,.none,.none]) gX gG (by walk_at"k") (by walk_at"k") (by walk_at"k") (by walk_at"db") (fun _ _ _ _ _ _ _ us hl=>by obtain⟨_,_,_,_,rfl⟩:=ACy hl;exact⟨_,rfl,rfl⟩) Oo
theorem W6:DG ["self"] ["self"] (BX J1):=by walk_at"s"
theorem Xn{k d:Nat}(F:Fun K "turn" "Rule.turn" J1 f fd)(cr:Hz P w K mg base CX0 k "turn" ["self"] (CL.map fun C=>(C,(spR (Ku K Bg CL)) d)))(hk:1<=k):F0 (k+1) f fd ["self"] ((spR (Ku K Bg CL)) (d+1)):=by
 refine F.ok (k:=k) W6 (fun h=>?_) fun nd H vs Q E hr h=>?_
 ·obtain⟨_,x,n,b,rfl,_⟩:=h;rfl
 obtain⟨_,x,n,b,rfl,R,q⟩:=h;obtain⟨C,dx,p,pm,pw,hC,rc,hx,hp⟩:=R.ex;exists⟨_,(Af (An (Bq (pv 0) (by rfl)))),?_⟩;exact⟨x,C,dx,_,_,rfl,hx,rc.cl,rc.k,rfl,q p hp⟩
theorem CG:Hz P w K mg base CX0 2 "turn" ["self"] (CL.map fun C=>(C,(spR (Ku K Bg CL)) 1)):=Rx (k0:=1) (Cs:=CL) (sp:=(spR (Ku K Bg CL))) (st:=J1) (all_cons ⟨V7,by walk_at"h"⟩ (all_cons ⟨Zr,by walk_at"h"⟩ (all_cons ⟨Te,by walk_at"h"⟩ (all_cons ⟨Px,by walk_at"h"⟩ (all_cons ⟨V4,by walk_at"h"⟩ (all_cons ⟨Tg,by walk_at"h"⟩ (all_cons ⟨M6,by walk_at"h"⟩ (all_cons ⟨V6,by walk_at"h"⟩ (all_cons ⟨M3,by walk_at"h"⟩ (all_cons ⟨Pr,by walk_at"h"⟩ (all_cons ⟨TY,by walk_at"h"⟩ (all_cons ⟨Pq,by walk_at"h"⟩ (all_cons ⟨Td,by walk_at"h"⟩ (all_cons ⟨Tc,by walk_at"h"⟩ (all_cons ⟨V5,by walk_at"h"⟩ (all_cons ⟨Pu,by walk_at"h"⟩ all_nil)))))))))))))))) (by walk_at"b") (fun _ _ _ _ h=>Yo h) (fun d _ _ CL F=>Xn F CL (jb5 _ _)) 1
theorem bH:DG ["self","day"] ["self","day"] (BX Oa):=by walk_at"s"
theorem cO{k d:Nat}(F:Fun K "on" "Rule.on" Oa f fd)(cr:Hz P w K mg base CX0 k "on" ["self","day"] (CL.map fun C=>(C,(spR (eX K Bg CL)) d)))(hk:2<=k):F0 (k+1) f fd ["self","day"] ((spR (eX K Bg CL)) (d+1)):=by
 refine F.ok (k:=k) bH (fun h=>?_) fun nd H vs Q E hr h=>?_
 ·obtain⟨_,x,n,d,b,rfl,_⟩:=h;rfl
 obtain⟨_,x,n,d,b,rfl,R,q⟩:=h;obtain⟨C,dx,p,pm,pw,hC,rc,hx,hp⟩:=R.ex;exists⟨_,(Af (An (Ag aH (Aa (Bq (pv 0) (by rfl)) (Aa (pv 1) Ab))))),?_⟩;exists⟨x,C,dx,_,_,rfl,hx,rc.cl,rc.k,rfl,?_⟩;exact⟨p,n,d,b,rfl,SqT.of hp,R.n0,q⟩
theorem qt:Hz P w K mg base CX0 3 "on" ["self","day"] (CL.map fun C=>(C,(spR (eX K Bg CL)) 1)):=Rx (k0:=2) (Cs:=CL) (sp:=(spR (eX K Bg CL))) (st:=Oa) (all_cons ⟨V7,by walk_at"h"⟩ (all_cons ⟨Zr,by walk_at"h"⟩ (all_cons ⟨Te,by walk_at"h"⟩ (all_cons ⟨Px,by walk_at"h"⟩ (all_cons ⟨V4,by walk_at"h"⟩ (all_cons ⟨Tg,by walk_at"h"⟩ (all_cons ⟨M6,by walk_at"h"⟩ (all_cons ⟨V6,by walk_at"h"⟩ (all_cons ⟨M3,by walk_at"h"⟩ (all_cons ⟨Pr,by walk_at"h"⟩ (all_cons ⟨TY,by walk_at"h"⟩ (all_cons ⟨Pq,by walk_at"h"⟩ (all_cons ⟨Td,by walk_at"h"⟩ (all_cons ⟨Tc,by walk_at"h"⟩ (all_cons ⟨V5,by walk_at"h"⟩ (all_cons ⟨Pu,by walk_at"h"⟩ all_nil)))))))))))))))) (by walk_at"b") (fun _ _ _ _ h=>Yo h) (fun d _ _ CL F=>cO F CL (jb5 _ _)) 1
theorem Ug:CI0 3 "All" WP ["self"] (ACU K Bg CL WP 1):=by
 refine ci' ["self"] Ru fun nd H vs Q E hr h=>?_;obtain⟨x,rfl,⟨dx,hx⟩,q⟩:=h;exists⟨_,(Af (Be (Dp Bp (Aa (pv 0) (Aa (BJ (Aa Ah (Aa Ah Ab))) (Aa (BJ Ab) (Aa (BJ (Aa Aj Ab)) Ab))))))),?_⟩;refine⟨DQ,fun p hp=>?_⟩;refine fresh hp fun H1 s1 t1=>?_;have t1:H1 p=some (.tup [.int 1,.int ((1:Nat):Int)]):=t1;symm;refine⟨(by show 0<=sizeLine;decide),fun pm hpm=>?_⟩;exists fresh hpm fun H2 s2 t2=>?_;refine⟨(by show 1<=sizeLine;decide),fun pw hpw=>?_⟩;refine fresh hpw fun H3 s3 t3=>?_;have s3:=s2.trans s3;have hx3:=(s1.trans s3) _ _ hx;symm;exact⟨x,p,pm,pw,WP,dx,rfl,hx3,V3,fun H' k e=>q _ H' (k.pre (s1.trans s3)) (Fy (qv (i:=0) rfl) V3 hx3 (s3 _ _ t1) k e nofun nofun nofun) rfl⟩
theorem VN:CI0 3 "No" lK ["self"] (ACU K Bg CL lK 0):=by
 refine ci' ["self"] U9 fun nd H vs Q E hr h=>?_;obtain⟨x,rfl,⟨dx,hx⟩,q⟩:=h;exists⟨_,(Af (Be (Dp Bp (Aa (pv 0) (Aa (BJ (Aa Ah (Aa Ah Ab))) (Aa (BJ Ab) (Aa (BJ (Aa Aj Ab)) Ab))))))),?_⟩;refine⟨DQ,fun p hp=>?_⟩;refine fresh hp fun H1 s1 t1=>?_;have t1:H1 p=some (.tup [.int 1,.int ((0:Nat):Int)]):=t1;symm;refine⟨(by show 0<=sizeLine;decide),fun pm hpm=>?_⟩;exists fresh hpm fun H2 s2 t2=>?_;refine⟨(by show 1<=sizeLine;decide),fun pw hpw=>?_⟩;refine fresh hpw fun H3 s3 t3=>?_;have s3:=s2.trans s3;have hx3:=(s1.trans s3) _ _ hx;symm;exact⟨x,p,pm,pw,lK,dx,rfl,hx3,Zq,fun H' k e=>q _ H' (k.pre (s1.trans s3)) (Fy (qv (i:=1) rfl) Zq hx3 (s3 _ _ t1) k e nofun nofun nofun) rfl⟩
theorem Pz:C0 1 "each_text" ["step","rest"] ACV:=by
 refine co' ["step","rest","least_rest"] ZK fun nd H vs Q E hr h=>?_;obtain⟨n,r,rfl,n0,n1,q⟩:=h;refine⟨_,(Ae (Am 2 (Ai Bu (pv 1) (pv 0))) (Af (An (JQ (DW Aj (DW (JR hr.toN (pv 0)) (DW Aj (DW (JR hr.toN (pv 2)) Lf)))))))),?_⟩
 symm;have m0:=qh r (show n≠0 by lia);have m1:=qg r (show 0<n by lia);have g1:n.natAbs.log2<1920:=AAi ⋯ ⋯;have g2:(r%n).natAbs.log2<1920:=AAi ⋯ ⋯;refine Jm 0 nofun nofun fun l1=>PP _ l1 nofun rfl g1 fun l2=>Jm _ l2 nofun fun l3=>PP _ l3 nofun rfl g2 fun l4=>JH (fits l4 nofun) ?_;refine q _ ?_;rw[KJ,KJ,KJ,KJ];have e0:Str.empty.length=0:=∅;have e1:(Str.ofString "each ").length=5:=∅;have e2:(Str.ofString " from ").length=6:=∅;have e3:=KY g1;have e4:=KY g2;lia
theorem Qw:CI0 3 "Each" O7 ["self","size","rest"] (ACS K Bg CL O7):=by
 refine ci' ["self","size","rest","kept"] Qg fun nd H vs Q E hr h=>?_;obtain⟨x,n,r,rfl,n0,n1,⟨dx,hx⟩,q⟩:=h;refine⟨_,(Ae (Am 3 (Ag Ja (Aa (pv 1) (Aa (Fq (Aa (pv 2) Ab)) Ab)))) (Af (Be (Dp Bp (Aa (pv 0) (Aa (pv 3) (Aa (BJ Ab) (Aa (BJ (Aa (Ag Pz (Aa (pv 1) (Aa (pv 2) Ab))) Ab)) Ab)))))))),?_⟩
 symm;refine⟨(by show 1<=sizeLine;decide),fun l hl=>?_⟩;refine fresh hl fun H0 s0 t0=>?_;have t0:H0 l=some (.lst ([r].map V.int)):=t0;symm;refine⟨l,[r],n,rfl,SqL.of t0,⋯,⋯,fun p b H1 s1 t1 B=>?_⟩;have s1:=s0.trans s1;symm;refine⟨(by show 0<=sizeLine;decide),fun pm hpm=>?_⟩;exists fresh hpm fun H2 s2 t2=>?_;exists⟨n,r,rfl,n0,n1,fun z hz=>?_⟩;refine⟨(by show 1<=sizeLine;decide),fun pw hpw=>?_⟩;refine fresh hpw fun H3 s3 t3=>?_;have s3:=s2.trans s3;have hx3:=(s1.trans s3) _ _ hx;symm;exact⟨x,p,pm,pw,O7,dx,rfl,hx3,TX,fun H' k e=>q _ H' (k.pre (s1.trans s3)) (Fy (qv (i:=2) rfl) TX hx3 (s3 _ _ t1) k e ⋯ ⋯ B.lt) B⟩
theorem LK:C0 1 "wanted_text" ["number"] ACH:=by
 refine co' ["number"] Ut fun nd H vs Q E hr h=>?_;obtain⟨m,rfl,hm,q⟩:=h;refine⟨_,(Af (An (Ed (Al Lj (pv 0) JP (Aq _)) Aj (BZ BV rfl Dr qq (Aa (pv 0) Ab))))),?_⟩;cases m with
 | none=>
  symm
  try refine Rz ?_
  symm;exists⟨rfl,?_⟩;exists Gw ?_;exact q _ ∅
 | some j=>
  rw[show oI (some j)=V.int j from rfl];symm
  try refine Rz ?_
  symm;exists⟨rfl,?_⟩;exists Fz ?_;exact⟨_,rfl,hm j rfl,q _ (KY (hm j rfl))⟩
theorem YH:C0 2 "dated_text" ["name","month","day","step","rest"] ACW:=by
 refine co' ["name","month","day","step","rest","words"] XJ (len:=by intro _ _ _ _ h;obtain⟨z,m,d,rfl,_⟩:=h;cases m<;>cases d<;>rfl) fun nd H vs Q E hr h=>?_;obtain⟨z,m,d,rfl,tzl,hm,hd,q⟩:=h;refine⟨_,(Ae (Am 5 (Fq (Aa Aj (Aa (pv 0) (Aa (Ag LK (Aa (pv 1) Ab)) (Aa (Ag LK (Aa (pv 2) Ab)) Ab)))))) (Ae (Ff (BK (Al Ft (pv 3) Ah (Aq _)) (Af (Be (GR vk jl4 jl5 Kw (pv 5) (Aa (Ag Pz (Aa (pv 3) (Aa (pv 4) Ab))) Ab)))) Ar)) (Af (An (GR vc PySem.F.slot_str_join PySem.F.type_str_join gB Aj (Aa (pv 5) Ab)))))),?_⟩
 symm;exists⟨m,rfl,hm,fun z1 t1l=>?_⟩;exists⟨d,rfl,hd,fun z2 t2l=>?_⟩;refine⟨four,fun l hl=>?_⟩;refine fresh hl fun H1 s1 e1=>?_;have e1:H1 l=some (.lst (([Str.ofString "date",z,z1,z2]:List Str).map V.str)):=e1;symm;have eb:(Str.ofString " ").length=1:=∅;have e4:(Str.ofString "date").length=4:=∅;refine FN (fun Z' H'=>H'=H1/\Ex5 fun(w0 w1 w2 w3 w4:V)=>Z'=[some w0,some w1,some w2,some w3,some w4,some (.ref l)]) ?_ ?_
 ·symm;exists CW nofun ?_;exact⟨rfl,_,_,_,_,_,rfl⟩
 rintro Z' H2 ⟨rfl,w0,w1,w2,w3,w4,rfl⟩;symm;exists Jo ?_;exists⟨rfl,?_⟩;refine⟨_,l,_,rfl,rfl,SqL.of e1,?_,q _ _ s1⟩;rw[eb];show((Str.ofString "date").length+(z.length+(z1.length+(z2.length+0))))+4*1<=_;lia
theorem MP:DG ["self","name","calendar","month","day","step","rest","kept"] ["self","name","calendar","month","day","step","rest"] (BX G3):=by walk_at"s"
theorem Mu{ds:Array Value}(F:Kq K "__init__" "Dated.__init__" G3 f fd ds):F0 6 f fd ["self","name","calendar","month","day","step","rest"] (xU K Bg CL Jh Br Bh Aw):=by
 refine F.ok (k:=5) MP (fun h=>?_) fun nd H vs Q E hr h=>?_
 ·obtain⟨x,y,z,g,m,d,rfl,_⟩:=h;cases m<;>cases d<;>rfl
 obtain⟨x,y,z,g,m,d,rfl,tz,S,sm,m0,hm,d0,hd,⟨dx,hx⟩,q⟩:=h;refine⟨_,(Ae (Am 7 (Ag wO (Aa (pv 2) (Aa (pv 3) (Aa (pv 4) (Aa (pv 5) (Aa (pv 6) Ab))))))) (Af (Be (Dp Bp (Aa (pv 0) (Aa (pv 7) (Aa (BJ Ab) (Aa (BJ (Aa (Ag YH (Aa (pv 1) (Aa (pv 3) (Aa (pv 4) (Aa (pv 5) (Aa (pv 6) Ab)))))) Ab)) Ab)))))))),?_⟩
 symm;exists⟨y,g,m,d,rfl,S,sm,m0,d0,fun p c H1 s1 t1 B=>?_⟩;refine⟨(by show 0<=sizeLine;decide),fun pm hpm=>?_⟩;exists fresh hpm fun H2 s2 t2=>?_;exists⟨z,m,d,rfl,tz,hm,hd,fun zt Hy sy=>?_⟩;refine⟨(by show 1<=sizeLine;decide),fun pw hpw=>?_⟩;refine fresh hpw fun H3 s3 t3=>?_;have s3:=sy.trans s3;have s3:=s2.trans s3;have hx3:=(s1.trans s3) _ _ hx;symm;exact⟨x,p,pm,pw,Jh,dx,rfl,hx3,Pn,fun H' k e=>q _ H' (k.pre (s1.trans s3)) (Fy (qv (i:=3) rfl) Pn hx3 (s3 _ _ t1) k e (by have:=sm.d0;lia) (by have:=sm.d1;lia) B.lt) B⟩
theorem O8:CI0 6 "Dated" Jh ["self","name","calendar","month","day","step","rest"] (xU K Bg CL Jh Br Bh Aw):=Tq (st:=G3) (ds:= #[.none,.none,(.int 1 Jx),(.int 0 Jw)]) gX gG (by walk_at"k") (by walk_at"k") (by walk_at"k") (by walk_at"dm") (fun _ _ _ _ _ _ _ us hl=>by obtain⟨_,_,_,_,_,_,_,rfl⟩:=ACx hl;exact⟨_,rfl,rfl⟩) Mu
theorem UW:CI0 3 "Not" WM ["self","R"] (ACT K Bg CL WM):=by
 refine ci' ["self","R"] Rn fun nd H vs Q E hr h=>?_;obtain⟨x,r,n,b,rfl,R,⟨dx,hx⟩,q⟩:=h;exists⟨_,(Af (Be (Dp Bp (Aa (pv 0) (Aa (Ag Jc (Aa (CK CG (pv 1)) Ab)) (Aa (BJ (Aa (pv 1) Ab)) (Aa (BJ (Aa Aj (Aa Aj Ab))) Ab))))))),?_⟩;obtain⟨C,dr,fs,m,hr,l1,_⟩:=R.mt;exists⟨r,C,dr,fs,_,m _,rfl,hr,l1,?_⟩;exists⟨jg8,r,n,b,rfl,R,fun p hp=>?_⟩;refine⟨p,n,b,rfl,SqT.of hp,R.n0,R.n1,R.lt,fun p2 c hp2 hc hbit=>?_⟩;exists fresh hp2 fun H1 s1 t1=>?_;refine⟨(by show 1<=sizeLine;decide),fun pm hpm=>?_⟩;exists fresh hpm fun H2 s2 t2=>?_;refine⟨DQ,fun pw hpw=>?_⟩;refine fresh hpw fun H3 s3 t3=>?_;have s3:=s2.trans s3;have hx3:=(s1.trans s3) _ _ hx;symm;exact⟨x,p2,pm,pw,WM,dx,rfl,hx3,V1,fun H' k e=>q _ H' (k.pre (s1.trans s3)) (Fy (qv (i:=4) rfl) V1 hx3 (s3 _ _ t1) k e R.n0 R.n1 hc) ⟨hc,hbit⟩⟩
theorem Qy:CI0 6 "Both" Ue ["self","R","S"] (MN K Bg CL Ue (Bo and)):=by
 refine ci' ["self","R","S"] Qi fun nd H vs Q E hr h=>?_;obtain⟨x,r,t,n1,n2,b1,b2,rfl,R1,R2,lz,⟨dx,hx⟩,q⟩:=h;refine⟨_,(Af (Be (Dp Bp (Aa (pv 0) (Aa (Ag Kg (Aa (CK CG (pv 1)) (Aa (CK CG (pv 2)) Ab))) (Aa (BJ (Aa (pv 1) (Aa (pv 2) Ab))) (Aa (BJ (Aa Aj (Aa Aj (Aa Aj Ab)))) Ab))))))),?_⟩;exact in2 (by walk_at"mm") R1 R2 lz q hx dG
theorem Ng:CI0 6 "Either" Km ["self","R","S"] (MN K Bg CL Km (Bo or)):=by
 refine ci' ["self","R","S"] Mi fun nd H vs Q E hr h=>?_;obtain⟨x,r,t,n1,n2,b1,b2,rfl,R1,R2,lz,⟨dx,hx⟩,q⟩:=h;refine⟨_,(Af (Be (Dp Bp (Aa (pv 0) (Aa (Ag Tw (Aa (CK CG (pv 1)) (Aa (CK CG (pv 2)) Ab))) (Aa (BJ (Aa (pv 1) (Aa (pv 2) Ab))) (Aa (BJ (Aa Aj (Aa Aj (Aa Aj Ab)))) Ab))))))),?_⟩;exact in2 (by walk_at"mm") R1 R2 lz q hx X6
theorem Ud:CI0 7 "But" aP ["self","R","S"] (MN K Bg CL aP (Bo bn)):=by
 refine ci' ["self","R","S"] Rt fun nd H vs Q E hr h=>?_;obtain⟨x,r,t,n1,n2,b1,b2,rfl,R1,R2,lz,⟨dx,hx⟩,q⟩:=h;refine⟨_,(Af (Be (Dp Bp (Aa (pv 0) (Aa (Ag Ow (Aa (CK CG (pv 1)) (Aa (CK CG (pv 2)) Ab))) (Aa (BJ (Aa (pv 1) (Aa (pv 2) Ab))) (Aa (BJ (Aa Aj (Aa Aj (Aa Aj Ab)))) Ab))))))),?_⟩;exact in2 (by walk_at"mm") R1 R2 lz q hx kE
theorem NQ:CI0 6 "Unlike" Kl ["self","R","S"] (MN K Bg CL Kl (Bo xor)):=by
 refine ci' ["self","R","S"] Mf fun nd H vs Q E hr h=>?_;obtain⟨x,r,t,n1,n2,b1,b2,rfl,R1,R2,lz,⟨dx,hx⟩,q⟩:=h;refine⟨_,(Af (Be (Dp Bp (Aa (pv 0) (Aa (Ag Z6 (Aa (CK CG (pv 1)) (Aa (CK CG (pv 2)) Ab))) (Aa (BJ (Aa (pv 1) (Aa (pv 2) Ab))) (Aa (BJ (Aa Aj (Aa Aj (Aa Aj Ab)))) Ab))))))),?_⟩;exact in2 (by walk_at"mm") R1 R2 lz q hx X5
theorem Qs:CI0 8 "Upon" UL ["self","R","S"] (MN K Bg CL UL (WR (UpJ 1))):=by
 refine ci' ["self","R","S"] Qa fun nd H vs Q E hr h=>?_;obtain⟨x,r,t,n1,n2,b1,b2,rfl,R1,R2,lz,⟨dx,hx⟩,q⟩:=h;refine⟨_,(Af (Be (Dp Bp (Aa (pv 0) (Aa (Ag dN (Aa (CK CG (pv 1)) (Aa (CK CG (pv 2)) Ab))) (Aa (BJ (Aa (pv 1) (Aa (pv 2) Ab))) (Aa (BJ (Aa Aj (Aa Aj (Aa Aj Ab)))) Ab))))))),?_⟩;exact in2 (by walk_at"mm") R1 R2 lz q hx dC
theorem O3:CI0 8 "Until" NK ["self","R","S"] (MN K Bg CL NK (WR (UpJ (-1)))):=by
 refine ci' ["self","R","S"] OD fun nd H vs Q E hr h=>?_;obtain⟨x,r,t,n1,n2,b1,b2,rfl,R1,R2,lz,⟨dx,hx⟩,q⟩:=h;refine⟨_,(Af (Be (Dp Bp (Aa (pv 0) (Aa (Ag YC (Aa (CK CG (pv 1)) (Aa (CK CG (pv 2)) Ab))) (Aa (BJ (Aa (pv 1) (Aa (pv 2) Ab))) (Aa (BJ (Aa Aj (Aa Aj (Aa Aj Ab)))) Ab))))))),?_⟩;exact in2 (by walk_at"mm") R1 R2 lz q hx Zo
theorem Qu:CI0 10 "Near" Ua ["self","R","S"] (MN K Bg CL Ua (WR NrU)):=by
 refine ci' ["self","R","S"] Qd fun nd H vs Q E hr h=>?_;obtain⟨x,r,t,n1,n2,b1,b2,rfl,R1,R2,lz,⟨dx,hx⟩,q⟩:=h;refine⟨_,(Af (Be (Dp Bp (Aa (pv 0) (Aa (Ag ABM (Aa (CK CG (pv 1)) (Aa (CK CG (pv 2)) Ab))) (Aa (BJ (Aa (pv 1) (Aa (pv 2) Ab))) (Aa (BJ (Aa Aj (Aa Aj (Aa Aj Ab)))) Ab))))))),?_⟩;exact in2 (by walk_at"mm") R1 R2 lz q hx dF
theorem Qt:CI0 8 "Till" UT ["self","R","S"] (MN K Bg CL UT (WR TiU)):=by
 refine ci' ["self","R","S"] Qc fun nd H vs Q E hr h=>?_;obtain⟨x,r,t,n1,n2,b1,b2,rfl,R1,R2,lz,⟨dx,hx⟩,q⟩:=h;refine⟨_,(Af (Be (Dp Bp (Aa (pv 0) (Aa (Ag qp (Aa (CK CG (pv 1)) (Aa (CK CG (pv 2)) Ab))) (Aa (BJ (Aa (pv 1) (Aa (pv 2) Ab))) (Aa (BJ (Aa Aj (Aa Aj (Aa Aj Ab)))) Ab))))))),?_⟩;exact in2 (by walk_at"mm") R1 R2 lz q hx dD
theorem O5:CI0 3 "Later" K3 ["self","number","R"] (ACQ K Bg CL K3):=by
 refine ci' ["self","number","R"] Oc fun nd H vs Q E hr h=>?_;obtain⟨x,r,num,n,b,rfl,lg,R,⟨dx,hx⟩,q⟩:=h;exists⟨_,(Af (Be (Dp Bp (Aa (pv 0) (Aa (Ag Ia (Aa (CK CG (pv 2)) (Aa (pv 1) Ab))) (Aa (BJ (Aa (pv 2) Ab)) (Aa (BJ (Aa (JQ (DW Aj (DW (JR hr.toN (pv 1)) (DW Aj Lf)))) (Aa Aj Ab))) Ab))))))),?_⟩;obtain⟨C,dr,fs,m,hr,l1,_⟩:=R.mt;exists⟨r,C,dr,fs,_,m _,rfl,hr,l1,?_⟩;exists⟨jg8,r,n,b,rfl,R,fun p hp=>?_⟩;refine⟨p,n,num,b,rfl,SqT.of hp,R.n0,R.n1,R.lt,fun p2 hp2=>?_⟩;exists fresh hp2 fun H1 s1 t1=>?_;refine⟨(by show 1<=sizeLine;decide),fun pm hpm=>?_⟩;exists fresh hpm fun H2 s2 t2=>?_;refine Jm 0 nofun nofun fun l1=>PP _ l1 nofun rfl lg fun l2=>Jm _ l2 nofun fun l3=>JH (fits l3 nofun) ?_;generalize (Str.empty++Str.ofString "("++DY num++Str.ofString " later ")=zt at*
 symm;refine⟨DQ,fun pw hpw=>?_⟩;refine fresh hpw fun H3 s3 t3=>?_;have s3:=s2.trans s3;have hx3:=(s1.trans s3) _ _ hx;symm;exact⟨x,p2,pm,pw,K3,dx,rfl,hx3,Pj,fun H' k e=>q _ H' (k.pre (s1.trans s3)) (Fy (qv (i:=9) rfl) Pj hx3 (s3 _ _ t1) k e R.n0 R.n1 (KQ _ _ _)) rfl⟩
theorem Uc:CI0 9 "Kth" WN ["self","number","R","S"] (ACR K Bg CL WN):=by
 refine ci' ["self","number","R","S","kept"] Rq fun nd H vs Q E hr h=>?_;obtain⟨x,r,t,num,n1,n2,b1,b2,rfl,k0,lg,R1,R2,lz,⟨dx,hx⟩,q⟩:=h;have fl:=Bj R1.n0 R2.n0;refine⟨_,(Ae (Am 4 (Ag ADR (Aa (pv 1) (Aa (CK CG (pv 2)) (Aa (CK CG (pv 3)) Ab))))) (Af (Be (Dp Bp (Aa (pv 0) (Aa (pv 4) (Aa (BJ (Aa (pv 2) (Aa (pv 3) Ab))) (Aa (BJ (Aa (JQ (DW Aj (DW (JR hr.toN (pv 1)) (DW Aj Lf)))) (Aa Aj (Aa Aj Ab)))) Ab)))))))),?_⟩
 symm;obtain⟨C,dr,fs,m,hr,l1,_⟩:=R1.mt;exists⟨r,C,dr,fs,_,m _,rfl,hr,l1,?_⟩;exists⟨jg8,r,n1,b1,rfl,R1,fun p hp=>?_⟩;obtain⟨C',dr',fs',m',hr',l1',_⟩:=R2.mt;exists⟨t,C',dr',fs',_,m' _,rfl,hr',l1',?_⟩;exists⟨jg8,t,n2,b2,rfl,R2,fun p' hp'=>?_⟩;exists⟨num,p,p',n1,n2,b1,b2,rfl,⟨SqT.of hp,SqT.of hp',R1.n0,R2.n0,R1.n1,R2.n1,R1.lt,R2.lt⟩,k0,lz,fun p2 c H1 s1 t1 lt Rr=>?_⟩;refine⟨DQ,fun pm hpm=>?_⟩;exists fresh hpm fun H2 s2 t2=>?_;refine Jm 0 nofun nofun fun l1=>PP _ l1 nofun rfl lg fun l2=>Jm _ l2 nofun fun l3=>JH (fits l3 nofun) ?_;generalize (Str.empty++Str.ofString "("++DY num++Str.ofString " of ")=zt at*
 symm;refine⟨(by show 3<=sizeLine;decide),fun pw hpw=>?_⟩;refine fresh hpw fun H3 s3 t3=>?_;have s3:=s2.trans s3;have hx3:=(s1.trans s3) _ _ hx;symm;exact⟨x,p2,pm,pw,WN,dx,rfl,hx3,V2,fun H' k e=>q _ H' (k.pre (s1.trans s3)) (Fy (qv (i:=14) rfl) V2 hx3 (s3 _ _ t1) k e fl.1 lz lt) Rr⟩
theorem O6:CI0 7 "Every" K4 ["self","number","R","day"] (ACP K Bg CL K4):=by
 refine ci' ["self","number","R","day","kept"] Od fun nd H vs Q E hr h=>?_;obtain⟨x,r,num,d0,n,b,rfl,k0,k1,nk,bd,R,⟨dx,hx⟩,q⟩:=h;have z0:0<n*num:=jv9 R.n0 ⋯;have lg:num.natAbs.log2<1920:=AAi ⋯ ⋯;have lh:d0.natAbs.log2<1920:=qz bd nofun nofun;refine⟨_,(Ae (Am 4 (Ag wN (Aa (pv 1) (Aa (CK CG (pv 2)) (Aa (pv 3) Ab))))) (Af (Be (Dp Bp (Aa (pv 0) (Aa (pv 4) (Aa (BJ (Aa (pv 2) Ab)) (Aa (BJ (Aa (JQ (DW Aj (DW (JR hr.toN (pv 1)) (DW Aj Lf)))) (Aa (JQ (DW Aj (DW (JR hr.toN (pv 3)) (DW Aj Lf)))) Ab))) Ab)))))))),?_⟩
 symm;obtain⟨C,dr,fs,m,hr,l1,_⟩:=R.mt;exists⟨r,C,dr,fs,_,m _,rfl,hr,l1,?_⟩;exists⟨jg8,r,n,b,rfl,R,fun p hp=>?_⟩;exists⟨num,d0,p,n,b,rfl,SqT.of hp,R.n0,R.n1,R.lt,bd.mono nofun,CP ⋯ ⋯ nofun,k0,nk,fun p2 c H1 s1 t1 lt B=>?_⟩;refine⟨(by show 1<=sizeLine;decide),fun pm hpm=>?_⟩;exists fresh hpm fun H2 s2 t2=>?_;refine Jm 0 nofun nofun fun l1=>PP _ l1 nofun rfl lg fun l2=>Jm _ l2 nofun fun l3=>JH (fits l3 nofun) ?_;generalize (Str.empty++Str.ofString "(every "++DY num++Str.ofString " of ")=zt at*
 symm;refine Jm 0 nofun nofun fun l1=>PP _ l1 nofun rfl lh fun l2=>Jm _ l2 nofun fun l3=>JH (fits l3 nofun) ?_;generalize (Str.empty++Str.ofString " from "++DY d0++Str.ofString ")")=zu at*
 symm;refine⟨DQ,fun pw hpw=>?_⟩;refine fresh hpw fun H3 s3 t3=>?_;have s3:=s2.trans s3;have hx3:=(s1.trans s3) _ _ hx;symm;exact⟨x,p2,pm,pw,K4,dx,rfl,hx3,Pk,fun H' k e=>q _ H' (k.pre (s1.trans s3)) (Fy (qv (i:=15) rfl) Pk hx3 (s3 _ _ t1) k e z0 nk lt) B⟩
theorem NZ:CI0 1 "Reader" Bd ["self","words"] (uG Bd):=by
 refine ci' ["self","words"] Mg fun nd H vs Q E hr h=>?_;obtain⟨x,dx,l,ws,rfl,hx,hl,wl,wo,q⟩:=h;have lx:l≠x:=Hh hl hx (by intro z;cases z);refine⟨_,(Ae (FP (pv 0) (BZ Il rfl Wi jm8 (Aa (pv 1) Ab)) (by rfl)) (Af (FP (pv 0) Ah (by rfl)))),?_⟩
 symm;refine⟨l,_,rfl,.inl ⟨SqL.of hl,fun p hp=>?_⟩⟩;have px:x≠p:=Bx hx hp;exists fresh hp fun H1 s1 t1=>?_;refine⟨x,Bd,dx,[],rfl,s1 _ _ hx,Bk,Gh,nofun,?_⟩;exists AAH fun H2 k2 x2=>?_;refine⟨x,Bd,dx,_,rfl,x2,Bk,Du,(by show 1<1000;decide),?_⟩;exists AAH fun H3 k3 x3=>?_;exact q H3 (fun y o hy e=>k3 y o hy (k2 y o hy (s1 _ _ e))) ⟨p,ws,0,⟨⟨dx,x3⟩,k3 _ _ (Ne.symm px) (k2 _ _ (Ne.symm px) t1),wl,wo⟩,rfl⟩
theorem Ga:CM0 1 Bd "peek" ["self"] (zL Bd):=by
 refine cm' ["self"] U8 fun nd H vs Q E hr h=>?_;obtain⟨x,_,rfl,⟨p,ws,k,R,rfl⟩,q⟩:=h;obtain⟨dx,hx⟩:=R.ex;exists⟨_,(Af (An (Ed (Al Ew (Bq (pv 0) (by rfl)) (BW Bl rfl Ds xi (Aa (Bq (pv 0) (by rfl)) Ab)) (Aq _)) (Eu Lr (Bq (pv 0) (by rfl)) (Bq (pv 0) (by rfl)) (fun _ _=>rfl)) Aj))),?_⟩;exists⟨x,Bd,dx,_,_,rfl,hx,Bk,Du,rfl,?_⟩;exists⟨x,Bd,dx,_,_,rfl,hx,Bk,Gh,rfl,?_⟩;refine⟨p,_,rfl,.inr (SqT.of R.tp),?_⟩;rw[js];symm;refine Ca (fun c=>?_) (fun c=>?_)
 ·symm;exists⟨x,Bd,dx,_,_,rfl,hx,Bk,Gh,rfl,?_⟩;exists⟨x,Bd,dx,_,_,rfl,hx,Bk,Du,rfl,?_⟩;have kl:k<ws.length:=⋯
  rw[ja9 kl] at q;exact Ay (SqT.of R.tp) (Dw (by rw[xo,qm kl];rfl)) q
 ·rw[uu ⋯] at q;symm;exact q
theorem Cr:CM0 2 Bd "take" ["self"] (zE Bd):=by
 refine cm' ["self","word"] U7 fun nd H vs Q E hr h=>?_;obtain⟨x,r,rfl,R,q⟩:=h;obtain⟨p,ws,k,S,e⟩:=id R;obtain⟨dx,hx⟩:=S.ex;refine⟨_,(Ae (Am 1 (Cv Ga Bk (pv 0))) (Ae (FP (pv 0) (Ai Bv (Bq (pv 0) (by rfl)) Ah) (by rfl)) (Af (An (pv 1))))),?_⟩
 symm;exists⟨x,dx,_,rfl,hx,rfl,?_⟩;exists⟨x,r,rfl,R,?_⟩;exists⟨x,Bd,dx,_,_,rfl,hx,Bk,Du,rfl,?_⟩;refine⟨x,Bd,dx,_,rfl,hx,Bk,Du,(by show 2<1000;decide),?_⟩;exists AAH fun H2 k2 x2=>?_;exact q H2 k2 ⟨p,ws,k+1,⟨⟨dx,x2⟩,k2 _ _ (Hh S.tp hx (by intro z;cases z)) S.tp,S.ln,S.ok⟩,by rw[<-e,List.tail_drop]⟩
theorem WK:C0 1 "is_name" ["text"] zT:=by
 refine co' ["text"] jO fun nd H vs Q E hr h=>?_;obtain⟨z,rfl,hz,q⟩:=h;refine⟨_,(Af (An (Sd (Mm J6 J6 Ah (BW Eh rfl Ds xi (Aa (pv 0) Ab)) (CN rfl Sx (Cz _ _))) (Xf (BW (Tp rfl) rfl lU jo8 (Aa (Fi rfl (Gj ["text"] rfl ∅ rfl ∅ rfl ∅ ∅) (oX (pv 0)) (fun _ _ _ _=>Ec) (fun _ _ _ _=>(HB Vo (pv 0) (CN rfl ji (fH _ _)) (by rfl)))) Ab)))))),?_⟩;have zl:(cpl z).length=z.length:=Et _;symm;exists⟨z,rfl,hz.fit,?_⟩;have no:¬Jl (cpl z)->∀H',BR H H'->Q (.bl false) H':=fun n H' s'=>q false H' s' ⟨fun z=>(nomatch z),fun z=>absurd z n⟩;by_cases c1:1<=((z.length:Nat):Int)
 rotate_left
 ·refine CW c1 ?_;refine⟨_,rfl,Fz ?_⟩;exact no (fun N=>by have:=N.lo;lia) _ (BR.refl _)
 exists Hn c1 ?_;by_cases c2:((z.length:Nat):Int)<=8
 rotate_left
 ·rw[decide_eq_false c2];refine Fz ?_;exact no (fun N=>by have:=N.hi;lia) _ (BR.refl _)
 rw[decide_eq_true c2];exists Gw ?_;exists Fx (oH ?_);refine⟨_,rfl,hz.asc,?_⟩;refine IW aY ?_ (fun _ _ _=>trivial) (fun _=>true) (fun v=>match v with | .str y=>.bl (decide (97<=(cpl y).headD 0/\(cpl y).headD 0<=122)) | _=>.non) (fun x hx D ys Q' hD h=>h) (fun x hx _ D ys Q' hD h=>?_) (fun D hD=>?_)
 ·rw[js];exact Dz (by have:z.cps.toList.length=z.length:=zl;lia)
 ·obtain⟨c,hc,rfl⟩:=yv.mp hx;symm;refine⟨_,_,rfl,rfl,?_⟩;rw[AAu];exact h
 have e:((z.cps.toList.map Vg).filter fun _=>true).map (fun v=>match v with | .str y=>V.bl (decide (97<=(cpl y).headD 0/\(cpl y).headD 0<=122)) | _=>.non)=((cpl z).map fun c=>decide (97<=c/\c<=122)).map V.bl:=by
  rw[jd1.mpr (fun _ _=>rfl),ua,ua];rfl
 rw[e];exists fresh hD fun H1 s1 t1=>?_;refine⟨D,_,rfl,SqL.of t1,?_⟩;refine q _ _ s1 ?_;rw[jr8,jb2];exact⟨fun h=>⟨⋯,⋯,fun c hc=>by simpa using h c hc⟩,fun N c hc=>by simpa using N.ch c hc⟩
theorem La:C0 1 "is_readable" ["text"] Ww:=by
 refine co' ["text"] U3 fun nd H vs Q E hr h=>?_;obtain⟨z,rfl,hz,zl,q⟩:=h;exists⟨_,(Af (An (Sd (BW Tn rfl JC jj5 (Aa (pv 0) (Aa (Xg rfl Dr qq (bh _)) Ab))) (Xf (HB J6 (BW Eh rfl Ds xi (Aa (pv 0) Ab)) (CN rfl Xr (Cz _ _)) (Aq _)))))),?_⟩;exists bw (.txt z hz) ?_;exists Gw ?_;exists⟨z,rfl,hz.fit,?_⟩;have:decide ((z.length:Int)<=4000)=true:=by
  rw[decide_eq_true_eq];lia
 rw[this];exact q
theorem Kf:C0 1 "is_number" ["text"] uF:=by
 refine co' ["text","figures"] ZG fun nd H vs Q E hr h=>?_;obtain⟨z,rfl,hz,q⟩:=h;refine⟨_,(Ae (Am 1 (Ed (Gq (GR vc PySem.F.slot_str_startswith PySem.F.type_str_startswith VF (pv 0) (Aa Aj Ab))) (Cu W3 (pv 0) (DR Ah) Eb) (pv 0)))
  (Ae (BK (PW.pt (Hr (Al Ew (BW Eh rfl Ds xi (Aa (pv 1) Ab)) Ah (Aq _)) (Gp (Al Ft (BW Eh rfl Ds xi (Aa (pv 1) Ab)) (CN rfl Sy (Cz _ _)) (Aq _)))))
   (Af (An Vm))
   Ar)
  (Ae (BK (Al Ba (Eu pZ (pv 1) Ah) Aj (Aq _))
   (Af (An (HB Ba (pv 0) Aj (Aq _))))
   Ar)
  (Af (An (BW (Tp rfl) rfl lU jo8 (Aa (Fi rfl (Gj ["text","figures"] rfl ∅ rfl ∅ rfl ∅ ∅) (oX (pv 1)) (fun _ _ _ _=>Ec) (fun _ _ _ _=>(HB Vo (pv 0) (CN rfl jj (fH _ _)) (by rfl)))) Ab))))))),?_⟩
 symm;exists⟨rfl,?_⟩;refine⟨z,_,rfl,rfl,?_⟩;rw[Ws (.inr trivial)];symm;refine Ca (fun hm=>?_) (fun hm=>?_)
 ·symm;have l1:1<=z.length:=by
   rw[<-Et];cases h:cpl z with
   | nil=>rw[h] at hm;cases hm
   | cons a r=>simp
  refine⟨z,rfl,hz.fit,?_⟩;have hy:TOk (Txt.slice z (some 1) none):=hz.slice _ _;have ey:cpl (Txt.slice z (some 1) none)=HQ (cpl z):=by
   rw[PN l1];unfold HQ;rw[xp hm]
  generalize Txt.slice z (some 1) none=y at hy ey ⊢;symm;have fy:=hy.fit;have yl:(cpl y).length=y.length:=Et _;exists⟨_,rfl,fy,?_⟩;refine Ca (fun l1=>Gw ?_) (fun l1=>?_)
  ·symm;refine q _ _ (BR.refl _) ⟨(fun e=>nomatch e),fun N=>?_⟩;have:=N.lo;rw[<-ey] at this;lia
  symm;exists⟨_,rfl,fy,?_⟩;refine Ca (fun l2=>?_) (fun l2=>?_)
  ·symm;refine q _ _ (BR.refl _) ⟨(fun e=>nomatch e),fun N=>?_⟩;have:=N.hi;rw[<-ey] at this;lia
  symm;obtain⟨c0,r0,ec⟩:∃c r,cpl y=c::r:=by
   cases h:cpl y with
   | nil=>rw[h] at yl;simp at yl;lia
   | cons c r=>exact⟨c,r,rfl⟩
  refine⟨_,0,c0,rfl,rfl,fy,by rw[show y.cps.toList=c0::r0 from ec];exact Dw (j:=0) rfl,?_⟩;symm;refine Ca (fun e0=>?_) (fun e0=>?_)
  ·symm;have c48:c0=48:=by
    have e1:(⟨#[c0]⟩:Str)=Str.ofString "0":=V.str.inj e0;have e2:cpl (⟨#[c0]⟩:Str)=cpl "0":=ya cpl e1;have e3:cpl "0"=[48]:=∅;rw[e3] at e2;injection e2
   refine q _ _ (BR.refl _) ?_;rw[decide_eq_true_eq];have e3:cpl "0"=[48]:=∅;constructor
   ·intro e;have ez:cpl z=[48]:=by rw[V.str.inj e,e3]
    refine⟨?_,?_,?_,?_⟩<;>rw[ez]<;>simp[HQ]
   ·intro N;have:=N.z0 (by rw[<-ey,ec,c48];rfl);exact ya V.str (G8 (by rw[this,e3]))
  symm;exists Fx (oH ?_);refine⟨_,rfl,hy.asc,?_⟩;refine IW aY ?_ (fun _ _ _=>trivial) (fun _=>true) (fun v=>match v with | .str y=>.bl (decide (48<=(cpl y).headD 0/\(cpl y).headD 0<=57)) | _=>.non) (fun x hx D ys Q' hD h=>h) (fun x hx _ D ys Q' hD h=>?_) (fun D hD=>?_)
  ·rw[js];exact Dz (by have:y.cps.toList.length=y.length:=yl;lia)
  ·obtain⟨c,hc,rfl⟩:=yv.mp hx;symm;refine⟨_,_,rfl,rfl,?_⟩;rw[qG];exact h
  have e:((y.cps.toList.map Vg).filter fun _=>true).map (fun v=>match v with | .str y=>V.bl (decide (48<=(cpl y).headD 0/\(cpl y).headD 0<=57)) | _=>.non)=((cpl y).map fun c=>decide (48<=c/\c<=57)).map V.bl:=by
   rw[jd1.mpr (fun _ _=>rfl),ua,ua];rfl
  rw[e];symm;refine⟨D,_,rfl,SqL.of Ao,?_⟩;refine q _ _ (Av hD _) ?_;rw[jr8,jb2];constructor
  ·intro h;refine⟨by rw[<-ey];lia,by rw[<-ey];lia,fun c hc=>?_,fun h0=>?_⟩
   ·rw[<-ey] at hc;simpa using h c hc
   ·rw[<-ey,ec] at h0;injection h0 with h0;subst h0;exact absurd (by congr) e0
  ·intro N c hc;have:=N.dg c (by rw[<-ey];exact hc);simpa using this
 ·symm;have hy:=hz;have ey:cpl z=HQ (cpl z):=by
   unfold HQ;rw[xy hm]
  have fy:=hy.fit;have yl:(cpl z).length=z.length:=Et _;exists⟨_,rfl,fy,?_⟩;refine Ca (fun l1=>Gw ?_) (fun l1=>?_)
  ·symm;refine q _ _ (BR.refl _) ⟨(fun e=>nomatch e),fun N=>?_⟩;have:=N.lo;rw[<-ey] at this;lia
  symm;exists⟨_,rfl,fy,?_⟩;refine Ca (fun l2=>?_) (fun l2=>?_)
  ·symm;refine q _ _ (BR.refl _) ⟨(fun e=>nomatch e),fun N=>?_⟩;have:=N.hi;rw[<-ey] at this;lia
  symm;obtain⟨c0,r0,ec⟩:∃c r,cpl z=c::r:=by
   cases h:cpl z with
   | nil=>rw[h] at yl;simp at yl;lia
   | cons c r=>exact⟨c,r,rfl⟩
  refine⟨_,0,c0,rfl,rfl,fy,by rw[show z.cps.toList=c0::r0 from ec];exact Dw (j:=0) rfl,?_⟩;symm;refine Ca (fun e0=>?_) (fun e0=>?_)
  ·symm;have c48:c0=48:=by
    have e1:(⟨#[c0]⟩:Str)=Str.ofString "0":=V.str.inj e0;have e2:cpl (⟨#[c0]⟩:Str)=cpl "0":=ya cpl e1;have e3:cpl "0"=[48]:=∅;rw[e3] at e2;injection e2
   refine q _ _ (BR.refl _) ?_;rw[decide_eq_true_eq];have e3:cpl "0"=[48]:=∅;constructor
   ·intro e;have ez:cpl z=[48]:=by rw[V.str.inj e,e3]
    refine⟨?_,?_,?_,?_⟩<;>rw[ez]<;>simp[HQ]
   ·intro N;have:=N.z0 (by rw[<-ey,ec,c48];rfl);exact ya V.str (G8 (by rw[this,e3]))
  symm;exists Fx (oH ?_);refine⟨_,rfl,hy.asc,?_⟩;refine IW aY ?_ (fun _ _ _=>trivial) (fun _=>true) (fun v=>match v with | .str y=>.bl (decide (48<=(cpl y).headD 0/\(cpl y).headD 0<=57)) | _=>.non) (fun x hx D ys Q' hD h=>h) (fun x hx _ D ys Q' hD h=>?_) (fun D hD=>?_)
  ·rw[js];exact Dz (by have:z.cps.toList.length=z.length:=yl;lia)
  ·obtain⟨c,hc,rfl⟩:=yv.mp hx;symm;refine⟨_,_,rfl,rfl,?_⟩;rw[qG];exact h
  have e:((z.cps.toList.map Vg).filter fun _=>true).map (fun v=>match v with | .str y=>V.bl (decide (48<=(cpl y).headD 0/\(cpl y).headD 0<=57)) | _=>.non)=((cpl z).map fun c=>decide (48<=c/\c<=57)).map V.bl:=by
   rw[jd1.mpr (fun _ _=>rfl),ua,ua];rfl
  rw[e];symm;refine⟨D,_,rfl,SqL.of Ao,?_⟩;refine q _ _ (Av hD _) ?_;rw[jr8,jb2];constructor
  ·intro h;refine⟨by rw[<-ey];lia,by rw[<-ey];lia,fun c hc=>?_,fun h0=>?_⟩
   ·rw[<-ey] at hc;simpa using h c hc
   ·rw[<-ey,ec] at h0;injection h0 with h0;subst h0;exact absurd (by congr) e0
  ·intro N c hc;have:=N.dg c (by rw[<-ey];exact hc);simpa using this
theorem HR:C0 3 "take_word" ["reader","word"] (yw Bd):=by
 refine co' ["reader","word"] Yv fun nd H vs Q E hr h=>?_;obtain⟨x,z,r,rfl,R,q⟩:=h;obtain⟨dx,fs,hx,l1,_⟩:=R.ob;refine⟨_,(Af (BK (Al Gz (Cv Cr Bk (pv 0)) (pv 1) (Aq _)) (Af Bc) Ar)),?_⟩
 symm;exists⟨x,dx,_,rfl,hx,l1,?_⟩;exists⟨x,_,rfl,R,fun H1 k1 R1=>?_⟩;exists HJ (ya V.str (J2 z)) ?_;exact q H1 k1 R1
theorem Fd:C0 3 "take_number" ["reader"] (zN Bd):=by
 refine co' ["reader","word"] Uv fun nd H vs Q E hr h=>?_;obtain⟨x,n,r,rfl,R,sn,q⟩:=h;obtain⟨dx,fs,hx,l1,_⟩:=R.ob;have N:=JS sn;refine⟨_,(Ae (Am 1 (Cv Cr Bk (pv 0))) (Ae (BK (Ih (Gq (Ag Kf (Aa (pv 1) Ab)))) (Af Bc) Ar) (Af (An (BZ GX rfl YX jg2 (Aa (pv 1) Ab)))))),?_⟩
 symm;exists⟨x,dx,_,rfl,hx,l1,?_⟩;exists⟨x,_,rfl,R,fun H1 k1 R1=>?_⟩;refine⟨_,rfl,R.tk,fun v H2 s2 iv=>?_⟩;obtain rfl:=iv.mpr (show Nm (cpl (sW (nW n))) by rw[Bm];exact N.1);symm;exists Fz ?_;refine⟨_,_,rfl,?_,Ou (show Nm (cpl (sW (nW n))) by rw[Bm];exact N.1),?_⟩
 ·show(sW (nW n)).length<=_;rw[Df];have:=Er sn;lia
 ·show Q (.int (J7 (cpl (sW (nW n))))) H2;rw[Bm,N.2];exact q H2 (k1.tr (.sm s2)) (R1.same s2)
theorem LQ:C0 4 "take_wanted" ["reader"] (tL Bd):=by
 refine co' ["reader"] Uu fun nd H vs Q E hr h=>?_;obtain⟨x,m,r,rfl,R,sm,q⟩:=h;obtain⟨dx,fs,hx,l1,l2⟩:=R.ob;refine⟨_,(Ae (BK (Al Ba (Cv Ga Bk (pv 0)) Aj (Aq _)) (Ae (Be (Cv Cr Bk (pv 0))) (Af (An JP))) Ar) (Af (An (Ag Fd (Aa (pv 0) Ab))))),?_⟩
 symm;exists⟨x,dx,_,rfl,hx,l2,?_⟩;exists⟨x,_,rfl,R,?_⟩;cases m with
 | none=>
  walk_at"ew";exists⟨x,dx,_,rfl,hx,l1,?_⟩;exists⟨x,_,rfl,R,fun H1 k1 R1=>?_⟩;exact q H1 k1 R1
 | some n=>
  exists CW (Sv (sm n rfl) ⟨_,_,rfl,nofun⟩) ?_;exact⟨x,n,r,rfl,R,sm n rfl,q⟩
theorem Py:C0 4 "take_each" ["reader"] (uH Bd):=by
 refine co' ["reader","size"] Yw fun nd H vs Q E hr h=>?_;obtain⟨x,n,m,r,rfl,R,sn,sm,q⟩:=h;refine⟨_,(Ae (Am 1 (Ag Fd (Aa (pv 0) Ab))) (Ae (Be (Ag HR (Aa (pv 0) (Aa Aj Ab)))) (Af (An (BJ (Aa (pv 1) (Aa (Ag Fd (Aa (pv 0) Ab)) Ab))))))),?_⟩
 symm;exists⟨x,n,_,rfl,R,sn,fun H1 k1 R1=>?_⟩;exists⟨x,_,_,rfl,R1,fun H2 k2 R2=>?_⟩;exists⟨x,m,r,rfl,R2,sm,fun H3 k3 R3=>?_⟩;refine⟨DQ,fun a ha=>?_⟩;refine fresh ha fun H4 s4 t4=>?_;exact q a H4 (((k1.tr k2).tr k3).tr (.sm s4)) (R3.same s4) t4
theorem Z9:C0 5 "take_date" ["reader"] (uK Bd):=by
 refine co' ["reader","name","month","day","years"] Yx fun nd H vs Q E hr h=>?_;obtain⟨x,nm,m,d,y,r,rfl,R,⟨on,om,od,oy,_⟩,hh,q⟩:=h;obtain⟨dx,fs,hx,l1,_⟩:=R.ob;refine⟨_,(Ae (Am 1 (Cv Cr Bk (pv 0))) (Ae (BK (Ih (Gq (Ag WK (Aa (pv 1) Ab)))) (Af Bc) Ar) (Ae (Am 2 (Ag LQ (Aa (pv 0) Ab))) (Ae (Am 3 (Ag LQ (Aa (pv 0) Ab))) (Ae (Am 4 (BJ (Aa Ah (Aa Ah Ab)))) (Ae (Ff (BK (Al Ba (Cv Ga Bk (pv 0)) Aj (Aq _)) (Ae (Be (Cv Cr Bk (pv 0))) (Af (Am 4 (Ag Py (Aa (pv 0) Ab))))) Ar)) (Af (An (BJ (Aa Aj (Aa (pv 1) (Aa (pv 2) (Aa (pv 3) (Aa (pxT 4) (Aa (pxT 4) Ab))))))))))))))),?_⟩
 symm;exists⟨x,dx,_,rfl,hx,l1,?_⟩;exists⟨x,_,rfl,R,fun H1 k1 R1=>?_⟩;refine⟨_,rfl,R.tk,fun v H2 s2 iv=>?_⟩;obtain rfl:=iv.mpr (show Jl (cpl (sW nm)) by rw[Bm];exact on);have k2:=k1.tr (.sm s2);symm;exists Fz ?_;exists⟨x,m,_,rfl,R1.same s2,om,fun H3 k3 R3=>?_⟩;exists⟨x,d,_,rfl,R3,od,fun H4 k4 R4=>?_⟩;refine⟨DQ,fun q0 hq0=>?_⟩;refine fresh hq0 fun H5 s5 t5=>?_;have k5:=((k2.tr k3).tr k4).tr (.sm s5);have R5:=R4.same s5;symm;refine FN (fun Z' H'=>∃a:Addr,An4 (KB x H H') (Rd Bd H' x r) (H' a=some (.tup [.int (yr y).1,.int (yr y).2])) (Z'=[some (.ref x),some (.str (sW nm)),some (oI m),some (oI d),some (.ref a)])) ?_ ?_
 ·symm;obtain⟨dx,fs,hx,l1,l2⟩:=R5.ob;exists⟨x,dx,_,rfl,hx,l2,?_⟩;exists⟨x,_,rfl,R5,?_⟩;cases y with
  | none=>
   exists CW (fun z=>hh (xW.mp (z.trans (Hg "each").symm))) ?_;exact⟨q0,k5,R5,t5,rfl⟩
  | some y=>
   walk_at"ew";exists⟨x,dx,_,rfl,hx,l1,?_⟩;exists⟨x,_,rfl,R5,fun H6 k6 R6=>?_⟩;exists⟨x,y.1,y.2,r,rfl,R6,(oy y rfl).1,(oy y rfl).2.1,fun a H7 k7 R7 t7=>?_⟩;exact⟨a,(k5.tr k6).tr k7,R7,t7,rfl⟩
 rintro Z' H6 ⟨a,k6,R6,t6,rfl⟩;symm;exists Ay (SqT.of t6) at0 ?_;exists Ay (SqT.of t6) at1 ?_;refine⟨(by show 6<=sizeLine;decide),fun b hb=>?_⟩;refine fresh hb fun H7 s7 t7=>?_;exact q _ H7 (k6.tr (.sm s7)) (R6.same s7) ⟨b,rfl,t7⟩
theorem dM:C0 1 "words_of" ["text"] tH:=by
 refine co' ["text","told","depth","whole","opened","word","opening","closing"] bI fun nd H vs Q E hr h=>?_;obtain⟨z,rfl,hz,zl,hc,ho,q⟩:=h;refine⟨_,(Ae (Am 1 (Fq Ab)) (Ae (Am 2 Ah) (Ae (JM PassesOwn.never rfl (Gu (GR vc jc9 jd0 J9 (pv 0) (Aa Aj Ab))) (CZ (i:=3) nd rfl (by walk_at"o")) (Ae (Am 4 (GR vc PySem.F.slot_str_lstrip PySem.F.type_str_lstrip je (pv 3) (Aa Aj Ab))) (Ae (Am 5 (GR vc PySem.F.slot_str_rstrip PySem.F.type_str_rstrip jd (pv 4) (Aa Aj Ab))) (Ae (BK (Al Ba (pv 5) Aj (Aq _)) (Af Bc) Ar) (Ae (Am 6 (Ai Do (BW Eh rfl Ds xi (Aa (pv 3) Ab)) (BW Eh rfl Ds xi (Aa (pv 4) Ab)))) (Ae (Am 7 (Ai Do (BW Eh rfl Ds xi (Aa (pv 4) Ab)) (BW Eh rfl Ds xi (Aa (pv 5) Ab)))) (Ae (Am 2 (Ai Bv (pv 2) (pv 6))) (Ae (BK (Al Ft (pv 2) (CN rfl Qj (Cz _ _)) (Aq _)) (Af Bc) Ar) (Ae (Am 2 (Ai Do (pv 2) (pv 7))) (Af (Be (GR vk jd7 jd8 Iu (pv 1) (Aa (Ai cM (Ai cM (Ai cL (Fq (Aa Aj Ab)) (pv 6)) (Fq (Aa (pv 5) Ab))) (Ai cL (Fq (Aa Aj Ab)) (pv 7))) Ab))))))))))))) (Af (An (pv 1)))))),?_⟩
 symm;refine⟨ka _,fun l hl=>?_⟩;exists fresh hl fun H1 s1 t1=>?_;exists R0 (K8 ?_);exists Jo ?_;exists⟨rfl,?_⟩;refine⟨z,32,rfl,by rw[show Str.ofString " "=⟨#[32]⟩ from by ac_rfl],nofun,hz.len,fun l2 hl2=>?_⟩;exists fresh hl2 fun H2 s2 t2=>?_;have ll:l2≠l:=fun z=>by rw[z,t1] at hl2;cases hl2
 have wt:=mj 32 (cpl z);generalize hps:spl 32 (cpl z)=ps at*
 unfold tks at q;have t2:H2 l2=some (.lst (ps.map fun w=>V.str (sW w))):=by rw[t2,bF,hps,ua];rfl
 have fl:=Zn ps;have plen:∀(i:Nat) (w:Wd),ps[i]?=some w->w.length<=4000/\i<ps.length:=fun i w hw=>by
  have h1:(w.length+1)<=(ps.map fun w=>w.length+1).sum:=gD (yv.mpr ⟨w,qv hw,rfl⟩);exact⟨⋯,(zk.mp hw).1⟩
 refine⟨l2,rfl,⟨_,SqL.of t2⟩,KZ (xs:=ps.map fun w=>V.str (sW w)) (fun i Z' H'=>An3 (BR H H') (H' l2=some (.lst (ps.map fun w=>V.str (sW w)))) (Ex6 fun(d:Int) (v3 v4 v5 v6 v7:Option V)=>An3 (H' l=some (.lst (((ps.take i).flatMap Hk).map fun w=>V.str (sW w)))) (Dok d (ps.drop i)) (Z'=[some (.str z),some (.ref l),some (.int d),v3,v4,v5,v6,v7]))) ⟨s1.trans s2,t2,0,none,none,none,none,none,s2 _ _ t1,by rw[jk4];exact ho,rfl⟩ ?_ ?_ ?_⟩
 ·rintro i Z' H' _ ⟨_,t,_⟩;exact SqL.of t
 ·rintro i x Z' H' hx ⟨sH,tp,d,v3,v4,v5,v6,v7,tl,ew,rfl⟩;rw[xo] at hx;obtain⟨w,hw,rfl⟩:=ku.mp hx;obtain⟨wl,il⟩:=plen i w hw;have ol:=Ol w;have cl:=RJ w;have ed:ps.drop i=w::ps.drop (i+1):=by
   rw[ja9 il]
   congr 1
   rw[qm il] at hw;injection hw
  rw[ed] at ew;obtain⟨ew,ew2⟩:=ew;unfold opn at ew ew2;unfold cls at ew2;have cw:=hc w (qv hw);have fit:w.length<=sizeLine:=zo wl nofun;symm;exists Jo ?_;exists⟨rfl,?_⟩;refine⟨sW w,_,rfl,rfl,by rw[Df];exact fit,?_⟩;rw[show (if stripSame (Str.ofString "(").cps.contains true false (sW w) then sW w else stripped (Str.ofString "(").cps.contains true false (sW w))=sW (opd w) from ACw w];symm;exists Jo ?_;exists⟨rfl,?_⟩;refine⟨sW (opd w),_,rfl,rfl,by rw[Df];lia,?_⟩;rw[show (if stripSame (Str.ofString ")").cps.contains false true (sW (opd w)) then sW (opd w) else stripped (Str.ofString ")").cps.contains false true (sW (opd w)))=sW (core w) from ACc w];symm;rw[ni];exists CW (fun z=>cw (xW.mp z)) ?_;refine⟨_,rfl,by rw[Df];exact fit,?_⟩;symm;refine⟨_,rfl,by rw[Df];lia,?_⟩;symm;refine⟨_,rfl,by rw[Df];lia,?_⟩;symm;refine⟨_,rfl,by rw[Df];lia,?_⟩;rw[Df,Df,Df];symm;exists CW ⋯ ?_;exists Og rfl tl ?_;have sz:∀n:Nat,n<=100000->n<=sizeLine:=fun n h=>zo h nofun;refine⟨(by show 1<=sizeLine;decide),fun m1 hm1=>?_⟩;refine fresh hm1 fun H3 s3 t3=>?_;rw[ADv] at t3;symm;refine bj t3 ⋯ ⋯ (sz _ (by simp;lia)) fun m2 hm2=>?_;refine fresh hm2 fun H4 s4 t4=>?_;rw[Rv] at t4;symm;refine⟨(by show 1<=sizeLine;decide),fun m3 hm3=>?_⟩;exists fresh hm3 fun H5 s5 t5=>?_;refine⟨m2,m3,_,_,rfl,rfl,s5 _ _ t4,t5,sz _ (by simp;lia),fun m4 hm4=>?_⟩;exists fresh hm4 fun H6 s6 t6=>?_;refine⟨(by show 1<=sizeLine;decide),fun m5 hm5=>?_⟩;refine fresh hm5 fun H7 s7 t7=>?_;rw[ADu] at t7;symm;refine bj t7 ⋯ ⋯ (sz _ (by simp;lia)) fun m6 hm6=>?_;refine fresh hm6 fun H8 s8 t8=>?_;rw[Rv] at t8;symm;refine⟨m4,m6,_,_,rfl,rfl,(s7.trans s8) _ _ t6,t8,sz _ (by simp;lia),fun m7 hm7=>?_⟩;refine fresh hm7 fun H9 s9 t9=>?_;have sA:=s3.trans (s4.trans (s5.trans (s6.trans (s7.trans (s8.trans s9)))));rw[show ((w.length:Int)-((opd w).length:Int)).toNat=w.length-(opd w).length by lia,show(((opd w).length:Int)-((core w).length:Int)).toNat=(opd w).length-(core w).length by lia,<-AAL] at t9;have tk:(ps.take (i+1)).flatMap Hk=(ps.take i).flatMap Hk++Hk w:=by
   rw[ky,hw,jc4,ji2,je7,ju4,yk]
  have tle:=sY (ps:=ps) i;have ple:=ZS w;refine GP ?_;refine⟨l,m7,_,_,rfl,rfl,sA _ _ tl,t9,?_,?_⟩
  ·rw[js,js];have b1:((ps.take i).flatMap Hk).length<=4001:=zo tle (zo fl (by rw[wt];lia));exact sz _ (zo (jv8 b1 ple) ⋯)
  ·rw[<-ve,<-tk];refine⟨fun r o ho=>?_,?_,_,_,_,_,_,_,Ao,?_,rfl⟩
   ·rw[BP fun z=>by rw[z,hl] at ho;cases ho];exact sA _ _ (sH _ _ ho)
   ·rw[BP ll];exact sA _ _ tp
   ·rwa [show d+((w.length:Int)-((opd w).length:Int))-(((opd w).length:Int)-((core w).length:Int))=d+((w.length-(opd w).length:Nat):Int)-(((opd w).length-(core w).length:Nat):Int) by lia]
 ·rintro Z' H' ⟨sH,_,d,v3,v4,v5,v6,v7,tl,ew,rfl⟩;rw[js,jb4] at tl;symm;exact q l H' sH tl
theorem N6:DG ["reader","number","word","plan"] ["reader"] (BX HX):=by walk_at"s"
theorem Om{k d:Nat}(F:Fun K "take_numbered" "take_numbered" HX f fd)(Cy:C0 k "take_plan" ["reader"] ((Jy Bd) d))(hk:8<=k):F0 (k+1) f fd ["reader"] ((Wz Bd) d):=by
 refine F.ok (k:=k+0) N6 (fun h=>?_) fun nd H vs Q E hr h=>?_
 ·obtain⟨x,p,r,rfl,_⟩:=h;rfl
 obtain⟨x,p,r,rfl,R,okp,cp,dp,hh,q⟩:=h;refine⟨_,(Ae (Am 1 (Ag Fd (Aa (pv 0) Ab))) (Ae (Am 2 (Cv Cr Bk (pv 0))) (Ae (BK (Al Ba (pv 2) Aj (Aq _)) (Af (An (BJ (Aa (pv 2) (Aa (pv 1) (Aa (Ag Cy (Aa (pv 0) Ab)) Ab)))))) Ar) (Ae (BK (Al Gz (pv 2) Aj (Aq _)) (Af Bc) Ar) (Ae (Am 3 (Ag Cy (Aa (pv 0) Ab))) (Ae (Be (Ag HR (Aa (pv 0) (Aa Aj Ab)))) (Af (An (BJ (Aa (pv 2) (Aa (pv 1) (Aa (pv 3) (Aa (Ag Cy (Aa (pv 0) Ab)) Ab))))))))))))),?_⟩
 cases p with
 | la n p=>
  symm;exists⟨x,n,_,rfl,R,okp.1,fun H1 k1 R1=>?_⟩;obtain⟨dx,fs,hx,l1,_⟩:=R1.ob;exists⟨x,dx,_,rfl,hx,l1,?_⟩;exists⟨x,_,rfl,R1,fun H2 k2 R2=>?_⟩;walk_at"ew";exists⟨x,p,r,rfl,R2,okp.2,trivial,jc8 dp,hh,fun v H3 k3 R3 P3=>?_⟩;refine⟨(by show 3<=sizeLine;decide),fun a ha=>?_⟩;refine fresh ha fun H4 s4 t4=>?_;exact q _ H4 (((k1.tr k2).tr k3).tr (.sm s4)) (R3.same s4) ⟨a,v,rfl,by rw[t4];exact ya (fun z=>some (HO.tup [z,_,_])) (Hg _),P3.same s4⟩
 | nt n p p'=>
  have dp:max p.deep p'.deep+1<d+1:=dp;symm;exists⟨x,n,_,rfl,R,okp.1,fun H1 k1 R1=>?_⟩;obtain⟨dx,fs,hx,l1,_⟩:=R1.ob;exists⟨x,dx,_,rfl,hx,l1,?_⟩;exists⟨x,_,rfl,R1,fun H2 k2 R2=>?_⟩;walk_at"nw";exists HJ (Hg _) ?_;exists⟨x,p,_,rfl,R2,okp.2.1,trivial,⋯,hdn ∅,fun v H3 k3 R3 P3=>?_⟩;exists⟨x,_,_,rfl,R3,fun H4 k4 R4=>?_⟩;exists⟨x,p',r,rfl,R4,okp.2.2.1,trivial,⋯,hh,fun u H5 k5 R5 P5=>?_⟩;refine⟨(by show 4<=sizeLine;decide),fun a ha=>?_⟩;refine fresh ha fun H6 s6 t6=>?_;exact q _ H6 (((((k1.tr k2).tr k3).tr k4).tr k5).tr (.sm s6)) (R5.same s6) ⟨a,v,u,rfl,by rw[t6];exact ya (fun z=>some (HO.tup [z,_,_,_])) (Hg _),(PlH.kb R4 k5 (PlH.kb R3 k4 P3)).same s6,P5.same s6⟩
 | _=>exact cp.elim
theorem Us:DG ["reader","number","plan"] ["reader"] (BX JF):=by walk_at"s"
theorem VD{k d:Nat}(F:Fun K "take_every" "take_every" JF f fd)(Cy:C0 k "take_plan" ["reader"] ((Jy Bd) d))(hk:8<=k):F0 (k+1) f fd ["reader"] ((RX Bd) d):=by
 refine F.ok (k:=k+0) Us (fun h=>?_) fun nd H vs Q E hr h=>?_
 ·obtain⟨x,p,r,rfl,_⟩:=h;rfl
 obtain⟨x,p,r,rfl,R,okp,cp,dp,hh,q⟩:=h;refine⟨_,(Ae (Am 1 (Ag Fd (Aa (pv 0) Ab))) (Ae (Be (Ag HR (Aa (pv 0) (Aa Aj Ab)))) (Ae (Am 2 (Ag Cy (Aa (pv 0) Ab))) (Ae (Be (Ag HR (Aa (pv 0) (Aa Aj Ab)))) (Af (An (BJ (Aa Aj (Aa (pv 1) (Aa (pv 2) (Aa (Ag Fd (Aa (pv 0) Ab)) Ab))))))))))),?_⟩
 cases p with
 | ev n p e=>
  symm;exists⟨x,n,_,rfl,R,okp.1,fun H1 k1 R1=>?_⟩;exists⟨x,_,_,rfl,R1,fun H2 k2 R2=>?_⟩;exists⟨x,p,_,rfl,R2,okp.2.2.1,trivial,jc8 dp,hdn ∅,fun v H3 k3 R3 P3=>?_⟩;exists⟨x,_,_,rfl,R3,fun H4 k4 R4=>?_⟩;exists⟨x,e,r,rfl,R4,okp.2.1,fun H5 k5 R5=>?_⟩;refine⟨(by show 4<=sizeLine;decide),fun a ha=>?_⟩;refine fresh ha fun H6 s6 t6=>?_;exact q _ H6 (((((k1.tr k2).tr k3).tr k4).tr k5).tr (.sm s6)) (R5.same s6) ⟨a,v,rfl,t6,(PlH.kb R4 k5 (PlH.kb R3 k4 P3)).same s6⟩
 | _=>exact cp.elim
theorem W5:DG ["reader","plan","word"] ["reader"] (BX J0):=by walk_at"s"
theorem Xm{k d:Nat}(F:Fun K "take_pair" "take_pair" J0 f fd)(Cy:C0 k "take_plan" ["reader"] ((Jy Bd) d))(hk:8<=k):F0 (k+1) f fd ["reader"] ((Wy Bd) d):=by
 refine F.ok (k:=k+0) W5 (fun h=>?_) fun nd H vs Q E hr h=>?_
 ·obtain⟨x,p,r,rfl,_⟩:=h;rfl
 obtain⟨x,p,r,rfl,R,okp,cp,dp,hh,q⟩:=h;refine⟨_,(Ae (Am 1 (Ag Cy (Aa (pv 0) Ab))) (Ae (Am 2 (Cv Cr Bk (pv 0))) (Ae (BK (Al Xi (pv 2) (CN rfl Xp (G9 _)) (by rfl)) (Af Bc) Ar) (Af (An (BJ (Aa (pv 2) (Aa (pv 1) (Aa (Ag Cy (Aa (pv 0) Ab)) Ab))))))))),?_⟩
 cases p with
 | pr w p p'=>
  have dp:max p.deep p'.deep+1<d+1:=dp;symm;refine⟨x,p,_,rfl,R,okp.1,trivial,⋯,hdn (by cases w<;>ac_rfl),fun v H1 k1 R1 P1=>?_⟩;symm;obtain⟨dx,fs,hx,l1,_⟩:=R1.ob;exists⟨x,dx,_,rfl,hx,l1,?_⟩;exists⟨x,_,rfl,R1,fun H2 k2 R2=>?_⟩;refine⟨G7,_,rfl,.inr (XN _),rfl,rfl,?_⟩;have e:V.str (sW ((sg w.s::(p'.tok++r)).headD []))=V.str (Str.ofString w.s):=Hg _;rw[e,ACo w];symm;exists Fz ?_;exists⟨x,p',r,rfl,R2,okp.2,trivial,⋯,hh,fun u H3 k3 R3 P3=>?_⟩;refine⟨(by show 3<=sizeLine;decide),fun a ha=>?_⟩;refine fresh ha fun H4 s4 t4=>?_;exact q _ H4 (((k1.tr k2).tr k3).tr (.sm s4)) (R3.same s4) ⟨a,v,u,rfl,t4,(PlH.kb R2 k3 (PlH.kb R1 k2 P1)).same s4,P3.same s4⟩
 | _=>exact cp.elim
theorem Ra:DG ["reader","word"] ["reader"] (BX Ig):=by walk_at"s"
theorem Sq{k d:Nat}(F:Fun K "take_within" "take_within" Ig f fd)(Cy:C0 k "take_plan" ["reader"] ((Jy Bd) d))(aa:C0 (k+1) "take_every" ["reader"] ((RX Bd) d))(ab:C0 (k+1) "take_numbered" ["reader"] ((Wz Bd) d))(ac:C0 (k+1) "take_pair" ["reader"] ((Wy Bd) d))(hk:8<=k):F0 (k+2) f fd ["reader"] ((RV Bd) d):=by
 refine F.ok (k:=k+1) Ra (fun h=>?_) fun nd H vs Q E hr h=>?_
 ·obtain⟨x,p,r,rfl,_⟩:=h;rfl
 obtain⟨x,p,r,rfl,R,okp,cp,dp,hh,q⟩:=h;obtain⟨dx,fs,hx,l1,l2⟩:=R.ob;refine⟨_,(Ae (Am 1 (Cv Ga Bk (pv 0))) (Ae (BK (Al Ba (pv 1) Aj (Aq _)) (Ae (Be (Cv Cr Bk (pv 0))) (Af (An (BJ (Aa (pv 1) (Aa (Ag Cy (Aa (pv 0) Ab)) Ab)))))) Ar) (Ae (BK (Al Ba (pv 1) Aj (Aq _)) (Ae (Be (Cv Cr Bk (pv 0))) (Af (An (Ag aa (Aa (pv 0) Ab))))) Ar) (Ae (BK (Gq (Ag Kf (Aa (pv 1) Ab))) (Af (An (Ag ab (Aa (pv 0) Ab)))) Ar) (Af (An (Ag ac (Aa (pv 0) Ab)))))))),?_⟩
 symm;exists⟨x,dx,_,rfl,hx,l2,?_⟩;exists⟨x,_,rfl,R,?_⟩;have num:∀n:Int,Sm n->(inn p r).headD []=nW n->cLN p->TOk (sW ((inn p r).headD [])):=fun n sn e _=>by
  rw[e];exact⟨GF.mpr fun c hc=>by rw[Bm] at hc;have:=Ii sn c hc;lia,by rw[Df];have:=Er sn;lia⟩
 cases p with
 | no p=>
  walk_at"ew";exists⟨x,dx,_,rfl,hx,l1,?_⟩;exists⟨x,_,rfl,R,fun H1 k1 R1=>?_⟩;exists⟨x,p,r,rfl,R1,okp,trivial,jc8 dp,hh,fun v H2 k2 R2 P2=>?_⟩;refine⟨DQ,fun a ha=>?_⟩;refine fresh ha fun H4 s4 t4=>?_;exact q _ H4 ((k1.tr k2).tr (.sm s4)) (R2.same s4) ⟨a,v,rfl,by rw[t4];exact ya (fun z=>some (HO.tup [z,_])) (Hg _),P2.same s4⟩
 | ev n p e=>
  walk_at"nw";walk_at"ew";exists⟨x,dx,_,rfl,hx,l1,?_⟩;exists⟨x,_,rfl,R,fun H1 k1 R1=>?_⟩;exact⟨x,.ev n p e,r,rfl,R1,okp,trivial,dp,hh,q.on k1⟩
 | la n p=>
  exists CW (Sv okp.1 ⟨_,_,rfl,nofun⟩) ?_;exists CW (Sv okp.1 ⟨_,_,rfl,nofun⟩) ?_;refine⟨_,rfl,R.tk,fun v H2 s2 iv=>?_⟩;obtain rfl:=iv.mpr (show Nm (cpl (sW (nW n))) by rw[Bm];exact(JS okp.1).1);symm;exists Gw ?_;exact⟨x,.la n p,r,rfl,R.same s2,okp,trivial,dp,hh,q.on (.sm s2)⟩
 | nt n p p'=>
  exists CW (Sv okp.1 ⟨_,_,rfl,nofun⟩) ?_;exists CW (Sv okp.1 ⟨_,_,rfl,nofun⟩) ?_;refine⟨_,rfl,R.tk,fun v H2 s2 iv=>?_⟩;obtain rfl:=iv.mpr (show Nm (cpl (sW (nW n))) by rw[Bm];exact(JS okp.1).1);symm;exists Gw ?_;exact⟨x,.nt n p p',r,rfl,R.same s2,okp,trivial,dp,hh,q.on (.sm s2)⟩
 | pr w p p'=>
  obtain⟨z,t,e,hz⟩:=p.hd;have e1:inn (.pr w p p') r=z::(t++sg w.s::(p'.tok++r)):=by
   show p.tok++_=_;rw[e];rfl
  have R':=R;rw[e1] at R' ⊢;obtain⟨n1,n2,n3⟩:V.str (sW z)≠V.str "not"/\V.str (sW z)≠V.str "every"/\∃c u,z=c::u/\¬(c=45\/48<=c/\c<=57):=by
   have g:∀{y:String} {c:Nat} {u:Wd},z=sg y->sg y=c::u->¬(c=45\/48<=c/\c<=57)->Str.ofString y≠Str.ofString "not"->Str.ofString y≠Str.ofString "every"->V.str (sW z)≠V.str "not"/\V.str (sW z)≠V.str "every"/\∃c u,z=c::u/\¬(c=45\/48<=c/\c<=57):=fun a b c d e=>by
    rw[a];exact⟨YZ d,YZ e,_,_,b,c⟩
   rcases zh.mp hz with h | hz
   ·exact g h rfl nofun ∅ ∅
   rcases zh.mp hz with h | hz
   ·exact g h rfl nofun ∅ ∅
   rcases zh.mp hz with h | hz
   ·exact g h rfl nofun ∅ ∅
   rcases zh.mp hz with h | hz
   ·exact g h rfl nofun ∅ ∅
   ·exact g (y:="(") ((xb.mp hz).trans ∅) rfl nofun ∅ ∅
  exists CW n1 ?_;exists CW n2 ?_;refine⟨_,rfl,R'.tk,fun v H2 s2 iv=>?_⟩;obtain rfl:v=false:=by
   cases v with
   | false=>rfl
   | true=>
    have:=iv.mp rfl;rw[show (z::(t++sg w.s::(p'.tok++r))).headD []=z from rfl,Bm] at this;obtain⟨c,u,rfl,n⟩:=n3;exact absurd (qD this) n
  symm;exists Fz ?_;exact⟨x,.pr w p p',r,rfl,R.same s2,okp,trivial,dp,hh,q.on (.sm s2)⟩
 | _=>exact(cp.elim id fun z=>z.elim id id).elim
theorem W4:DG ["reader","word","plan","numbers"] ["reader"] (BX Jz):=by walk_at"s"
theorem Xl{k d:Nat}(F:Fun K "take_plan" "take_plan" Jz f fd)(aa:C0 (k+2) "take_within" ["reader"] ((RV Bd) d))(hk:8<=k):F0 (k+3) f fd ["reader"] ((Jy Bd) (d+1)):=by
 refine F.ok (k:=k+2) W4 (fun h=>?_) fun nd H vs Q E hr h=>?_
 ·obtain⟨x,p,r,rfl,_⟩:=h;rfl
 obtain⟨x,p,r,rfl,R,okp,_,dp,hh,q⟩:=h;obtain⟨dx,fs,hx,l1,_⟩:=R.ob;refine⟨_,(Ae (Am 1 (Cv Cr Bk (pv 0))) (Ae (BK (PW.pt (Hr (Al Ba (pv 1) Aj (Aq _)) (Gp (Al Ba (pv 1) Aj (Aq _))))) (Af (An (BJ (Aa (pv 1) Ab)))) Ar) (Ae (BK (Al Ba (pv 1) Aj (Aq _)) (Ae (Am 3 (Ag Py (Aa (pv 0) Ab))) (Af (An (BJ (Aa (pv 1) (Aa (pxT 3) (Aa (pxT 3) Ab))))))) Ar) (Ae (BK (Al Ba (pv 1) Aj (Aq _)) (Af (An (Ag Z9 (Aa (pv 0) Ab)))) Ar) (Ae (BK (Al Gz (pv 1) Aj (Aq _)) (Af Bc) Ar) (Ae (Am 2 (Ag aa (Aa (pv 0) Ab))) (Ae (Be (Ag HR (Aa (pv 0) (Aa Aj Ab)))) (Af (An (pv 2)))))))))),?_⟩
 symm;exists⟨x,dx,_,rfl,hx,l1,?_⟩;exists⟨x,_,rfl,R,fun H1 k1 R1=>?_⟩;cases p with
 | lf b=>
  cases b with
  | true=>
   refine Hn (Hg "all") ?_;exists Gw ?_;refine⟨(by show 1<=sizeLine;decide),fun a ha=>?_⟩;refine fresh ha fun H4 s4 t4=>?_;exact q _ H4 (k1.tr (.sm s4)) (R1.same s4) ⟨a,rfl,by rw[t4];exact ya (fun z=>some (HO.tup [z])) (Hg "all")⟩
  | false=>
   walk_at"nw";exists Hn (Hg "none") ?_;refine⟨(by show 1<=sizeLine;decide),fun a ha=>?_⟩;refine fresh ha fun H4 s4 t4=>?_;exact q _ H4 (k1.tr (.sm s4)) (R1.same s4) ⟨a,rfl,by rw[t4];exact ya (fun z=>some (HO.tup [z])) (Hg "none")⟩
 | each n m=>
  walk_at"nw";walk_at"nw";walk_at"ew";exists⟨x,n,m,r,rfl,R1,okp.1,okp.2.1,fun a H2 k2 R2 t2=>?_⟩;exists Ay (SqT.of t2) at0 ?_;exists Ay (SqT.of t2) at1 ?_;refine⟨(by show 3<=sizeLine;decide),fun b hb=>?_⟩;refine fresh hb fun H4 s4 t4=>?_;exact q _ H4 ((k1.tr k2).tr (.sm s4)) (R2.same s4) ⟨b,rfl,by rw[t4];exact ya (fun z=>some (HO.tup [z,_,_])) (Hg _)⟩
 | date nm m e y=>
  walk_at"nw";walk_at"nw";walk_at"nw";walk_at"ew";exact⟨x,nm,m,e,y,r,rfl,R1,okp,hh,q.on k1⟩
 | _=>
  walk_at"nw";walk_at"nw";walk_at"nw";walk_at"nw";refine HJ (by show V.str (sW kL)=_;rw[xu];exact Hg _) ?_;symm;refine⟨x,_,kR::r,rfl,by simp only[PT.tok,jj0,Zs,jh4] at R1;exact R1,okp,by first | exact trivial | exact .inl trivial | exact .inr (.inl trivial) | exact .inr (.inr trivial),dp,(show kR≠sg "each" by ac_rfl),fun v H2 k2 R2 P2=>?_⟩
  symm;refine⟨x,_,r,rfl,by rw[show cpl ")"=kR by ac_rfl];exact R2,fun H3 k3 R3=>?_⟩;symm;exact q _ H3 ((k1.tr k2).tr k3) R3 (PlH.kb R2 k3 P2)
theorem Cy:C0 131 "take_plan" ["reader"] ((Jy Bd) 41):=XS (k0:=8) (J:=3) (sp:=(Jy Bd)) (st:=Jz) gX gG (by walk_at"g") (by walk_at"b") (fun _ _ _ _ h=>Yp h) (fun d _ _ R F=>by
 have hk:8<=8+3*d:=jb5 _ _;have aa:C0 ((8+3*d)+1) "take_numbered" ["reader"] ((Wz Bd) d):=co (st:=HX) (by walk_at"g") (by walk_at"b") fun F=>Om F R hk;have ab:C0 ((8+3*d)+1) "take_every" ["reader"] ((RX Bd) d):=co (st:=JF) (by walk_at"g") (by walk_at"b") fun F=>VD F R hk;have ac:C0 ((8+3*d)+1) "take_pair" ["reader"] ((Wy Bd) d):=co (st:=J0) (by walk_at"g") (by walk_at"b") fun F=>Xm F R hk;have ad:C0 ((8+3*d)+2) "take_within" ["reader"] ((RV Bd) d):=co (st:=Ig) (by walk_at"g") (by walk_at"b") fun F=>Sq F R ab aa ac hk;exact Xl F ad hk) 41
theorem aK:C0 8 "made_date" ["plan","calendars"] (uB K Bg CL Br Bh Aw):=by
 refine co' ["plan","calendars","name"] ZC fun nd H vs Q E hr h=>?_;obtain⟨v,a,m,d,g,rfl,⟨q0,rfl,hq⟩,ok,sm,⟨kv,z,hk,ez,C⟩,q⟩:=h;have dg:Qz H a (.str (sW (sg "c"))) (some (.ref z)):=.inl ⟨_,.inr (sW (sg "c")),.inl hk,rfl,ez.symm⟩;refine⟨_,(Ae (Am 2 (pxT 0))
  (Ae (BK (Xb (Vn (gP hr) (pv 2) (pv 1)))
   (Af Bc)
   Ar)
  (Af (An (GQ O8 (Aa (pv 2) (Aa (fY (gP hr) (pv 1) (pv 2) (fun _ _=>rfl)) (Aa (pxT 0) (Aa (pxT 0) (Aa (pxT 0) (Aa (pxT 0) Ab))))))))))),?_⟩
 symm;exists Ay (SqT.of hq) Jj ?_;unfold Wn;symm;refine⟨a,some (.ref z),rfl,dg,?_⟩;refine⟨_,rfl,?_⟩;exists Fz ?_;unfold mU;symm;exists⟨a,.ref z,rfl,dg,?_⟩;exists Ay (SqT.of hq) YL ?_;exists Ay (SqT.of hq) wW ?_;exists Ay (SqT.of hq) AEZ ?_;exists Ay (SqT.of hq) AEX ?_;exact fun x dx hx hdx ne=>⟨x,z,_,g,m,d,rfl,∅,Ey.same C (Hm hx hdx ne),sm,ok.2.2.2.2.1,fun i e=>Cp (ok.2.1 i e),ok.2.2.2.2.2,fun i e=>Cp (ok.2.2.1 i e),.go hx hdx ne fun b H' s N r=>⟨rfl,q.go s N r⟩⟩
theorem aJ:C0 12 "made_pair" ["word","one","other"] (uA K Bg CL):=by
 refine co' ["word","one","other"] Y9 fun nd H vs Q E hr h=>?_;obtain⟨w,x,y,n1,n2,b1,b2,rfl,R1,R2,lz,q⟩:=h;refine⟨_,(Ae (BK (Al Ba (pv 0) Aj (Aq _)) (Af (An (GQ Qy (Aa (pv 1) (Aa (pv 2) Ab))))) Ar) (Ae (BK (Al Ba (pv 0) Aj (Aq _)) (Af (An (GQ Ng (Aa (pv 1) (Aa (pv 2) Ab))))) Ar) (Ae (BK (Al Ba (pv 0) Aj (Aq _)) (Af (An (GQ Ud (Aa (pv 1) (Aa (pv 2) Ab))))) Ar) (Ae (BK (Al Ba (pv 0) Aj (Aq _)) (Af (An (GQ NQ (Aa (pv 1) (Aa (pv 2) Ab))))) Ar) (Ae (BK (Al Ba (pv 0) Aj (Aq _)) (Af (An (GQ Qs (Aa (pv 1) (Aa (pv 2) Ab))))) Ar) (Ae (BK (Al Ba (pv 0) Aj (Aq _)) (Af (An (GQ O3 (Aa (pv 1) (Aa (pv 2) Ab))))) Ar) (Ae (BK (Al Ba (pv 0) Aj (Aq _)) (Af (An (GQ Qu (Aa (pv 1) (Aa (pv 2) Ab))))) Ar) (Af (An (GQ Qt (Aa (pv 1) (Aa (pv 2) Ab)))))))))))),?_⟩
 symm;cases w<;>(repeat walk_at"nw")<;>(try walk_at"ew")<;>exact fun y dy hy hdy ne=>AEI R1 R2 lz hy hdy ne fun b H' s N R=>⟨rfl,q _ b H' s N R⟩
theorem uQ:DG ["plan","calendars","word","one"] ["plan","calendars"] (BX bL):=by walk_at"s"
theorem uz{k d:Nat}(F:Fun K "made" "made" bL f fd)(Jd:C0 k "made" ["plan","calendars"] ((RW K Bg CL Br Bh Aw) d))(hk:12<=k):F0 (k+1) f fd ["plan","calendars"] ((RW K Bg CL Br Bh Aw) (d+1)):=by
 refine F.ok (k:=k+0) uQ (fun h=>?_) fun nd H vs Q E hr h=>?_
 ·obtain⟨v,a,p,g,rfl,_⟩:=h;rfl
 obtain⟨v,a,p,g,rfl,P,ok,kn,dp,D0,Di,lz,q⟩:=h;refine⟨_,(Ae (Am 2 (pxT 0)) (Ae (BK (Al Ba (pv 2) Aj (Aq _)) (Af (An (cD Ug (hr.mono ⋯) rfl))) Ar) (Ae (BK (Al Ba (pv 2) Aj (Aq _)) (Af (An (cD VN (hr.mono ⋯) rfl))) Ar) (Ae (BK (Al Ba (pv 2) Aj (Aq _)) (Af (An (GQ Qw (Aa (pxT 0) (Aa (pxT 0) Ab))))) Ar) (Ae (BK (Al Ba (pv 2) Aj (Aq _)) (Af (An (Ag aK (Aa (pv 0) (Aa (pv 1) Ab))))) Ar) (Ae (BK (Al Ba (pv 2) Aj (Aq _)) (Af (An (GQ UW (Aa (Ag Jd (Aa (pxT 0) (Aa (pv 1) Ab))) Ab)))) Ar) (Ae (BK (Al Ba (pv 2) Aj (Aq _)) (Af (An (GQ O5 (Aa (pxT 0) (Aa (Ag Jd (Aa (pxT 0) (Aa (pv 1) Ab))) Ab))))) Ar) (Ae (BK (Al Ba (pv 2) Aj (Aq _)) (Af (An (GQ O6 (Aa (pxT 0) (Aa (Ag Jd (Aa (pxT 0) (Aa (pv 1) Ab))) (Aa (pxT 0) Ab)))))) Ar) (Ae (BK (Al Ba (pv 2) Aj (Aq _)) (Ae (Am 3 (Ag Jd (Aa (pxT 0) (Aa (pv 1) Ab)))) (Af (An (GQ Uc (Aa (pxT 0) (Aa (pv 3) (Aa (Ag Jd (Aa (pxT 0) (Aa (pv 1) Ab))) Ab))))))) Ar) (Ae (Am 3 (Ag Jd (Aa (pxT 0) (Aa (pv 1) Ab)))) (Af (An (Ag aJ (Aa (pv 2) (Aa (pv 3) (Aa (Ag Jd (Aa (pxT 0) (Aa (pv 1) Ab))) Ab)))))))))))))))),?_⟩
 cases p with
 | lf b=>
  obtain⟨q0,rfl,hq⟩:=P;symm;exists Ay (SqT.of hq) FW ?_;cases b with
  | true=>
   walk_at"ew";exact fun x dx hx hdx ne=>⟨x,rfl,.go hx hdx ne fun b H' s N eb=>⟨rfl,q.go s N eb⟩⟩
  | false=>
   walk_at"nw";walk_at"ew";exact fun x dx hx hdx ne=>⟨x,rfl,.go hx hdx ne fun b H' s N eb=>⟨rfl,q.go s N eb⟩⟩
 | each n r=>
  obtain⟨q0,rfl,hq⟩:=P;symm;exists Ay (SqT.of hq) FW ?_;walk_at"nw";walk_at"nw";walk_at"ew";exists Ay (SqT.of hq) Jj ?_;exists Ay (SqT.of hq) YL ?_;exact fun x dx hx hdx ne=>⟨x,n,r,rfl,ok.2.2.1,by have:=ok.2.2.2;lia,.go hx hdx ne fun b H' s N B=>⟨rfl,q.go s N B⟩⟩
 | date nm m e y=>
  obtain⟨q0,rfl,hq⟩:=P;symm;exists Ay (SqT.of hq) FW ?_;walk_at"nw";walk_at"nw";walk_at"nw";walk_at"ew";obtain⟨rfl,rfl⟩:=kn;exact⟨_,a,m,e,g,rfl,⟨q0,rfl,hq⟩,ok,D0,Di,q⟩
 | no p=>
  obtain⟨q0,u,rfl,hq,P⟩:=P;symm;exists Ay (SqT.of hq) FW ?_;walk_at"nw";walk_at"nw";walk_at"nw";walk_at"nw";walk_at"ew";exists Ay (SqT.of hq) Jj ?_;exists⟨u,a,p,g,rfl,P,ok,kn,jc8 dp,D0,Di,lz,fun t H1 s1 T F=>?_⟩;exact fun x dx hx hdx ne=>⟨x,t,_,_,rfl,T.same (Hm hx hdx ne),.go hx hdx ne fun b H' s N r=>⟨rfl,q.go (s1.trans s) N ⟨r,T.lt,F⟩⟩⟩
 | la k p=>
  obtain⟨q0,u,rfl,hq,P⟩:=P;symm;exists Ay (SqT.of hq) FW ?_;walk_at"nw";walk_at"nw";walk_at"nw";walk_at"nw";walk_at"nw";walk_at"ew";exists Ay (SqT.of hq) Jj ?_;exists Ay (SqT.of hq) YL ?_;exists⟨u,a,p,g,rfl,P,ok.2,kn,jc8 dp,D0,Di,lz,fun t H1 s1 T F=>?_⟩;exact fun x dx hx hdx ne=>⟨x,t,k,_,_,rfl,Cp ok.1,T.same (Hm hx hdx ne),.go hx hdx ne fun b H' s N r=>⟨rfl,q.go (s1.trans s) N ⟨r,T.lt,F⟩⟩⟩
 | ev k p e=>
  obtain⟨q0,u,rfl,hq,P⟩:=P;have sp:=PT.sz_pos D0 ok.2.2.1;have lz:p.sz g*k<=150000:=lz;have l1:=vP sp (show 0<k by have:=ok.2.2.2.1;lia);symm;exists Ay (SqT.of hq) FW ?_;walk_at"nw";walk_at"nw";walk_at"nw";walk_at"nw";walk_at"nw";walk_at"nw";walk_at"ew";exists Ay (SqT.of hq) Jj ?_;exists Ay (SqT.of hq) YL ?_;exists⟨u,a,p,g,rfl,P,ok.2.2.1,kn,jc8 dp,D0,Di,⋯,fun t H1 s1 T F=>?_⟩;exists Ay (SqT.of (s1 _ _ hq)) wW ?_;exact fun x dx hx hdx ne=>⟨x,t,k,e,_,_,rfl,ok.2.2.2.1,by have:=ok.2.2.2.2;lia,lz,ADS ok.2.1,T.same (Hm hx hdx ne),.go hx hdx ne fun b H' s N r=>⟨rfl,q.go (s1.trans s) N ⟨r,T.lt,F⟩⟩⟩
 | nt k p p'=>
  obtain⟨q0,u,u',rfl,hq,P,P'⟩:=P;have dp:max p.deep p'.deep+1<d+1:=dp;have lz:CQ (p.sz g) (p'.sz g)<=150000:=lz;have ll:=pP (PT.sz_pos D0 ok.2.1) (PT.sz_pos D0 ok.2.2.1);symm;exists Ay (SqT.of hq) FW ?_;walk_at"nw";walk_at"nw";walk_at"nw";walk_at"nw";walk_at"nw";walk_at"nw";walk_at"nw";walk_at"ew";exists Ay (SqT.of hq) YL ?_;exists⟨u,a,p,g,rfl,P,ok.2.1,kn.1,⋯,D0,Di,⋯,fun t H1 s1 T F=>?_⟩;exists Ay (SqT.of (s1 _ _ hq)) Jj ?_;exists Ay (SqT.of (s1 _ _ hq)) wW ?_;exists⟨u',a,p',g,rfl,P'.same s1,ok.2.2.1,kn.2,⋯,D0,Di.same s1,⋯,fun t' H2 s2 T' F'=>?_⟩;exact fun x dx hx hdx ne=>⟨x,t,t',k,_,_,_,_,rfl,ok.2.2.2,Cp ok.1,(T.same s2).same (Hm hx hdx ne),T'.same (Hm hx hdx ne),lz,.go hx hdx ne fun b H' s N r=>⟨rfl,q.go ((s1.trans s2).trans s) N ⟨r,⟨T.lt,F⟩,T'.lt,F'⟩⟩⟩
 | pr w p p'=>
  obtain⟨q0,u,u',rfl,hq,P,P'⟩:=P;have dp:max p.deep p'.deep+1<d+1:=dp;have lz:CQ (p.sz g) (p'.sz g)<=150000:=lz;have ll:=pP (PT.sz_pos D0 ok.1) (PT.sz_pos D0 ok.2);have no:∀{z:String},z∈["all","none","each","date","not","later","every","of"]->V.str (Str.ofString w.s)≠V.str (Str.ofString z):=fun h z=>ACn w _ h (V.str.inj z);symm;exists Ay (SqT.of hq) FW ?_;exists CW (no nofun) ?_;exists CW (no nofun) ?_;exists CW (no nofun) ?_;exists CW (no nofun) ?_;exists CW (no nofun) ?_;exists CW (no nofun) ?_;exists CW (no nofun) ?_;exists CW (no nofun) ?_;exists Ay (SqT.of hq) Jj ?_;exists⟨u,a,p,g,rfl,P,ok.1,kn.1,⋯,D0,Di,⋯,fun t H1 s1 T F=>?_⟩;exists Ay (SqT.of (s1 _ _ hq)) YL ?_;exists⟨u',a,p',g,rfl,P'.same s1,ok.2,kn.2,⋯,D0,Di.same s1,⋯,fun t' H2 s2 T' F'=>?_⟩;refine⟨w,t,t',_,_,_,_,rfl,T.same s2,T',lz,fun z b H' s N B=>q.go ((s1.trans s2).trans s) N ⟨B,⟨T.lt,F⟩,T'.lt,F'⟩⟩
theorem Jd:C0 53 "made" ["plan","calendars"] ((RW K Bg CL Br Bh Aw) 41):=XS (k0:=12) (J:=1) (sp:=(RW K Bg CL Br Bh Aw)) (st:=bL) gX gG (by walk_at"g") (by walk_at"b") (fun _ _ _ _ h=>Yq h) (fun d _ _ R F=>by
 have hk:12<=12+1*d:=jb5 _ _;exact uz F R hk) 41
theorem aB:C0 132 "read_rule" ["text","calendars"] (zJ K Bg CL Br Bh Aw):=by
 refine co' ["text","calendars","reader","plan"] Y4 fun nd H vs Q E hr h=>?_;obtain⟨a,p,g,rfl,ok,kn,tl,dl,mn,D0,Di,lz,q⟩:=h;obtain⟨es,tk,dk,co⟩:=PT.rdy ok tl dl;have W:=PT.wf ok;refine⟨_,(Ae (BK (Ih (Gq (Ag La (Aa (pv 0) Ab)))) (Af Bc) Ar) (Ae (Am 2 (GQ NZ (Aa (Ag dM (Aa (pv 0) Ab)) Ab))) (Ae (Am 3 (Ag Cy (Aa (pv 2) Ab))) (Ae (BK (Al Gz (Cv Ga Bk (pv 2)) Aj (Aq _)) (Af Bc) Ar) (Af (An (Ag Jd (Aa (pv 3) (Aa (pv 1) Ab))))))))),?_⟩
 symm;refine⟨_,rfl,tk,by rw[Df];exact tl,?_⟩;symm;exists Fz ?_;refine⟨_,rfl,tk,by rw[Bm];exact tl,by rw[Bm,es];exact co,by rw[Bm,es];exact dk,fun l H1 s1 t1=>?_⟩;rw[Bm,es,W.tk] at t1;symm;refine fun x dx hx hdx ne=>⟨x,dx,l,p.tok,rfl,Ao,Hm hx hdx ne _ _ t1,?_,PT.tok_ok ok,fun H2 k2 R2=>⟨rfl,?_⟩⟩
 ·have:=PT.tok_len p;lia
 have s2:=Vq hx hdx ne k2;have hxH:H x=none:=s1.free hx;have kbS:∀{H':Hp},KB x H2 H'->BR H H':=fun{H'} kb y o e=>kb y o (Bx e hxH) ((s1.trans s2) _ _ e);symm;refine⟨x,p,[],rfl,by show Rd _ _ _ (p.tok++[]);rw[yk];exact R2,ok,trivial,⋯,∅,fun v H3 k3 R3 P3=>?_⟩;symm;obtain⟨d3,fs,hx3,_,l3⟩:=R3.ob;exists⟨x,d3,_,rfl,hx3,l3,?_⟩;exists⟨x,_,rfl,R3,?_⟩;refine HJ (by rw[ni];rfl) ?_;symm;have s3:=kbS k3;exact⟨v,a,p,g,rfl,P3,ok,kn,⋯,D0,Di.same s3,lz,fun t H' s T F=>q t H' (s3.trans s) T F⟩
theorem aF:C0 1 "primes_of" ["number"] nG:=by
 refine co' ["number","primes","left","factor"] Y7 fun nd H vs Q E hr h=>?_;obtain⟨n,rfl,n0,n1,q⟩:=h;refine⟨_,(Ae (Am 1 (Fq Ab)) (Ae (Am 2 (pv 0)) (Ae (Am 3 Ah) (Ae (Gr PassesOwn.never (Al J6 (Ai Cg (pv 3) (pv 3)) (pv 2) (Aq _)) (Ae (Ff (BK (Al Ba (Ai Bu (pv 2) (pv 3)) Ah (Aq _)) (Af (Be (GR vk jl4 jl5 Kw (pv 1) (Aa (pv 3) Ab)))) Ar)) (Ae (Gr PassesOwn.never (Al Ba (Ai Bu (pv 2) (pv 3)) Ah (Aq _)) (Af (Am 2 (Ai Bf (pv 2) (pv 3))))) (Af (Am 3 (Ai Bv (pv 3) Ah)))))) (Ae (Ff (BK (Al Ft (pv 2) Ah (Aq _)) (Af (Be (GR vk jl4 jl5 Kw (pv 1) (Aa (pv 2) Ab)))) Ar)) (Af (An (pv 1)))))))),?_⟩
 symm;refine⟨(by show 0<=sizeLine;decide),fun lp hlp=>?_⟩;exists fresh hlp fun H1 s1 t1=>?_;refine⟨fun m Z' H'=>∃(ps:List Nat) (l f:Nat),BR H H'/\H' lp=some (.lst (ps.map fun(p:Nat)=>V.int (p:Int)))/\PI0 n ps l f/\ps.length<=f/\f<=n+2/\Z'=[some (.int (n:Int)),some (.ref lp),some (.int (l:Int)),some (.int (f:Int))]/\m=n+3-f,
  ⟨_,[],n,2,s1,t1,PI0.start n0,by simp,⋯,rfl,rfl⟩,?_⟩
 rintro m Z' H' ⟨ps,l,f,s2,t2,I,lf,fn,rfl,rfl⟩;have f2:=I.f2;have l0:=I.l0;have ln:=I.ln;have efl:((f:Int)*(f:Int)<=(l:Int))<->f*f<=l:=by rw[<-jh2];lia
 symm;refine Dq ⟨64,64,by unfold Bt;lia,by unfold Bt;lia,nofun⟩ ?_;symm;refine Ca (fun cc=>?_) (fun cc=>?_)
 ·have ffl:=efl.mp cc;have fl:f<=l:=by
   have:=Nat.le_mul_of_pos_left f (show 0<f by lia);lia
  exists⟨_,fun Z' H' hh=>hh,?_⟩;refine FN (fun Z' H'=>∃ps':List Nat,An6 (BR H H') (H' lp=some (.lst (ps'.map fun(p:Nat)=>V.int (p:Int)))) (PI0 n ps' l f) (ps'.length<=f+1) (f∣l->f∈ps') (Z'=[some (.int (n:Int)),some (.ref lp),some (.int (l:Int)),some (.int (f:Int))])) ?_ ?_
  ·symm;refine Ca (fun c2=>?_) (fun c2=>?_)
   ·have hd:=iW.mp c2;symm;exists Vh rfl t2 ?_;refine oO t2 (by rw[js,sizeLine_eq];lia) ?_;refine⟨ps++[f],Fp hlp s2,?_,I.app hd,by simp;lia,fun _=>by simp,rfl⟩;rw[Ao,ve];rfl
   ·symm;exact⟨ps,s2,t2,I,⋯,fun hd=>absurd (iW.mpr hd) c2,rfl⟩
  rintro Z' H2 ⟨ps',s3,t3,I',lf',hin,rfl⟩;symm;refine⟨fun m Z' H'=>H'=H2/\∃l':Nat,PI0 n ps' l' f/\(f∣l'->f∈ps')/\Z'=[some (.int (n:Int)),some (.ref lp),some (.int (l':Int)),some (.int (f:Int))]/\l'=m,⟨_,rfl,l,I',hin,rfl,rfl⟩,?_⟩;rintro m Z' H' ⟨rfl,l',J,hin',rfl,rfl⟩;symm;refine Ca (fun c2=>?_) (fun c2=>?_)
  ·have hd:=iW.mp c2;obtain⟨J',lt⟩:=J.div hd (hin' hd);exists⟨_,fun Z' H' hh=>hh,?_⟩;exists Dq (Dv ⋯ ⋯) ?_;rw[<-jk5];exact⟨_,lt,rfl,_,J',fun z=>hin' hd,rfl,rfl⟩
  ·have hd:¬f∣l':=fun z=>c2 (iW.mpr z);symm;refine⟨n+3-(f+1),⋯,ps',l',f+1,s3,t3,J.next hd,lf',⋯,rfl,rfl⟩
 ·have ffl:¬f*f<=l:=fun z=>cc (efl.mpr z);symm;refine FN (fun Z' H'=>∃ps':List Nat,An5 (BR H H') (H' lp=some (.lst (ps'.map fun(p:Nat)=>V.int (p:Int)))) (rN n ps') (ps'.length<=200000) (Z'=[some (.int (n:Int)),some (.ref lp),some (.int (l:Int)),some (.int (f:Int))])) ?_ ?_
  ·symm;refine Ca (fun c2=>?_) (fun c2=>?_)
   ·symm;exists Vh rfl t2 ?_;refine oO t2 (by rw[js,sizeLine_eq];lia) ?_;refine⟨ps++[l],Fp hlp s2,?_,I.fin ffl ⋯,by simp;lia,rfl⟩;rw[Ao,ve];rfl
   ·symm;exact⟨ps,s2,t2,I.one ⋯,⋯,rfl⟩
  rintro Z' H2 ⟨ps',s3,t3,I',lf',rfl⟩;symm;exact q lp H2 ps' hlp s3 t3 I' lf'
theorem VJ:C0 2 "comes_again" ["turn","size"] (uN K):=by
 refine co' ["turn","size"] U5 fun nd H vs Q E hr h=>?_;obtain⟨a,z,c,s,rfl,hS,s0,sz,z1,q⟩:=h;exists⟨_,(Af (An (HB Ba (Ai Lh (pxT 0) (pv 1)) (Ai Hf (pxT 0) (Ag Ez (Aa (Ai Do (pxT 0) (pv 1)) Ab))) (Aq _)))),?_⟩;exists Ay hS at1 ?_;exists Dq (show (0:Int)<=(s:Int) by lia) ?_;exists Ay hS at1 ?_;exists Ay hS at0 ?_;exists⟨_,rfl,⋯,⋯,?_⟩;rw[zw,HD,DP,wG,show((z:Int)-(s:Int)).toNat=z-s by lia];exact q
theorem YG:C0 3 "least" ["turn"] (nP K):=by
 refine co' ["turn","size","bits","prime"] uU fun nd H vs Q E hr h=>?_;obtain⟨a,n,b,rfl,hS,n0,n1,hb,q⟩:=h;refine⟨_,(Ae (Am 1 (pxT 0)) (Ae (Am 2 (pxT 0)) (Ae (JM PassesOwn.never rfl (Gu (Ag aF (Aa (pxT 0) Ab))) (CZ (i:=3) nd rfl (by walk_at"o")) (Af (Gr PassesOwn.never (PW.pt (Oh (Al Ba (Ai Bu (pv 1) (pv 3)) Ah (Aq _)) (Kv (Gq (Ag VJ (Aa (BJ (Aa (pv 1) (Aa (pv 2) Ab))) (Aa (Ai Bf (pv 1) (pv 3)) Ab))))))) (Ae (Am 1 (Ai Bf (pv 1) (pv 3))) (Af (Am 2 (Ai Hf (pv 2) (Ag Ez (Aa (pv 1) Ab))))))))) (Af (An (BJ (Aa (pv 1) (Aa (pv 2) Ab)))))))),?_⟩
 symm;exists Ay hS at0 ?_;exists Ay hS at1 ?_;walk_at"f";symm;exists Ay hS at0 ?_;refine⟨n,rfl,n0,n1,fun lp H1 ps hlp s1 t1 PR hl=>?_⟩;refine⟨lp,rfl,⟨_,SqL.of t1⟩,KZ (xs:=ps.map fun(p:Nat)=>V.int (p:Int)) (fun i Z' H'=>BR H1 H'/\Ex3 fun(z c:Nat) (v:Option V)=>An6 (0<z) (z∣n) (c<2^z) (FZ z c n b) (∀p∈ps.take i,Tight z c p) (Z'=[some (.ref a),some (.int (z:Int)),some (.int (c:Int)),v]))
  ⟨BR.refl _,n,b,_,n0,Nat.dvd_refl n,hb,FZ.start hb,(by simp),rfl⟩ ?_ ?_ ?_⟩
 ·rintro i Z' H' _ ⟨s2,_⟩;exact SqL.of (s2 _ _ t1)
 ·rintro i x Z' H' hx ⟨s2,z,c,v,z0,zn,hc,st,ti,rfl⟩;rw[xo] at hx;obtain⟨p,hp,rfl⟩:=ku.mp hx;obtain⟨p2,pn⟩:=PR.mem p (qv hp);symm;refine⟨fun m Z' H'=>BR H1 H'/\∃z c:Nat,0<z/\z∣n/\c<2^z/\FZ z c n b/\(∀p∈ps.take i,Tight z c p)/\Z'=[some (.ref a),some (.int (z:Int)),some (.int (c:Int)),some (.int (p:Int))]/\z=m,⟨_,s2,z,c,z0,zn,hc,st,ti,rfl,rfl⟩,?_⟩;rintro m Z' H' ⟨s3,z,c,z0,zn,hc,st,ti,rfl,rfl⟩;have zl:=kc n0 zn;have leave:∀H4,BR H1 H4->Tight z c p->BR H1 H4/\∃(z' c':Nat) (v:Option V),0<z'/\z'∣n/\c'<2^z'/\FZ z' c' n b/\(∀p∈ps.take (i+1),Tight z' c' p)/\[some (V.ref a),some (.int (z:Int)),some (.int (c:Int)),some (.int (p:Int))]=[some (.ref a),some (.int (z':Int)),some (.int (c':Int)),v]:=
   fun H4 s4 t=>⟨s4,z,c,_,z0,zn,hc,st,fun r hr=>(take_snoc hp hr).elim (ti r) (fun e=>e ▸ t),rfl⟩
  symm;refine Ca (fun c2=>?_) (fun c2=>?_)
  ·have hd:=iW.mp c2;have zp:=Nat.div_pos (kc z0 hd) (show 0<p by lia);have zpl:z/p<z:=Nat.div_lt_self z0 ⋯;have zpd:z/p∣z:=Nat.div_dvd_of_dvd hd;symm;refine⟨DQ,fun pt hpt=>?_⟩;have s4:=s3.trans (Av hpt (.tup [V.int (z:Int),V.int (c:Int)]));have t4:upd H' pt (.tup [V.int (z:Int),V.int (c:Int)]) pt=some (.tup [V.int (z:Int),V.int (c:Int)]):=Ao;generalize upd H' pt (.tup [V.int (z:Int),V.int (c:Int)])=H4 at s4 t4 ⊢;symm;exists Dq (Dv ⋯ ⋯) ?_;rw[<-jk5];exists⟨pt,z,c,z/p,rfl,SqT.of t4,zp,⋯,⋯,?_⟩;have ai:=lL hc zp zpd z0;refine Ca (fun c3=>?_) (fun c3=>?_)
   ·have pr:=ai.mp c3;have st':=pr.strt hc z0;exists⟨_,fun Z' H' hh=>hh,?_⟩;exists Dq (Dv ⋯ ⋯) ?_;rw[<-jk5];exists⟨_,rfl,⋯,⋯,?_⟩;rw[DP,zw];exact⟨z/p,zpl,s4,z/p,_,zp,jm5 zpd zn,HW _ _,st'.comp st zpd z0,fun r hr=>(ti r hr).keep st' zpd zp z0 (by have:=(PR.mem r (jp5 hr)).1;lia),rfl,rfl⟩
   ·obtain⟨l1,l2,l3,l4,l5,l6,l7,l8,l9,l10⟩:=leave H4 s4 fun z=>c3 (ai.mpr z.2);exact⟨l1,l2,l3,l4,l5,l6,l7,l8,l9,l10⟩
  ·symm;refine Fz ?_;obtain⟨l1,l2,l3,l4,l5,l6,l7,l8,l9,l10⟩:=leave H' s3 fun z=>c2 (iW.mpr z.1);exact⟨l1,l2,l3,l4,l5,l6,l7,l8,l9,l10⟩
 ·rintro Z' H' ⟨s2,z,c,v,z0,zn,hc,st,ti,rfl⟩;rw[js,jb4] at ti;symm;refine⟨DQ,fun p hp=>?_⟩;exact q p _ z c ((s1.trans s2).trans (Av hp _)) Ao (Lst.of PR n0 z0 zn hc st ti)
theorem Tv:C0 3 "first_parted" ["one","other","day"] nR:=by
 refine co' ["one","other","day","width","bits"] Rk fun nd H vs Q E hr h=>?_;obtain⟨a1,a2,n,b,m,c,d,rfl,R1,R2,hne,q⟩:=h;refine⟨_,(Ae (Am 3 (Ai Do (Ai Bv (pxT 0) (pxT 1)) (Ag Oz (Aa (pxT 0) (Aa (pxT 1) Ab))))) (Ae (Am 4 (Ai cJ (Ag Fe (Aa (Ag Ia (Aa (pv 0) (Aa (HF Fo (pv 2)) Ab))) (Aa (pv 3) Ab))) (Ag Fe (Aa (Ag Ia (Aa (pv 1) (Aa (HF Fo (pv 2)) Ab))) (Aa (pv 3) Ab))))) (Af (An (Ai Do (Ai Bv (pv 2) (o8 PySem.F.plainAttrs_int jq9 jr0 gC (Ai Hf (pv 4) (HF Fo (pv 4))))) Ah))))),?_⟩
 have n0:=R1.1;have n1:=R1.2.1;have m0:=R2.1;have m1:=R2.2.1;symm;exists Ay R1.sq at0 ?_;exists Ay R2.sq at0 ?_;exists Ay R1.sq at0 ?_;exists Ay R2.sq at0 ?_;refine⟨_,_,rfl,CP ⋯ ⋯ nofun,CP ⋯ ⋯ nofun,fun H1 s1=>?_⟩;have eg:Int.gcd (n:Int) (m:Int)=Nat.gcd n m:=by rw[Int.gcd_eq_natAbs_gcd_natAbs,jl8,jl8]
 have g0:0<Nat.gcd n m:=ji3 m n0;have gl:=kc n0 (jj2 n m);have gl2:=kc m0 (je9 n m);obtain⟨wd,hwd⟩:∃wd:Nat,wd=n+m-Nat.gcd n m:=⟨_,rfl⟩;have ew:(n:Int)+(m:Int)-(Int.gcd (n:Int) (m:Int):Int)=(wd:Int):=by rw[eg];lia
 have fin:∀(e:Int),d<=e->e<d+(wd:Int)->On (n:Int) b e≠On (m:Int) c e->(∀x,d<=x->x<e->On (n:Int) b x=On (m:Int) c x)->Prt n b m c d e:=fun e h1 h2 h3 h4=>⟨h1,by rw[ew];exact h2,h3,h4⟩;symm;rw[ew];clear ew;have S1:=R1.keep s1;have S2:=R2.keep s1;symm;refine⟨a1,_,-d,b,rfl,S1.sq,R1.n0,⋯,R1.lt,fun p1 hp1=>?_⟩;have l1:=KQ (n:Int).toNat b ((-d)%(n:Int)).toNat;have o1:∀i:Nat,On (n:Int) (lat (n:Int).toNat b ((-d)%(n:Int)).toNat) (i:Int)=On (n:Int) b (d+(i:Int)):=fun i=>by
  rw[KN R1.n0 R1.lt]
  congr 1
  lia
 generalize lat (n:Int).toNat b ((-d)%(n:Int)).toNat=c1 at l1 o1 ⊢;exists fresh hp1 fun H2 s2 t2=>?_;exists⟨p1,_,_,c1,rfl,SqT.of t2,R1.n0,⋯,l1,⋯,⋯,fun x1 X1=>?_⟩;have S2':=S2.keep s2;refine⟨a2,_,-d,c,rfl,S2'.sq,R2.n0,⋯,R2.lt,fun p2 hp2=>?_⟩;have l2:=KQ (m:Int).toNat c ((-d)%(m:Int)).toNat;have o2:∀i:Nat,On (m:Int) (lat (m:Int).toNat c ((-d)%(m:Int)).toNat) (i:Int)=On (m:Int) c (d+(i:Int)):=fun i=>by
  rw[KN R2.n0 R2.lt]
  congr 1
  lia
 generalize lat (m:Int).toNat c ((-d)%(m:Int)).toNat=c2 at l2 o2 ⊢;exists fresh hp2 fun H3 s3 t3=>?_;exists⟨p2,_,_,c2,rfl,SqT.of t3,R2.n0,⋯,l2,⋯,⋯,fun x2 X2=>?_⟩;rw[Lx];rw[zw] at X1 X2;have bit:∀i:Nat,i<wd->(x1 ^^^ x2).testBit i=(On (n:Int) b (d+(i:Int)) ^^ On (m:Int) c (d+(i:Int))):=fun i hi=>by
  rw[jm7,X1.bit i hi,X2.bit i hi,<-o1,<-o2];unfold On;simp only[<-Zp,zw]
 have xl:x1 ^^^ x2<2^wd:=js6 X1.lt X2.lt;generalize x1 ^^^ x2=x at bit xl ⊢;have x0:x≠0:=fun z=>hne (Zm n0 m0 (d:=d) fun i hi=>by
  have:=bit i ⋯;rw[z,jf5] at this;revert this;cases On (n:Int) b (d+(i:Int))<;>cases On (m:Int) c (d+(i:Int))<;>simp)
 obtain⟨k,hk,hlow⟩:=AAg x0;have kn:k<wd:=by
  refine jf4 fun z=>?_;rw[high xl z] at hk;cases hk
 have la:=gF k x hk hlow;have eb:Builtin.bitAnd (x:Int) (-(x:Int))=((2^k:Nat):Int):=by
  rw[dW x0];lia
 rw[eb,Ph (by have:=kz k;lia),pO];symm;refine q _ _ ((s1.trans s2).trans s3) (fin _ ⋯ ⋯ ?_ fun y h1 h2=>?_)
 ·have:=bit k kn;rw[hk] at this;intro z;rw[show d+((k+1:Nat):Int)-1=d+(k:Int) by lia] at z;rw[z] at this;simp at this
 ·have:=bit (y-d).toNat ⋯;rw[hlow (y-d).toNat ⋯,jb7 ⋯,show d+(y-d)=y by lia] at this;revert this;cases On (n:Int) b y<;>cases On (m:Int) c y<;>simp
theorem ABL:C0 4 "same" ["one","other","day"] zG:=by
 refine co' ["one","other","day","turn"] s_same fun nd H vs Q E hr h=>?_;obtain⟨a1,a2,n,b,m,c,d,rfl,R1,R2,q⟩:=h;refine⟨_,(Ae (Am 3 (Ag YG (Aa (pv 0) Ab))) (Ae (BK (Al (AAX hr.units0) (pv 3) (Ag YG (Aa (pv 1) Ab)) (Aq _)) (Af (An (BJ (Aa Aj (Aa (pv 3) Ab))))) Ar) (Af (An (BJ (Aa Aj (Aa (Ag Tv (Aa (pv 0) (Aa (pv 1) (Aa (pv 2) Ab)))) Ab))))))),?_⟩
 have n0:=R1.1;have n1:=R1.2.1;have m0:=R2.1;have m1:=R2.2.1;symm;exists⟨a1,n,b,rfl,R1.sq,n0,⋯,R1.2.2.1,fun t1 H1 z x s1 h1 L1=>?_⟩;exists⟨a2,m,c,rfl,(R2.keep s1).sq,m0,⋯,R2.2.2.1,fun t2 H2 z' x' s2 h2 L2=>?_⟩;refine⟨t1,t2,_,_,rfl,rfl,SqT.of (s2 _ _ h1),SqT.of h2,rfl,rfl,?_⟩;by_cases e:z=z'/\x=x'
 ·obtain⟨rfl,rfl⟩:=e;rw[eq2 rfl];symm;exists Gw ?_;refine⟨DQ,fun p hp=>?_⟩;exact q p _ ((s1.trans s2).trans (Av hp _)) (.same t1 z x Ao (Av hp _ _ _ (s2 _ _ h1)) L1 L2)
 ·have ne:Zt [V.int (z:Int),V.int (x:Int)] [V.int (z':Int),V.int (x':Int)]=false:=by
   show(((z:Int)==(z':Int))&&(((x:Int)==(x':Int))&&true))=false;rw[Bool.eq_false_iff];intro y;simp at y;exact e ⟨⋯,⋯⟩
  rw[ne];symm;exists Fz ?_;refine⟨a1,a2,n,b,m,c,d,rfl,R1.keep (s1.trans s2),R2.keep (s1.trans s2),fun hh=>?_,fun r H3 s3 P=>?_⟩
  ·exact e (L1.same L2 fun y=>by rw[<-L1.on n0,<-L2.on m0];exact hh y)
  symm;refine⟨DQ,fun p hp=>?_⟩;exact q p _ (((s1.trans s2).trans s3).trans (Av hp _)) (.parted r Ao P)
theorem El:C0 2 "read_number" ["text"] nA:=by
 refine co' ["text"] Ux fun nd H vs Q E hr h=>?_;obtain⟨i,rfl,hi,q⟩:=h;have N:=JS hi;have tk:=vB hi;refine⟨_,(Ae (BK (PW.pt (Hr (Ih (Gq (BW Tn rfl JC jj5 (Aa (pv 0) (Aa (Xg rfl Dr qq (bh _)) Ab))))) (Gp (Ih (Gq (Ag Kf (Aa (pv 0) Ab))))))) (Af Bc) Ar) (Af (An (BZ GX rfl YX jg2 (Aa (pv 0) Ab))))),?_⟩
 symm;exists bw (.txt _ tk) ?_;exists Fz ?_;refine⟨_,rfl,tk,fun b H1 s1 hb=>?_⟩;have eb:b=true:=hb.mpr (by rw[Bm];exact N.1);subst eb;symm;exists Fz ?_;have r:=Ou (z:=sW (nW i)) (by rw[Bm];exact N.1);rw[Bm,N.2] at r;refine⟨_,_,rfl,?_,r,q _ s1⟩;have:=Er hi;rw[Df];exact zo this nofun
theorem Ke:C0 3 "read_numbers" ["word"] iz:=by
 refine co' ["word"] Rg fun nd H vs Q E hr h=>?_;obtain⟨ns,rfl,hn,nl,sm,q⟩:=h;have sp:=cP hn sm;have jl:=Mw sm;exists⟨_,(Af (An (Fi rfl (Gj ["word"] rfl ∅ rfl ∅ rfl ∅ ∅) (Gu (GR vc jc9 jd0 J9 (pv 0) (Aa Aj Ab))) (fun _ _ _ _=>Ec) (fun _ _ _ _=>(Ag El (Aa (pv 0) Ab)))))),?_⟩;exists Fx (K8 ?_);exists Jo ?_;exists⟨rfl,?_⟩;refine⟨_,44,rfl,by rw[show Str.ofString ","=⟨#[44]⟩ from by ac_rfl],nofun,by rw[Df];lia,fun l hl=>?_⟩;rw[sp];refine fresh hl fun H1 s1 t1=>?_;refine⟨l,rfl,⟨_,SqL.of t1⟩,?_⟩;refine Kc Nu (by rw[js];exact Dz ⋯) (fun D i ys H2=>H2 D=some (.lst ys)/\BR H1 H2/\ys=(ns.take i).map V.int) (fun D hD=>⟨Ao,Av hD _,rfl⟩)
  (fun D i ys H2 _ ⟨h1,h2,h3⟩=>⟨h1,by rw[h3,js];exact List.length_take_le _ _,SqL.of (h2 _ _ t1)⟩) (fun D i x ys H2 hD hx ⟨h1,h2,h3⟩=>?_) (fun D ys H2 hD ⟨h1,h2,h3⟩=>?_)
 ·rw[xo] at hx;obtain⟨n,hn,rfl⟩:=ku.mp hx;exists JG (Gw ?_);refine⟨n,rfl,sm n (qv hn),fun H3 s3=>⟨s3 _ _ h1,Ao,Fp hD (h2.trans s3),?_⟩⟩;rw[ky,hn,jc4,ve,h3];rfl
 ·rw[js,jb4] at h3;subst h3;exact q D H2 (s1.free hD) (s1.trans h2) h1
theorem aA:C0 4 "read_term" ["word"] m9:=by
 refine co' ["word","numbers","sign"] Yz fun nd H vs Q E hr h=>?_;obtain⟨a,b,n,rfl,sm,q⟩:=h;have jl:=Mw sm;have tl:(tW (1,a,b,n)).length<=200:=by show(Fb 44 ([a,b,n].map nW)).length+1<=_;simp only[qr,jj9] at jl;lia
 have l0:1<=(sW (tW (1,a,b,n))).length:=by rw[Df];show 1<=_+1;lia
 have eP:Str.ofString "+"=sW [43]:=∅;have e1:Txt.slice (sW (tW (1,a,b,n))) none (some 1)=Str.ofString "+":=by rw[eP];exact G8 (by rw[jC,Bm,Bm];rfl)
 have e2:Txt.slice (sW (tW (1,a,b,n))) (some 1) none=sW (Fb 44 ([a,b,n].map nW)):=G8 (by rw[PN l0,Bm,Bm];rfl);have fit:(sW (tW (1,a,b,n))).length<=sizeLine:=by rw[Df];exact zo tl nofun
 refine⟨_,(Ae (BK (PW.pt (Oh (Al Gz (Cu W3 (pv 0) Eb (DR Ah)) Aj (Aq _)) (Kv (Al Gz (Cu W3 (pv 0) Eb (DR Ah)) Aj (Aq _))))) (Af Bc) Ar) (Ae (Am 1 (Ag Ke (Aa (Cu W3 (pv 0) (DR Ah) Eb) Ab))) (Ae (BK (Al Gz (BW Bl rfl Ds xi (Aa (pv 1) Ab)) Ah (Aq _)) (Af Bc) Ar) (Ae (Am 2 (Ed (Al Ba (Eu pZ (pv 0) Ah) Aj (Aq _)) Ah (HF Fo Ah))) (Af (An (BJ (Aa (pv 2) (Aa (pxL 1) (Aa (pxL 1) (Aa (pxL 1) Ab))))))))))),?_⟩
 symm;refine⟨_,rfl,fit,?_⟩;rw[e1];symm;refine HJ rfl ?_;exists Fz ?_;refine⟨_,rfl,fit,?_⟩;rw[e2];refine GP ?_;refine⟨[a,b,n],rfl,(fun z=>nomatch z),(by show 3<=3;decide),sm,fun l H1 hl u1 t1=>?_⟩;symm;exists⟨l,_,rfl,.inl (SqL.of t1),?_⟩;exists HJ rfl ?_
 try refine Rz ?_
 symm;refine⟨_,0,43,rfl,rfl,fit,(by show atI (cpl (sW (tW (1,a,b,n)))) 0=some 43;rw[Bm];exact Dw (j:=0) rfl),?_⟩;symm;refine Hn (by rw[eP];rfl) ?_;symm;exists By (SqL.of t1) FW ?_;exists By (SqL.of t1) Jj ?_;exists By (SqL.of t1) YL ?_;refine⟨(by show 4<=sizeLine;decide),fun p hp=>?_⟩;exact q p _ (u1.trans (Av hp _)) Ao
theorem Jb:C0 5 "read_terms" ["words"] iy:=by
 refine co' ["words"] W8 fun nd H vs Q E hr h=>?_;obtain⟨l,a,b,n,rfl,hl,sm,q⟩:=h;exists⟨_,(Af (An (Fi rfl (Gj ["words"] rfl ∅ rfl ∅ rfl ∅ ∅) (Gu (pv 0)) (fun _ _ _ _=>Ec) (fun _ _ _ _=>(Ag aA (Aa (pv 0) Ab)))))),?_⟩;exists Fx (K8 ?_);refine⟨l,rfl,⟨_,SqL.of hl⟩,?_⟩;refine Kc Nu (Dz (by show 1<=1000;decide)) (fun D i ys H2=>H2 D=some (.lst ys)/\BR H H2/\ys.length<=i/\(i=1->∃p,ys=[.ref p]/\H2 p=some (.tup (tmV (1,a,b,n))))) (fun D hD=>⟨Ao,Av hD _,qo _,fun z=>nomatch z⟩)
  (fun D i ys H2 _ ⟨h1,h2,h3,_⟩=>⟨h1,h3,SqL.of (h2 _ _ hl)⟩) (fun D i x ys H2 hD hx ⟨h1,h2,h3,_⟩=>?_) (fun D ys H2 hD ⟨h1,h2,h3,h4⟩=>?_)
 ·obtain rfl:i=0:=by
   have:=(zk.mp hx).1;simpa [wvS] using this
  obtain rfl:V.str (sW (tW (1,a,b,n)))=x:=by simpa [wvS] using hx
  obtain rfl:ys=[]:=jc2.mp (Nat.le_zero.mp h3);exists JG (Gw ?_);refine⟨a,b,n,rfl,sm,fun p H3 s3 hp=>⟨s3 _ _ h1,Ao,Fp hD (h2.trans s3),qo _,fun _=>⟨p,rfl,?_⟩⟩⟩;rw[BP fun z=>by rw[z,s3 _ _ h1] at hp;cases hp];exact hp
 ·obtain⟨p,rfl,hp⟩:=h4 rfl;exact q D p H2 h2 h1 hp
theorem dO:C0 9 "read_sun" ["words"] (Yn K Br Bh Aw "sun"):=by
 refine co' ["words","start","lengths","leap"] bK fun nd H vs Q E hr h=>?_;obtain⟨l,g,rfl,hl,hg,o,q⟩:=h;have gd:=o.good;have bs:=o.bs;cases o with
 | moon=>exact absurd hg (by show ¬"moon"="sun";decide)
 | sun hs l0 l1 hm p0 p1 o=>
 rename_i s' lp a b n ls
 have ms:∀n∈ls,Sm n:=fun n hn=>sm1 (by have:=hm n hn;lia) (by have:=hm n hn;lia);refine⟨_,(Ae (BK (Al Ew (BW Bl rfl Ds xi (Aa (pv 0) Ab)) Ah (Aq _)) (Af Bc) Ar) (Ae (Am 1 (Ag El (Aa (pxL 0) Ab))) (Ae (Am 2 (Ag Ke (Aa (pxL 0) Ab))) (Ae (BK (Al Ba (BW Bl rfl Ds xi (Aa (pv 0) Ab)) Ah (Aq _)) (Af (An (AAT NT (hr.mono nofun) rfl (Aa (pv 1) (Aa (pv 2) Ab))))) Ar) (Ae (BK (PW.pt (Hr (Al Gz (pxL 0) Aj (Aq _)) (Gp (Al Ew (BW Bl rfl Ds xi (Aa (pv 0) Ab)) Ah (Aq _))))) (Af Bc) Ar) (Ae (Am 3 (Ag El (Aa (pxL 0) Ab))) (Af (An (GQ UV (Aa (pv 1) (Aa (pv 2) (Aa (pv 3) (Aa (Ag Jb (Aa (Cu FJ (pv 0) (DR Ah) Eb) Ab)) Ab))))))))))))),?_⟩
 symm;exists⟨l,_,rfl,.inl (SqL.of hl),?_⟩;refine CW (by show ¬(5:Int)<2;decide) ?_;symm;refine By (SqL.of hl) FW ?_;refine GP ?_;refine⟨s',rfl,hs,fun H1 s1=>?_⟩;have h1:=s1 _ _ hl;symm;refine By (SqL.of h1) Jj ?_;refine GP ?_;refine⟨ls,rfl,(fun z=>by rw[z] at l0;exact absurd l0 nofun),l1,ms,fun l2 H2 hl2 s2 t2=>?_⟩;have h2:=s2 _ _ h1;symm;exists⟨l,_,rfl,.inl (SqL.of h2),?_⟩;exists CW (fun z=>nomatch V.int.inj z) ?_;exists By (SqL.of h2) YL ?_;exists HJ (Hg _) ?_;exists⟨l,_,rfl,.inl (SqL.of h2),?_⟩;refine CW (by show ¬(5:Int)<5;decide) ?_;symm;refine By (SqL.of h2) wW ?_;refine GP ?_;refine⟨lp,rfl,sm1 ⋯ ⋯,fun H3 s3=>?_⟩;have h3:=s3 _ _ h2;symm;refine Gg (SqL.of h3) fun u hu=>?_;rw[show Ij (wvS (wC (.sun s' ls lp [(1,a,b,n)]))) (some 4) none=wvS [tW (1,a,b,n)] from Ho _ 4];refine fresh hu fun H4 s4 t4=>?_;refine GP ?_;exists⟨u,a,b,n,rfl,t4,o.sm,fun l5 p H5 s5 t5 hp=>?_⟩;refine fun x dx hx hdx ne=>qF hx hdx ne (s5 _ _ (s4 _ _ (s3 _ _ t2))) (.cons hp .nil) (.inr ⟨l5,rfl,t5⟩) gd bs fun H6 s6 S6=>⟨rfl,?_⟩;exact q x _ ((s1.trans s2).trans ((s3.trans s4).trans (s5.trans s6))) S6
theorem aC:C0 7 "read_moon" ["words"] (Yn K Br Bh Aw "moon"):=by
 refine co' ["words","place","days","many","start","days_base","days_terms","many_base","many_terms"] Y5 fun nd H vs Q E hr h=>?_;obtain⟨l,g,rfl,hl,hg,o,q⟩:=h;have gd:=o.good;have bs:=o.bs;cases o with
 | sun=>exact absurd hg (by show ¬"sun"="moon";decide)
 | moon hs d0 d1 o n2 m0 m1 o' y2=>
 rename_i s' bd a b n bm c e y
 have sbd:Sm bd:=sm1 ⋯ ⋯;have sbm:Sm bm:=sm1 ⋯ ⋯;have es:Str.ofString "/"=sW (sg "/"):=∅;have nn:∀{i:Int},Sm i->sW (nW i)≠Str.ofString "/":=fun{i} hi z=>by
  rw[es] at z;have z:=ya cpl z;rw[Bm,Bm] at z;have:=Ii hi 47 (by rw[z];ac_rfl);lia
 have nt:∀{t:Tm},sW (tW t)≠Str.ofString "/":=fun{t} z=>by
  rw[es] at z;have z:=ya cpl z;rw[Bm,Bm,show sg "/"=[47] by ac_rfl] at z;exact absurd (List.cons.inj z).1 nofun
 have eW:wvS (wC (.moon s' bd [(1,a,b,n)] bm [(1,c,e,y)]))=([sW (nW s'),sW (nW bd),sW (tW (1,a,b,n)),Str.ofString "/",sW (nW bm),sW (tW (1,c,e,y))]:List Str).map V.str:=by
  rw[es];rfl
 rw[eW] at hl;refine⟨_,(Ae (BK (Al Gz (GR vk PySem.F.slot_list_count PySem.F.type_list_count jg (pv 0) (Aa Aj Ab)) Ah (Aq _)) (Af Bc) Ar) (Ae (Am 1 (GR vk PySem.F.slot_list_index PySem.F.type_list_index jf (pv 0) (Aa Aj Ab))) (Ae (Am 2 (Cu FJ (pv 0) (DR Ah) (DR (pv 1)))) (Ae (Am 3 (Cu FJ (pv 0) (DR (Ai Bv (pv 1) Ah)) Eb)) (Ae (BK (PW.pt (Hr (Al Ew (BW Bl rfl Ds xi (Aa (pv 2) Ab)) Ah (Aq _)) (Gp (Al Ew (BW Bl rfl Ds xi (Aa (pv 3) Ab)) Ah (Aq _))))) (Af Bc) Ar) (Ae (Am 4 (Ag El (Aa (pxL 0) Ab))) (Ae (Am 5 (Ag El (Aa (pxL 2) Ab))) (Ae (Am 6 (Ag Jb (Aa (Cu FJ (pv 2) (DR Ah) Eb) Ab))) (Ae (Am 7 (Ag El (Aa (pxL 3) Ab))) (Ae (Am 8 (Ag Jb (Aa (Cu FJ (pv 3) (DR Ah) Eb) Ab))) (Af (An (GQ Qv (Aa (pv 4) (Aa (GQ Gk (Aa (pv 5) (Aa (pv 6) Ab))) (Aa (GQ Gk (Aa (pv 7) (Aa (pv 8) Ab))) Ab)))))))))))))))),?_⟩
 symm;exists Jo ?_;exists⟨.inl ⟨rfl,_,SqL.of hl⟩,?_⟩;refine⟨l,_,_,rfl,rfl,SqL.of hl,?_⟩;rw[jf8 (nn hs),jf8 (nn sbd),jf8 nt,List.count_cons_self,jf8 (nn sbm),jf8 nt,List.count_nil];symm;exists HJ rfl ?_;exists Jo ?_;exists⟨.inl ⟨rfl,_,SqL.of hl⟩,?_⟩;refine⟨l,_,Str.ofString "/",3,rfl,rfl,SqL.of hl,rfl,?_,?_⟩
 ·intro m hm z
  match m,hm,z with
  | 0,_,z=>exact nn hs (uk z)
  | 1,_,z=>exact nn sbd (uk z)
  | 2,_,z=>exact nt (uk z)
 symm;refine Gg (SqL.of hl) fun u1 hu1=>?_;refine fresh hu1 fun H1 s1 t1=>?_;have t1:H1 u1=some (.lst (wvS [nW bd,tW (1,a,b,n)])):=t1;have l1:=s1 _ _ hl;symm;refine Gg (SqL.of l1) fun u2 hu2=>?_;refine fresh hu2 fun H2 s2 t2=>?_;have t2:H2 u2=some (.lst (wvS [nW bm,tW (1,c,e,y)])):=t2;have l2:=s2 _ _ l1;have k2:=s2 _ _ t1;symm;exists⟨u1,_,rfl,.inl (SqL.of k2),?_⟩;refine CW (by show ¬(2:Int)<1;decide) ?_;symm;exists⟨u2,_,rfl,.inl (SqL.of t2),?_⟩;refine CW (by show ¬(2:Int)<1;decide) ?_;symm;refine By (SqL.of l2) FW ?_;refine GP ?_;refine⟨s',rfl,hs,fun H3 s3=>?_⟩;have k3:=s3 _ _ k2;have t3:=s3 _ _ t2;symm;refine By (SqL.of k3) FW ?_;refine GP ?_;refine⟨bd,rfl,sbd,fun H4 s4=>?_⟩;have k4:=s4 _ _ k3;have t4:=s4 _ _ t3;symm;refine Gg (SqL.of k4) fun u5 hu5=>?_;rw[show Ij (wvS [nW bd,tW (1,a,b,n)]) (some 1) none=wvS [tW (1,a,b,n)] from Ho _ 1];refine fresh hu5 fun H5 s5 t5=>?_;refine GP ?_;refine⟨u5,a,b,n,rfl,t5,o.sm,fun ld pd H6 s6 D6 P6=>?_⟩;have t6:=s6 _ _ (s5 _ _ t4);symm;refine By (SqL.of t6) FW ?_;refine GP ?_;refine⟨bm,rfl,sbm,fun H7 s7=>?_⟩;have t7:=s7 _ _ t6;symm;refine Gg (SqL.of t7) fun u8 hu8=>?_;rw[show Ij (wvS [nW bm,tW (1,c,e,y)]) (some 1) none=wvS [tW (1,c,e,y)] from Ho _ 1];refine fresh hu8 fun H8 s8 t8=>?_;refine GP ?_;refine⟨u8,c,e,y,rfl,t8,o'.sm,fun lm pm H9 s9 M9 Q9=>?_⟩;have s69:=s7.trans (s8.trans s9);symm;refine fun y1 dy hy hdy ne=>Xy hy hdy ne (.cons (s69 _ _ P6) .nil) (.inr ⟨ld,rfl,s69 _ _ D6⟩) o.tm (by show 1<=6;decide) (qI gd.fd gd.gd) (YS o.tm gd.fd (by rw[cC o.n0];have:=o.n0;lia)) fun H10 s10 N10=>⟨rfl,?_⟩;clear hy hdy ne;symm;refine fun y2 dy hy hdy ne=>Xy hy hdy ne (.cons (s10 _ _ Q9) .nil) (.inr ⟨lm,rfl,s10 _ _ M9⟩) o'.tm (by show 1<=6;decide) (qI gd.fm ⋯) (YS o'.tm gd.fm (by rw[cC o'.n0];have:=o'.n0;lia)) fun H11 s11 O11=>⟨rfl,?_⟩;have N11:=N10.same s11;clear hy hdy ne;symm;refine fun x dx hx hdx ne=>jz hx hdx ne N11 O11 gd bs fun H12 s12 S12=>⟨rfl,?_⟩;exact q x _ (((s1.trans s2).trans (s3.trans s4)).trans (((s5.trans s6).trans s69).trans ((s10.trans s11).trans s12))) S12
theorem Qo:C0 10 "read_calendar" ["text"] (nD K Br Bh Aw):=by
 refine co' ["text","words"] QW fun nd H vs Q E hr h=>?_;obtain⟨g,rfl,o,q⟩:=h;obtain⟨sp,tl,tk⟩:=o.tx;refine⟨_,(Ae (BK (Ih (Gq (Ag La (Aa (pv 0) Ab)))) (Af Bc) Ar) (Ae (Am 1 (GR vc jc9 jd0 J9 (pv 0) (Aa Aj Ab))) (Ae (BK (Al Ba (pxL 1) Aj (Aq _)) (Af (An (Ag dO (Aa (Cu FJ (pv 1) (DR Ah) Eb) Ab)))) Ar) (Ae (BK (Al Ba (pxL 1) Aj (Aq _)) (Af (An (Ag aC (Aa (Cu FJ (pv 1) (DR Ah) Eb) Ab)))) Ar) (Af Bc))))),?_⟩
 symm;refine⟨_,rfl,tk,by rw[Df];lia,?_⟩;symm;exists Fz ?_;exists Jo ?_;exists⟨rfl,?_⟩;refine⟨_,32,rfl,by rw[show Str.ofString " "=⟨#[32]⟩ from by ac_rfl],nofun,tk.len,fun l hl=>?_⟩;refine fresh hl fun H1 s1 t1=>?_;have t1:H1 l=some (.lst (wvS (wdC g))):=by rw[t1,bF,Bm,sp,ua];rfl
 symm;exists By (SqL.of t1) FW ?_;have ec:Ij (wvS (wdC g)) (some 1) none=wvS (wC g):=Ho _ 1;cases hg:ADJ g with
 | true=>
  have hh:hC g="sun":=by cases g with
   | sun=>rfl
   | moon=>cases hg
  rw[hh];exists Hn (Hg _) ?_;refine Gg (SqL.of t1) fun u hu=>?_;rw[ec];refine GP ?_;exact⟨u,g,rfl,Ao,hh,o,fun x H3 s3 C=>q x _ ((s1.trans (Av hu _)).trans s3) C⟩
 | false=>
  have hh:hC g="moon":=by cases g with
   | sun=>cases hg
   | moon=>rfl
  rw[hh];exists CW (YZ ∅) ?_;exists By (SqL.of t1) FW ?_;rw[hh];exists Hn (Hg _) ?_;refine Gg (SqL.of t1) fun u hu=>?_;rw[ec];refine GP ?_;exact⟨u,g,rfl,Ao,hh,o,fun x H3 s3 C=>q x _ ((s1.trans (Av hu _)).trans s3) C⟩
theorem Tr:C0 1 "words_of_row" ["row"] zH:=by
 refine co' ["row","words","form","wanted"] Rf fun nd H vs Q E hr h=>?_;obtain⟨R,rfl,ok,q⟩:=h;have tok:=R.tok ok;obtain⟨rs,eh⟩:=R.head;have e32:Str.ofString " "=⟨#[32]⟩:=∅;refine⟨_,(Ae (BK (Ih (Gq (BW Tn rfl JC jj5 (Aa (pv 0) (Aa (Xg rfl Dr qq (bh _)) Ab)))))
  (Af Bc)
  Ar)
  (Ae (Am 1 (GR vc jc9 jd0 J9 (pv 0) (Aa Aj Ab)))
  (Ae (BK (Xb (cI (pxL 1) (CN rfl Gb.m (G9 _))))
   (Af Bc)
   Ar)
  (Ae (Am 2 (SX (CN rfl Gb.m (G9 _)) (pxL 1) (fun _ _=>rfl)))
  (Ae (Ff (BK (Al Ba (Eu Lr (pv 2) (HF Fo Ah) (fun _ _=>rfl)) Aj (Aq _))
   (Af (Am 1 (GR vc jc9 jd0 jc (pv 0) (Aa Aj (Aa (BW Bl rfl Ds xi (Aa (pv 2) Ab)) Ab)))))
   Ar))
  (Ae (Am 3 (Ai Bv (BW Bl rfl Ds xi (Aa (pv 2) Ab)) Ah))
  (Ae (BK (PW.pt (Hr (Al Ew (BW Bl rfl Ds xi (Aa (pv 1) Ab)) (pv 3) (Aq _)) (Gp (PW.pt (Oh (Al Ft (BW Bl rfl Ds xi (Aa (pv 1) Ab)) (pv 3) (Aq _)) (Kv (Al Gz (pxL 1) Aj (Aq _))))))))
   (Af Bc)
   Ar)
  (Af (An (pv 1)))))))))),?_⟩
 symm;exists bw (.txt _ tok) ?_;exists Fz ?_;exists Jo ?_;exists⟨rfl,?_⟩;refine⟨_,32,rfl,by rw[e32],nofun,tok.len,fun l hl=>?_⟩;refine fresh hl fun H1 s1 t1=>?_;rw[bF,Bm,eh,zv,zv,J2] at t1;symm;unfold eN;symm;exists By (SqL.of t1) FW ?_;refine⟨_,_,.inr R.hd,rfl,Gb.d,rfl,?_⟩;rw[S9];exists⟨_,rfl,Fz ?_⟩;unfold bC;symm;exists By (SqL.of t1) FW ?_;exists⟨_,_,.inr R.hd,_,rfl,Gb.d,rfl,S9 _ R,?_⟩;refine FN (fun Z' H'=>BR H H'/\∃l',An3 (H l'=none) (Z'=[some (.str (sW R.T)),some (.ref l'),some (.ref (Zi R.fi)),none]) (H' l'=some (.lst (.str R.hd::wkV R.ws)))) ?_ ?_
 ·symm;rcases R.kind ok with ⟨nm,w,hn,ew⟩ | ⟨e1,z,hz,e2⟩
  ·have fs:=Gb.s R;rw[ew] at fs;exists Ay (fs _) (show _=some (V.str "TEXT") from rfl) ?_;exists Hn rfl ?_;exists Jo ?_;exists⟨rfl,?_⟩;exists⟨_,_,rfl,.inr (fs _),?_⟩;refine⟨_,32,cpl R.hd,nm,w,rfl,by rw[e32];rfl,nofun,?_,fun y=>((X3 R).1 32 y).2 rfl,fun y=>by have:=(Jl.wc hn).2 32 y;unfold wch at this;lia,tok.len,fun l2 h2=>fresh h2 fun H2 s2 t2=>?_⟩
   ·show cpl (sW R.T)=_;rw[Bm];unfold Row.T;rw[ew];rfl
   symm;refine⟨s1.trans s2,l2,s1.free h2,rfl,?_⟩;rw[t2,ew];exact ya (fun z=>some (HO.lst (V.str z::_))) (J2 R.hd)
  ·exists Ay (Gb.s R _) e2 ?_;exists CW (fun y=>hz (V.str.inj y)) ?_;refine⟨s1,l,hl,rfl,?_⟩;rw[eh] at e1;rw[t1,(List.cons.inj e1).2];unfold wkV;rw[ua,ua];rfl
 rintro Z' H2 ⟨s2,l',hl',rfl,t2⟩;have ln:((V.str R.hd::wkV R.ws).length:Int)=((R.ws.map fun w=>V.str w.k).length:Int)+1:=by unfold wkV;rw[qr,js,js];lia
 symm;exists⟨_,_,rfl,.inr (Gb.s R _),?_⟩;exists⟨_,_,rfl,.inl (SqL.of t2),?_⟩;rw[ln];exists CW ⋯ ?_;exists⟨_,_,rfl,.inl (SqL.of t2),?_⟩;rw[ln];refine CW ⋯ ?_;exists Fz ?_;exact q l' H2 hl' s2 t2
theorem WF:C0 1 "kept_by" ["kept","name"] zQ:=by
 refine co' ["kept","name"] jM fun nd H vs Q E hr h=>?_;obtain⟨a,kv,nm,v,rfl,ha,hv,q⟩:=h;have dg:Qz H a (.str (sW nm)) (some v):=by rw[<-hv];exact Qz.k (k:=.inr (sW nm)) ha
 refine⟨_,(Ae (BK (Xb (Vn (gP hr) (pv 1) (pv 0)))
  (Af Bc)
  Ar)
  (Af (An (fY (gP hr) (pv 0) (pv 1) (fun _ _=>rfl))))),?_⟩
 symm;unfold Wn;symm;refine⟨a,_,rfl,dg,?_⟩;refine⟨_,rfl,?_⟩;exists Fz ?_;unfold mU;symm;exact⟨a,v,rfl,dg,q⟩
theorem aD:C0 1 "read_date" ["text"] ACN:=co (st:=Y6) (by walk_at"g") (by walk_at"b") fun _=>⟨fun _ _ _ _ h=>h.elim,fun _ _ _ _ _ _ _ _ _ _ _ _ _ h=>h.elim⟩
theorem aL:C0 3 "looked_up" ["desk","kind","word"] (zP Eo):=by
 refine co' ["desk","kind","word"] ZD fun nd H vs Q E hr h=>?_;obtain⟨x,kv,k,rfl,ok,⟨dx,a,r,hx,hr'⟩,hn,q⟩:=h;have ne:∀{a b:String},decide (Str.ofString a=Str.ofString b)=false->V.str (Str.ofString a)≠V.str (Str.ofString b):=fun h z=>of_decide_eq_false h (V.str.inj z);refine⟨_,(Ae (BK (PW.pt (Oh (Al Ba (pv 1) Aj (Aq _)) (Kv (Ih (Gq (Ag WK (Aa (pv 2) Ab))))))) (Af Bc) Ar) (Ae (BK (Al Ba (pv 1) Aj (Aq _)) (Af (An (Ag WF (Aa (Bq (pv 0) (by rfl)) (Aa (pv 2) Ab))))) Ar) (Ae (BK (Al Ba (pv 1) Aj (Aq _)) (Af (An (Ag WF (Aa (Bq (pv 0) (by rfl)) (Aa (pv 2) Ab))))) Ar) (Ae (BK (Al Ba (pv 1) Aj (Aq _)) (Af (An (Ag El (Aa (pv 2) Ab)))) Ar) (Ae (BK (Al Ba (pv 1) Aj (Aq _)) (Af (An (Ag aD (Aa (pv 2) Ab)))) Ar) (Af (An (pv 2)))))))),?_⟩
 symm;cases k with
 | nm n=>
  exists Hn rfl ?_;refine⟨_,rfl,⟨GF.mpr (by rw[Bm];exact(Wk.box ok).1),by rw[Df];have:=(Wk.box ok).2.1;lia⟩,fun v H1 s1 hv=>?_⟩;rw[hv.mpr (by rw[Bm];exact ok)];exists⟨_,rfl,Fz ?_⟩;exists CW (ne ∅) ?_;exists CW (ne ∅) ?_;exists CW (ne ∅) ?_;exists CW (ne ∅) ?_;exact q _ _ s1 rfl
 | tx d=>
  refine CW (ne ∅) ?_;exists Fz ?_;exists CW (ne ∅) ?_;exists CW (ne ∅) ?_;exists CW (ne ∅) ?_;exists CW (ne ∅) ?_;exact q _ _ (BR.refl _) rfl
 | ru n=>
  obtain⟨v,hv⟩:=hn n rfl;refine CW (ne ∅) ?_;exists Fz ?_;exists CW (ne ∅) ?_;exists Hn rfl ?_;exists⟨x,Eo,dx,_,_,rfl,hx,Ck,G4,rfl,?_⟩;exact⟨r,kv,n,v,rfl,hr',hv,q v _ (BR.refl _) hv⟩
 | nu i=>
  refine CW (ne ∅) ?_;exists Fz ?_;exists CW (ne ∅) ?_;exists CW (ne ∅) ?_;exists Hn rfl ?_;exact⟨i,rfl,ok,fun H1 s1=>q _ _ s1 rfl⟩
theorem VH:C0 2 "named_rules" ["desk","names"] (tZ Eo):=by
 refine co' ["desk","names"] Uy fun nd H vs Q E hr h=>?_;obtain⟨x,l,rfl,hl,q⟩:=h;exists⟨_,(Af (An (Fi rfl (Eg ["desk","names"] ["desk","names"] rfl rfl (by with_unfolding_all rfl) ∅ rfl ∅ rfl ∅ (by walk_at"fm") (by with_unfolding_all rfl) (by with_unfolding_all rfl)) (Gu (pv 1)) (fun _ _ _ _=>Ec) (fun _ _ _ _=>ACp)))),?_⟩;exists Fx (K8 ?_);refine⟨l,rfl,⟨_,SqL.of hl⟩,?_⟩;refine IW (Nu (xs:=[])) (by show 0<sizeLine;decide) ?_ (fun _=>true) (fun _=>V.non) (fun x hx=>nomatch hx) (fun x hx=>nomatch hx) (fun D hD=>?_)
 ·exact fun D ys hD=>SqL.of (by rw[BP (Bx hl hD)];exact hl)
 ·refine fresh hD fun H1 s1 t1=>?_;exact q D H1 hD s1 t1
theorem lH:C0 20 "tell_on" ["given"] (ACI K Bg CL):=by
 refine co' ["given"] jH fun nd H vs Q E hr h=>?_;obtain⟨l,y,n,d,b,rfl,hl,R,q⟩:=h;exists⟨_,(Af (An (Ed (Gq (SN qt (hr.mono nofun) (pxL 0) (Aa (pxL 0) Ab))) Aj Aj))),?_⟩
 try refine Rz ?_
 symm;exists By (SqL.of hl) FW ?_;obtain⟨C,dr,fs,m,hr,_,_,l3⟩:=R.mt;exists⟨y,C,dr,fs,_,m _,rfl,hr,l3,?_⟩;exists By (SqL.of hl) Jj ?_;exists⟨jg8,y,n,d,b,rfl,R,?_⟩;cases hb:On n b d with
 | true=>
  rw[hb] at q;exists Gw ?_;exact q
 | false=>
  rw[hb] at q;exists Fz ?_;exact q
theorem Z7:C0 20 "tell_size" ["given"] (tO K Bg CL):=by
 refine co' ["given"] Yt fun nd H vs Q E hr h=>?_;obtain⟨l,y,n,b,rfl,hl,R,q⟩:=h;obtain⟨n0,n1,lt⟩:=R.rnd;exists⟨_,(Af (An (BZ BV rfl Dr qq (Aa (Eu Lr (Ag YG (Aa (CK CG (pxL 0)) Ab)) Ah (fun _ _=>rfl)) Ab)))),?_⟩;exists By (SqL.of hl) FW ?_;obtain⟨C,dr,fs,m,hr,l1,_⟩:=R.mt;exists⟨y,C,dr,fs,_,m _,rfl,hr,l1,?_⟩;exists⟨jg8,y,_,b,rfl,R,fun p hp=>?_⟩;exists⟨p,n,b,rfl,SqT.of hp,n0,n1,lt,fun p2 H1 z c s1 t1 L=>?_⟩;exists Ay (SqT.of t1) FW ?_;refine⟨_,rfl,gH (zo (kc n0 L.dv) ⋯),?_⟩;have:=q z c H1 s1 L
 rwa [show sW (nW (z:Int))=DY (z:Int) from J2 _] at this
theorem YF:C0 1 "paper_text" ["paper"] ACL:=by
 refine co' ["paper","word","number"] W9 fun nd H vs Q E hr h=>?_;obtain⟨p,w,e,r,rfl,hp,wl,lg,q⟩:=h;refine⟨_,(Ae (Am 1 (pxT 0)) (Ae (Am 2 (pxT 0)) (Af (An (JQ (DW (JR hr.toN (pv 1)) (DW Aj (DW (JR hr.toN (pv 2)) Lf)))))))),?_⟩
 symm;exists Ay (SqT.of hp) FW ?_;exists Ay (SqT.of hp) Jj ?_;refine ACf 0 10 nofun wl nofun rfl fun l1=>?_;refine Jm _ l1 nofun fun l2=>PP _ l2 nofun rfl lg fun l3=>JH (fits l3 nofun) ?_;have e0:(Str.empty++w++Str.ofString " "++DY e)=sW (cpl w++(sg " "++nW e)):=G8 (by rw[Bm,Kz,Kz,Kz,yK,jh4,Zs];rfl);symm;have q:=q;rw[<-e0] at q;exact q
theorem Z8:C0 20 "tell_same" ["given"] (ADn K Bg CL Wg C70):=by
 refine co' ["given","paper","size"] Yu fun nd H vs Q E hr h=>?_;obtain⟨l,y,y',n,b,m,c,d,rfl,hl,R1,R2,sd,cf,g⟩:=h;obtain⟨n0,n1,lt⟩:=R1.rnd;obtain⟨m0,m1,lt'⟩:=R2.rnd;refine⟨_,(Ae (Am 1 (Ag ABL (Aa (CK CG (pxL 0)) (Aa (CK CG (pxL 0)) (Aa (pxL 0) Ab)))))
  (Ae (BK (Al Ba (pxT 1) Aj (Aq _))
   (Ae (Am 2 (Eu Lr (pxT 1) Ah (fun _ _=>rfl)))
  (Af (An (JQ (DW Aj (DW (JR hr.toN (pv 2)) Lf))))))
   Ar)
  (Af (An (Ag YF (Aa (pv 1) Ab)))))),?_⟩
 symm;exists By (SqL.of hl) FW ?_;obtain⟨C,dr,fs,mm,hr,l1,_⟩:=R1.mt;exists⟨y,C,dr,fs,_,mm _,rfl,hr,l1,?_⟩;exists⟨jg8,y,_,b,rfl,R1,fun p hp=>?_⟩;exists By (SqL.of hl) Jj ?_;obtain⟨C',dr',fs',mm',hr',l1',_⟩:=R2.mt;exists⟨y',C',dr',fs',_,mm' _,rfl,hr',l1',?_⟩;exists⟨jg8,y',_,c,rfl,R2,fun p' hp'=>?_⟩;exists By (SqL.of hl) YL ?_;obtain⟨c1,c2⟩:=cf;refine⟨p,p',n,b,m,c,d,rfl,⟨n0,c1,lt,hp⟩,⟨m0,c2,lt',hp'⟩,fun pp H1 s1 S=>?_⟩;cases S with
 | same t z x ht hz L1 L2=>
  symm;exists Ay (SqT.of ht) FW ?_;exists Hn rfl ?_;exists Ay (SqT.of ht) Jj ?_;exists Ay (SqT.of hz) FW ?_;have lg:=gH (n:=z) (zo (kc n0 L1.dv) ⋯);refine Jm 0 nofun nofun fun l1=>PP _ l1 nofun rfl lg fun l2=>JH (fits l2 nofun) ?_;have e0:(Str.empty++Str.ofString "same "++DY (z:Int))=sW (sg "same "++nW (z:Int)):=G8 (by rw[Bm,Kz,Kz,yK,jh4];rfl);rw[e0];exact g.1 z x H1 s1 L1 L2
 | parted e ht P=>
  symm;exists Ay (SqT.of ht) FW ?_;exists CW (fun z=>absurd (V.str.inj z) ∅) ?_;have:=P.ge;have:=P.lt;exact⟨pp,_,e,[],rfl,ht,∅,AAh sd ⋯ ⋯,g.2 e H1 s1 P⟩
theorem Qx:CI0 1 "Desk" Eo ["self"] (zV K ⟨Eo,Br,Bh,Aw,Bg,CL⟩):=by
 refine ci' ["self"] Qh fun nd H vs Q E hr h=>?_;obtain⟨H0,x,dx,rfl,hx,hd,ne,rfl,q⟩:=h;refine⟨_,(Ae (FP (pv 0) ZW (by rfl)) (Af (FP (pv 0) ZW (by rfl)))),?_⟩
 symm;intro d1 n1;symm;have a1:d1≠x:=fun z=>by rw[z,Ao] at n1;cases n1
 have a2:d1≠dx:=fun z=>by rw[z,BP ne,Ao] at n1;cases n1
 have n1':H0 d1=none:=by rw[BP a1,BP a2] at n1;exact n1
 refine⟨x,Eo,dx,[],rfl,by rw[BP a1.symm];exact Ao,Ck,Fv,nofun,?_⟩;symm;intro d2 n2;symm;have b1:d2≠x:=fun z=>by rw[z,Ao] at n2;cases n2
 have b2:d2≠d1:=fun z=>by rw[z,BP a1,Ao] at n2;cases n2
 have b3:d2≠dx:=fun z=>by rw[z,BP ne,BP a2.symm,BP ne,Ao] at n2;cases n2
 have n2':H0 d2=none:=by rw[BP b1,BP b2,BP b1,BP b3] at n2;exact n2
 refine⟨x,Eo,dx,_,rfl,by rw[BP b1.symm];exact Ao,Ck,G4,(by show 1<1000;decide),?_⟩;refine q _ (fun y u e=>?_) ⟨dx,d1,d2,[],Ao,?_,?_,qo _,b2,fun _ _ _ z=>nomatch z⟩
 ·have c1:y≠x:=Bx e hx;rw[BP c1,BP (Bx e n2'),BP c1,BP (Bx e n1'),BP c1,BP (Bx e hd)];exact e
 ·show _=_;rw[BP a1,BP b2.symm,BP a1];exact Ao
 ·rw[BP b1];exact Ao
theorem Nh:CI0 1 "Change" qu ["self","old","new","day"] ACN:=ci (st:=Mj) (by walk_at"k") (by walk_at"k") (by walk_at"k") (by walk_at"h") (by walk_at"b") fun _=>⟨fun _ _ _ _ h=>h.elim,fun _ _ _ _ _ _ _ _ _ _ _ _ _ h=>h.elim⟩
theorem ABN:C0 133 "keep" ["desk","word","given"] (zR K ⟨Eo,Br,Bh,Aw,Bg,CL⟩):=by
 refine co' ["desk","word","given","name"] zg (len:=by intro _ _ _ _ h;obtain⟨x,l,c,j,m,D,lb,⟨g,rfl,_⟩ | ⟨nm,p,g,rfl,_⟩⟩:=h<;>rfl) fun nd H vs Q E hr h=>?_;obtain⟨x,l,c,j,m,DK,lb,h⟩:=h;obtain⟨dx,a,r,kv,hx,hc,hk,lk,na,hm⟩:=DK.ex;refine⟨_,(Ae (Am 3 (pxL 2)) (Ae (Ff (BK (Al Ba (pv 1) Aj (Aq _)) (Af (Xc (uj (jk8 (by decide:1<=64) _) hr.units) (Bq (pv 0) (by rfl)) (pv 3) (Ag Qo (Aa (pxL 2) Ab)) rfl)) (Af (Ff (BK (Al Ba (pv 1) Aj (Aq _)) (Af (Xc (uj (jk8 (by decide:1<=64) _) hr.units) (Bq (pv 0) (by rfl)) (pv 3) (GQ Nh (Aa (pxL 2) (Aa (pxL 2) (Aa (pxL 2) Ab)))) rfl)) (Af (Xc (uj (jk8 (by decide:1<=64) _) hr.units) (Bq (pv 0) (by rfl)) (pv 3) (Ag aB (Aa (pxL 2) (Aa (Bq (pv 0) (by rfl)) Ab))) rfl))))))) (Af (An Aj)))),?_⟩
 rcases h with ⟨g,rfl,hl,o,rfl,q⟩ | ⟨nm,p,g,rfl,hl,rfl,D0,fi,q⟩
 ·symm;exists By (SqL.of hl) FW ?_;refine FN (fun _ H'=>Q (.str "ok") H') ?_ (fun Z' H' h=>by symm;exact h);symm;refine Hn rfl ?_;unfold oE;symm;exists By (SqL.of hl) Jj ?_;exists⟨g,rfl,o,fun y H1 s1 C1=>?_⟩;exists⟨x,Eo,dx,_,_,rfl,s1 _ _ hx,Ck,Fv,rfl,?_⟩;have h0:=s1 _ _ hc;have kd:=Kd.put h0 (kv':=putK [] (.inr (sW (sg "c"))) (.ref y));refine⟨a,_,rfl,aV.k (k:=.inr (sW (sg "c"))) h0 nofun,q _ ((Kd.of s1).trans kd) ⟨dx,a,r,kv,kd.ins (s1 _ _ hx),⟨_,y,Ao,rfl,Ey.kd kd C1⟩,by rw[BP na];exact s1 _ _ hk,lk,na,fun nm n b e=>?_⟩⟩;obtain⟨y',g1,g2⟩:=hm nm n b e;exact⟨y',g1,(g2.same s1).kd kd⟩
 ·symm;exists By (SqL.of hl) FW ?_;refine FN (fun _ H'=>Q (.str "ok") H') ?_ (fun Z' H' h=>by symm;exact h);symm;refine CW (fun z=>absurd (V.str.inj z) ∅) ?_;exists FN (fun _ H'=>Q (.str "ok") H') ?_ (fun Z' H' h=>h);refine CW (fun z=>absurd (V.str.inj z) ∅) ?_;unfold oE;symm;exists By (SqL.of hl) Jj ?_;exists⟨x,Eo,dx,_,_,rfl,hx,Ck,Fv,rfl,?_⟩;exists⟨a,p,g,rfl,fi.ok,fi.kn,fi.tl,fi.dp,fi.mn,D0,hc,fi.sz,fun y H1 s1 R E=>?_⟩;exists⟨x,Eo,dx,_,_,rfl,s1 _ _ hx,Ck,G4,rfl,?_⟩;have h0:=s1 _ _ hk;have kd:=Kd.put h0 (kv':=putK kv (.inr (sW nm)) (.ref y));have sp:=PT.sz_pos D0 fi.ok;refine⟨r,_,rfl,aV.k (k:=.inr (sW nm)) h0 (uj lk (uj lb nofun)),q _ ((Kd.of s1).trans kd) ⟨dx,a,r,_,kd.ins (s1 _ _ hx),?_,Ao,zo (KH _ _ _) ⋯,na,fun k n b' e=>?_⟩ E⟩
  ·obtain⟨kv',y',e1,e2,e3⟩:=hc;exact⟨kv',y',by rw[BP (Ne.symm na)];exact s1 _ _ e1,e2,Ey.kd kd (Ey.same e3 s1)⟩
  ·unfold setM at e;rw[lZ];split at e
   ·rename_i z
    subst z;cases e;exact⟨y,xp rfl,by rw[jb7 ⋯];exact R.kd kd⟩
   ·rename_i z
    obtain⟨y',g1,g2⟩:=hm k n b' e;exact⟨y',by rw[xy fun w=>z (by have:=ya cpl (Sum.inr.inj w);rwa [Bm,Bm] at this)];exact g1,(g2.same s1).kd kd⟩
theorem En:CM0 134 Eo "say" ["self","row"] (Vf K ⟨Eo,Br,Bh,Aw,Bg,CL⟩):=by
 refine cm' ["self","row","words","form","given"] bZ fun nd H vs Q E hr h=>?_;obtain⟨x,c,j,m,R,rfl,ok,DK,lb,SQ⟩:=h;obtain⟨dx,a,r,kv,hx,hc,hk,lk,na,hm⟩:=DK.ex;have nn:∀{nm n b},m nm=some (n,b)->∃v,GK kv (.inr (sW nm))=some v:=fun e=>by
  obtain⟨y,h1,_⟩:=hm _ _ _ e;exact⟨_,h1⟩
 have en:∀n,.ru n∈R.ws->∃v,GK kv (.inr (sW n))=some v:=fun n hn=>by
  cases R with
  | cal=>simp[Row.ws] at hn
  | rule=>simp[Row.ws] at hn
  | same=>
   obtain⟨_,_,_,_,e1,e2,_⟩:=SQ;simp[Row.ws] at hn;rcases hn with z | z
   ·exact z ▸ nn e1
   ·exact z ▸ nn e2
  | _=>
   obtain⟨_,_,e,_⟩:=SQ;simp[Row.ws] at hn;exact hn ▸ nn e
 have dk:DkH Eo H x kv:=⟨dx,a,r,hx,hk⟩;refine⟨_,(Ae (Am 2 (Ag Tr (Aa (pv 1) Ab)))
  (Ae (Am 3 (SX (CN rfl Gb.m (G9 _)) (pxL 2) (fun _ _=>rfl)))
  (Ae (PQ (i:=4) nd rfl (by walk_at"o") (xs:=["kind","word"]) rfl (Ik ["kind","word"] ["self","row","words","form","given"] ["self","row","words","form","given"] rfl rfl (by with_unfolding_all rfl) ∅ rfl ∅ ∅ ∅ (by walk_at"fm") (by with_unfolding_all rfl) (by with_unfolding_all rfl)) (fU (c:=true) rfl xG (Aa (pv 3) (Aa (Cu FJ (pv 2) (DR Ah) Eb) Ab))) (fun _ _ _ _=>Ec) (fun _ _ _ _=>(ZV (n:=2) rfl (DN (CZ (i:=0) (show (["kind","word","self","row","words","form","given"]:List Str).Nodup from by ac_rfl) rfl (by walk_at"o")) (DN (CZ (i:=1) (show (["kind","word","self","row","words","form","given"]:List Str).Nodup from by ac_rfl) rfl (by walk_at"o")) Hl)))) (fun _ _ _ _=>(Ag aL (Aa (pv 2) (Aa (pv 0) (Aa (pv 1) Ab))))))
  (Ae (Be (GR vk jd7 jd8 Iu (pv 4) (Aa (Ag VH (Aa (pv 0) (Aa (Cu FJ (pv 2) (DR (Ai Bv (BW Bl rfl Ds xi (Aa (pv 3) Ab)) Ah)) Eb) Ab))) Ab)))
  (Ae (BK (Xb (uw (pxL 2) (CN rfl GC.m (G9 _))))
   (Af (An (o7 (k:=20) (Ib.cons lH (Ib.cons Z7 (Ib.cons Z8 Ib.nil))) (hr.mono nofun) (SX (CN rfl GC.m (G9 _)) (pxL 2) (fun _ _=>rfl)) (Aa (pv 4) Ab))))
   Ar)
  (Af (An (Ag ABN (Aa (pv 0) (Aa (pxL 2) (Aa (pv 4) Ab))))))))))),?_⟩
 symm;exists⟨R,rfl,ok,fun l H1 hl s1 t1=>?_⟩;unfold bC;symm;exists By (SqL.of t1) FW ?_;exists⟨_,_,.inr R.hd,_,rfl,Gb.d,rfl,S9 _ R,?_⟩;exists ZQ (fJ ?_);refine Gg (SqL.of t1) fun u hu=>?_;rw[show Ij (V.str R.hd::wkV R.ws) (some 1) none=wkV R.ws from Ho _ 1];exists fresh hu fun H2 s2 t2=>?_;have s02:=s1.trans s2;refine⟨_,u,rfl,⟨_,_,Gb.s R _,SqL.of t2⟩,?_⟩;refine kj (kv:=kv) (Gb.s R) t2 (uj R.few.2 nofun) (fun k hk' H3 Q3 s3 q3=>?_) (fun D H3 vs hD s3 t3 g=>?_)
 ·symm;exact⟨x,kv,k,rfl,ok k hk',dk.same (s02.trans s3),fun n e=>en n (e ▸ hk'),q3⟩
 symm;have s03:=s02.trans s3;exists Og rfl t3 ?_;exists⟨_,_,rfl,.inr (Gb.s R _),?_⟩;have t1':=s3 _ _ (s2 _ _ t1);refine Gg (SqL.of t1') fun u5 hu5=>?_;have e5:Ij (V.str R.hd::wkV R.ws) (some (((R.ws.map fun w=>V.str w.k).length:Int)+1)) none=[]:=by
  have:=Ho (V.str R.hd::wkV R.ws) ((R.ws.map fun w=>V.str w.k).length+1);rw[ui,Int.natCast_one] at this;rw[this,uu (by unfold wkV;simp)]
 rw[e5];exists fresh hu5 fun H5 s5 t5=>?_;have s05:=s03.trans s5;refine⟨x,u5,rfl,t5,fun l6 H6 hl6 s6 t6=>?_⟩;have s06:=s05.trans s6;have tD:=s6 _ _ (s5 _ _ t3);symm;refine⟨D,l6,vs,[],rfl,rfl,tD,t6,by rw[jj9,Nat.add_zero,g.1];exact zo R.few.2 nofun,?_⟩;rw[yk,yV tD];have t16:=s6 _ _ (s5 _ _ t1');have DK6:=DK.same s06;have rl:∀{nm n b v},m nm=some (n,b)->GK kv (.inr (sW nm))=some v->∃y,v=.ref y/\Cw K Bg CL H6 y (n:Int) b:=fun e e'=>by
  obtain⟨y,h1,h2⟩:=hm _ _ _ e;exact⟨y,uk (e'.symm.trans h1),h2.same s06⟩
 symm;unfold eN;symm;exists By (SqL.of t16) FW ?_;refine⟨_,_,.inr R.hd,rfl,GC.d,rfl,?_⟩;cases R with
 | cal g'=>
  exists⟨_,rfl,Fz ?_⟩;exists By (SqL.of t16) FW ?_;obtain⟨v0,ws0,rfl,e0,g1⟩:=GV.cons g;obtain⟨v1,rfl,e1⟩:=GV.one g1;cases e0;cases e1;obtain⟨o,ec,q⟩:=SQ;exact⟨x,D,c,j,m,DK6,lb,.inl ⟨g',rfl,tD,o,ec,fun H' k d=>q H' ((Kd.of s06).trans k) d⟩⟩
 | rule nm p=>
  exists⟨_,rfl,Fz ?_⟩;exists By (SqL.of t16) FW ?_;obtain⟨v0,ws0,rfl,e0,g1⟩:=GV.cons g;obtain⟨v1,rfl,e1⟩:=GV.one g1;cases e0;cases e1;obtain⟨D',ec,D0,fi,q⟩:=SQ;exact⟨x,D,c,j,m,DK6,lb,.inr ⟨nm,p,D',rfl,tD,ec,D0,fi,fun H' k d=>q H' ((Kd.of s06).trans k) d⟩⟩
 | on nm d=>
  exists⟨_,rfl,Gw ?_⟩;unfold Q0;dsimp only;symm;exists By (SqL.of t16) FW ?_;exists⟨_,_,.inr "on",_,rfl,GC.d,rfl,rfl,_,_,_,rfl,.head _,GC.g3,?_⟩;obtain⟨n,b,e,q⟩:=SQ;obtain⟨v0,ws0,rfl,e0,g1⟩:=GV.cons g;obtain⟨v1,rfl,e1⟩:=GV.one g1;cases e1;obtain⟨y,rfl,R⟩:=rl e e0;exact⟨D,y,n,d,b,rfl,tD,R,q H6 s06⟩
 | size nm=>
  exists⟨_,rfl,Gw ?_⟩;unfold Q0;dsimp only;symm;exists By (SqL.of t16) FW ?_;exists⟨_,_,.inr "size",_,rfl,GC.d,rfl,rfl,_,_,_,rfl,.tail _ (.head _),GC.g8,?_⟩;obtain⟨n,b,e,q⟩:=SQ;obtain⟨v0,rfl,e0⟩:=GV.one g;obtain⟨y,rfl,R⟩:=rl e e0;exact⟨D,y,n,b,rfl,tD,R,fun z c H' s'=>q z c H' (s06.trans s')⟩
 | same na nb d=>
  exists⟨_,rfl,Gw ?_⟩;unfold Q0;dsimp only;symm;exists By (SqL.of t16) FW ?_;exists⟨_,_,.inr "same",_,rfl,GC.d,rfl,rfl,_,_,_,rfl,.tail _ (.tail _ (.head _)),GC.g9,?_⟩;obtain⟨n,b,k,b',e,e',cf,q⟩:=SQ;obtain⟨v0,ws0,rfl,e0,g1⟩:=GV.cons g;obtain⟨v1,ws1,rfl,e1,g2⟩:=GV.cons g1;obtain⟨v2,rfl,e2⟩:=GV.one g2;cases e2;obtain⟨y,rfl,R⟩:=rl e e0;obtain⟨y',rfl,R'⟩:=rl e' e1;exact⟨D,y,y',n,b,k,b',d,rfl,tD,R,R',ok (.nu d) (.tail _ (.tail _ (.head _))),cf,q.later s06⟩
theorem CJ:C0 1 "_law_cell_at" ["_law_script","_law_k"] (nZ K):=by
 refine co' ["_law_script","_law_k"] Uz fun nd H vs Q E hr h=>?_;obtain⟨a,ns,k,rfl,hS,h0,hl,q⟩:=h;refine⟨_,(Ae (BK (Al Ew (pv 1) (BW Bl rfl Ds xi (Aa (pv 0) Ab)) (Aq _))
  (Af (An (Eu Gv (pv 0) (pv 1) (fun _ _=>rfl))))
  Ar)
  (Af (An Ah))),?_⟩
 symm;exists⟨a,_,rfl,.inl hS,?_⟩;rw[js];refine Ca (fun c=>?_) (fun c=>?_)
 ·symm;refine By hS (wV h0 c) ?_;exact q
 ·symm;have e:ns.getD k.toNat 0=0:=by
   simp[List.getD,jj8 (show ns.length<=k.toNat by lia)]
  rw[e] at q;exact q
theorem GZ:C0 1 "_law_common" ["_law_one","_law_other"] zW:=by
 refine co' ["_law_one","_law_other","_law_a","_law_b"] XF fun nd H vs Q E hr h=>?_;obtain⟨x,y,rfl,x0,x1,y0,y1,q⟩:=h;refine⟨_,(Ae (Am 2 (pv 0)) (Ae (Am 3 (pv 1)) (Ae (Gr PassesOwn.never (Al Gz (pv 3) Ah (Aq _)) (Af (AAQ (i:=2) (j:=3) rfl nd rfl rfl nofun rfl rfl (Aa (pv 3) (Aa (Ai Bu (pv 2) (pv 3)) Ab)) (by with_unfolding_all rfl)))) (Af (An (Ai Cg (Ai Bf (pv 0) (pv 2)) (pv 1))))))),?_⟩
 symm;refine⟨fun m Z' H'=>H'=H/\∃u v:Int,Z'=[some (.int x),some (.int y),some (.int u),some (.int v)]/\0<u/\0<=v/\Int.gcd u v=Int.gcd x y/\v.toNat=m,⟨_,rfl,x,y,rfl,⋯,⋯,rfl,rfl⟩,?_⟩;rintro m Z' H' ⟨rfl,u,v,rfl,u0,v0,hg,rfl⟩;symm;by_cases hv:v=0
 ·subst hv;refine HJ rfl ?_;rw[Int.gcd_zero_right] at hg;obtain rfl:((Int.gcd x y:Nat):Int)=u:=⋯
  have gl:=c7 (b:=y) (show 0<x by lia);have d0:=jh1 (show 0<=x by lia) (ja0 u0);have d1:=jf3 (Int.gcd x y:Int) (show 0<=x by lia);symm;exists Dq (Dv u0 ⋯) ?_;exists J4 ?_;exact q
 ·refine qC (fun z=>hv (V.int.inj z)) ?_;exists⟨_,fun Z' H' hh=>hh,?_⟩;refine⟨_,_,rfl,?_⟩;have m0:=qh u hv;have m1:=qg u (show 0<v by lia);refine⟨(u%v).toNat,⋯,rfl,v,u%v,rfl,⋯,m0,?_,rfl⟩;rw[<-hg];exact AEU u v
theorem aN:C0 1 "_law_moon" ["_law_a","_law_start"] tu:=by
 refine co' ["_law_a","_law_start","_law_n","_law_part_here","_law_years","_law_more","_law_base","_law_many","_law_months","_law_words_here"] bQ fun nd H vs Q E hr h=>?_;obtain⟨a,s',rfl,ss,s30,q⟩:=h;have n0:=qh a (show (2:Int)≠0 by decide);have n1:=qg a (show (0:Int)<2 by decide);have y0:=qh (a/6) (show (2:Int)≠0 by decide);have y1:=qg (a/6) (show (0:Int)<2 by decide);have d0:=qh (a/36) (show (3:Int)≠0 by decide);have d1:=qg (a/36) (show (0:Int)<3 by decide);have m0:=qh (a/108) (show (3:Int)≠0 by decide);have m1:=qg (a/108) (show (0:Int)<3 by decide);have p0:=qh (a/2) (show 1+a%2+1≠0 by lia);have p1:=qg (a/2) (show 0<1+a%2+1 by lia);have c0:=qh (a/12) (show 1+a/6%2+1≠0 by lia);have c1:=qg (a/12) (show 0<1+a/6%2+1 by lia);have b0:=qh (a/324) (show 1+a%2≠0 by lia);have b1:=qg (a/324) (show 0<1+a%2 by lia);refine⟨_,(Ae (Am 2 (Ai Bv Ah (Ai Bu (pv 0) Ah))) (Ae (Am 3 (Ai Bu (Ai Bf (pv 0) Ah) (Ai Bv (pv 2) Ah))) (Ae (Am 4 (Ai Bv Ah (Ai Bu (Ai Bf (pv 0) Ah) Ah))) (Ae (Am 5 (Ai Bu (Ai Bf (pv 0) Ah) (Ai Bv (pv 4) Ah))) (Ae (Am 6 (Ai Bv Ah (Ai Bu (Ai Bf (pv 0) Ah) Ah))) (Ae (Am 7 (Ai Bv Ah (Ai Bu (Ai Bf (pv 0) Ah) Ah))) (Ae (Am 8 (Ai Cg (Ai Bv (Ai Cg (pv 4) (pv 7)) (pv 5)) (pv 2))) (Ae (Am 9 (Ai Ax (Ai Ax (Ai Ax (Ai Ax (Ai Ax Aj (BZ BV rfl Dr qq (Aa (pv 1) Ab))) Aj) (BZ BV rfl Dr qq (Aa (pv 6) Ab))) Aj) (BZ BV rfl Dr qq (Aa (pv 3) Ab)))) (Ae (Am 9 (Ai Ax (Ai Ax (Ai Ax (Ai Ax (Ai Ax (Ai Ax (pv 9) Aj) (BZ BV rfl Dr qq (Aa (Ai Bu (Ai Bf (pv 0) Ah) (pv 2)) Ab))) Aj) (BZ BV rfl Dr qq (Aa (pv 2) Ab))) Aj) (BZ BV rfl Dr qq (Aa (pv 7) Ab)))) (Ae (Am 9 (Ai Ax (Ai Ax (Ai Ax (Ai Ax (pv 9) Aj) (BZ BV rfl Dr qq (Aa (pv 5) Ab))) Aj) (BZ BV rfl Dr qq (Aa (pv 4) Ab)))) (Af (An (BJ (Aa (pv 9) (Aa (Ai Bv (Ai Cg (pv 6) (pv 8)) (Ai Cg (pv 3) (Ai Bf (pv 8) (pv 2)))) Ab))))))))))))))),?_⟩
 symm;refine J4 ?_;generalize hn:1+a%2=n at*
 generalize hp:a/2%(n+1)=p at*
 generalize hy:1+a/6%2=y at*
 generalize hc:a/12%(y+1)=c at*
 generalize hbd:1+a/36%3=bd at*
 generalize hbm:1+a/108%3=bm at*
 generalize hb:a/324%n=b at*
 have o:Ok1 p b n:=⟨⋯,⋯,⋯,⋯,⋯,⋯⟩;have o':Ok1 c 0 y:=⟨⋯,⋯,⋯,⋯,⋯,⋯⟩;have ok:OkC (.moon s' bd [(1,p,b,n)] bm [(1,c,0,y)]):=.moon ss ⋯ ⋯ o ⋯ ⋯ ⋯ o' ⋯;have h1:1*1<=y*bm:=ki ⋯ ⋯ nofun ⋯;have h2:y*bm<=2*3:=ki ⋯ ⋯ ⋯ nofun;have sp:Sm p:=sm1 ⋯ ⋯;have sb:Sm b:=sm1 ⋯ ⋯;have sn:Sm n:=sm1 ⋯ ⋯;have sc:Sm c:=sm1 ⋯ ⋯;have sy:Sm y:=sm1 ⋯ ⋯;have sbd:Sm bd:=sm1 ⋯ ⋯;have sbm:Sm bm:=sm1 ⋯ ⋯;symm;exists J4 ?_;refine⟨_,rfl,Cp ss,?_⟩;have Z:=(Lg.s "moon ").ap (.n ss);exists Z.go fun zz Z=>?_;have Z:=Z.aps " ";exists Z.go fun zz Z=>?_;refine⟨_,rfl,Cp sbd,?_⟩;have Z:=Z.ap (.n sbd);exists Z.go fun zz Z=>?_;have Z:=Z.aps " +";exists Z.go fun zz Z=>?_;refine⟨_,rfl,Cp sp,?_⟩;have Z:=Z.ap (.n sp);exists Z.go fun zz Z=>?_;have Z:=Z.aps ",";exists Z.go fun zz Z=>?_;rw[hb];refine⟨_,rfl,Cp sb,?_⟩;have Z:=Z.ap (.n sb);exists Z.go fun zz Z=>?_;have Z:=Z.aps ",";exists Z.go fun zz Z=>?_;refine⟨_,rfl,Cp sn,?_⟩;have Z:=Z.ap (.n sn);exists Z.go fun zz Z=>?_;have Z:=Z.aps " / ";exists Z.go fun zz Z=>?_;refine⟨_,rfl,Cp sbm,?_⟩;have Z:=Z.ap (.n sbm);exists Z.go fun zz Z=>?_;have Z:=Z.aps " +";exists Z.go fun zz Z=>?_;refine⟨_,rfl,Cp sc,?_⟩;have Z:=Z.ap (.n sc);exists Z.go fun zz Z=>?_;have Z:=Z.aps ",0,";exists Z.go fun zz Z=>?_;refine⟨_,rfl,Cp sy,?_⟩;have Z:=Z.ap (.n sy);refine Z.go fun zz Z=>?_;have eR:=Z.eq (ABa s' bd p b n bm c y).symm;clear Z;have hM:(y*bm+c)*n/n=y*bm+c:=Int.mul_ediv_cancel _ ⋯;have h3:1*1<=(y*bm+c)*n:=ki ⋯ ⋯ nofun ⋯;have h4:(y*bm+c)*n<=8*2:=ki ⋯ ⋯ ⋯ nofun;symm;exists J4 ?_;refine Dq (Dv ⋯ ⋯) ?_;rw[hM];exists J4 ?_;have e:dyC (.moon s' bd [(1,p,b,n)] bm [(1,c,0,y)])=bd*((y*bm+c)*n)+p*(y*bm+c):=by
  show(bm*(y+0)+(c+0))*(bd*(n+0)+(p+0))=_;simp only[jd5];rw[ja2,Jn bm y,Jn _ p,jn4]
 refine⟨DQ,fun t ht=>?_⟩;have:=q _ t (upd H t (.tup [.str (sW (JZ (.moon s' bd [(1,p,b,n)] bm [(1,c,0,y)]))),.int (dyC (.moon s' bd [(1,p,b,n)] bm [(1,c,0,y)]))])) (Av ht _) ⟨ok,s30,Ao⟩;rw[e,<-eR] at this;exact this
theorem Qq:C0 2 "_law_calendar" ["_law_script"] (zX K):=by
 refine co' ["_law_script","_law_a","_law_start","_law_n","_law_part_here","_law_months","_law_words_here"] Rj fun nd H vs Q E hr h=>?_;obtain⟨a,ns,rfl,hS,h63,q⟩:=h;refine⟨_,(Ae (Am 1 (Ai Bf (Ag CJ (Aa (pv 0) (Aa Ah Ab))) Ah))
  (Ae (Am 2 (Ai Bu (Ag CJ (Aa (pv 0) (Aa Ah Ab))) (Ai Li Ah Ah)))
  (Ae (BK (Al Ba (Ai Bu (Ag CJ (Aa (pv 0) (Aa Ah Ab))) Ah) Ah (Aq _))
   (Af (An (Ag aN (Aa (pv 1) (Aa (pv 2) Ab)))))
   Ar)
  (Ae (Am 3 (Ai Bv Ah (Ai Bu (pv 1) Ah)))
  (Ae (Am 4 (Ai Bu (Ai Bf (pv 1) Ah) (Ai Bv (pv 3) Ah)))
  (Ae (Am 5 (Cu FJ (Fq (Aa (Ai Bv Ah (Ai Bu (Ai Bf (pv 1) Ah) Ah)) (Aa (Ai Bv Ah (Ai Bu (Ai Bf (pv 1) Ah) Ah)) (Aa (Ai Bv Ah (Ai Bu (Ai Bf (pv 1) Ah) Ah)) Ab)))) Eb (DR (Ai Bv Ah (Ai Bu (Ai Bf (pv 1) Ah) Ah)))))
  (Ae (Am 6 (Ai Ax (Ai Ax (Ai Ax Aj (BZ BV rfl Dr qq (Aa (pv 2) Ab))) Aj) (GR vc PySem.F.slot_str_join PySem.F.type_str_join gB Aj (Aa (Fi rfl (Gj ["_law_script","_law_a","_law_start","_law_n","_law_part_here","_law_months","_law_words_here"] rfl ∅ rfl ∅ rfl ∅ ∅) (Gu (pv 5)) (fun _ _ _ _=>Ec) (fun _ _ _ _=>(BZ BV rfl Dr qq (Aa (pv 0) Ab)))) Ab))))
  (Ae (Am 6 (Ai Ax (Ai Ax (pv 6) Aj) (BZ BV rfl Dr qq (Aa (Ai Bv Ah (Ai Bu (Ai Bf (pv 1) Ah) Ah)) Ab))))
  (Ae (Am 6 (Ai Ax (Ai Ax (Ai Ax (Ai Ax (pv 6) Aj) (BZ BV rfl Dr qq (Aa (pv 4) Ab))) Aj) (BZ BV rfl Dr qq (Aa (Ai Bu (Ai Bf (pv 1) Ah) (pv 3)) Ab))))
  (Af (An (BJ (Aa (Ai Ax (Ai Ax (pv 6) Aj) (BZ BV rfl Dr qq (Aa (pv 3) Ab))) (Aa (Ai Bv (Ai Cg (pv 3) (BW (M7 rfl) rfl dw jk1 (Aa (pv 5) Ab))) (pv 4)) Ab)))))))))))))),?_⟩
 symm;generalize ns.getD (1:Int).toNat 0=c1;generalize ns.getD (2:Int).toNat 0=c2;rw[p30];have ss:Sm (c2%1000000000000000000000000000000):=Ir ⋯ ⋯;have s30:(c2%1000000000000000000000000000000).natAbs<=1000000000000000000000000000000:=⋯;generalize c2%1000000000000000000000000000000=s' at ss s30 ⊢;refine Ca (fun c=>?_) (fun c=>?_)
 ·symm;exact⟨_,s',rfl,ss,s30,q⟩
 generalize c1/3=x;obtain⟨n,p,b,lp,j,en,ep,hb,hlp,hj,o,lp0,lp1,j0,j1⟩:=ADm x;obtain⟨m1,e1,u1,u1'⟩:=AAe (x/12);obtain⟨m2,e2,u2,u2'⟩:=AAe (x/48);obtain⟨m3,e3,u3,u3'⟩:=AAe (x/192);have n0:=o.n0;have n1:0<1+x%3+1:=⋯;symm;rw[en,ep,e1,e2,e3];clear en ep e1 e2 e3 n1;refine⟨(by show 3<=sizeLine;decide),fun l hl=>?_⟩;refine fresh hl fun H1 s1 t1=>?_;have t1:H1 l=some (.lst ([m1,m2,m3].map V.int)):=t1;symm;rw[hj];refine Gg (SqL.of t1) fun u hu=>?_;rw[kZ [m1,m2,m3] (by show j<=3;lia)];refine fresh hu fun H2 s2 t2=>?_;have lo:2<=([m1,m2,m3].take j).length/\([m1,m2,m3].take j).length<=3:=by rw[je0];show 2<=min j 3/\min j 3<=3;lia
 have lm:∀i∈[m1,m2,m3].take j,1<=i/\i<=4:=fun i hi=>by
  have:=jp5 hi;simp only[zh,vv,or_false] at this;lia
 generalize [m1,m2,m3].take j=ls at*
 have ok:OkC (.sun s' ls lp [(1,p,b,n)]):=.sun ss lo.1 lo.2 lm lp0 lp1 o;have ms:∀i∈ls,Sm i:=fun i hi=>sm1 (by have:=lm i hi;lia) (by have:=lm i hi;lia);have sp:Sm p:=o.sm p (.head _);have sb:Sm b:=o.sm b (.tail _ (.head _));have sn:Sm n:=o.sm n (.tail _ (.tail _ (.head _)));have sl:Sm lp:=sm1 ⋯ ⋯;symm;refine⟨_,rfl,Cp ss,?_⟩;have Z:=(Lg.s "sun ").ap (.n ss);exists Z.go fun zz Z=>?_;have Z:=Z.aps " ";exists Z.go fun zz Z=>?_;exists Jo ?_;exists⟨rfl,?_⟩;exists Fx (K8 ?_);refine⟨u,rfl,⟨_,SqL.of t2⟩,?_⟩;refine Kc Nu (by rw[js];exact Dz ⋯) (fun D i ys H3=>H3 D=some (.lst ys)/\BR H2 H3/\ys=((ls.take i).map DY).map V.str) (fun D hD=>⟨Ao,Av hD _,rfl⟩)
  (fun D i ys H3 _ ⟨h1,h2,h3⟩=>⟨h1,by rw[h3,js,js];exact List.length_take_le _ _,SqL.of (h2 _ _ t2)⟩) (fun D i v ys H3 hD hx ⟨h1,h2,h3⟩=>?_) (fun D ys H3 hD ⟨h1,h2,h3⟩=>?_)
 ·rw[xo] at hx;obtain⟨k,hk,rfl⟩:=ku.mp hx;exists JG (Gw ?_);refine⟨_,rfl,Cp (ms k (qv hk)),?_⟩;refine⟨h1,Ao,Fp hD h2,?_⟩;rw[ky,hk,jc4,ve,ve,h3];rfl
 rw[js,jb4] at h3;subst h3;have jl:=Mw ms;symm;refine⟨_,D,_,rfl,rfl,SqL.of h1,?_,?_⟩
 ·have h:((ls.map DY).map (·.length)).sum<=(ls.map DY).length*41:=eO fun w hw=>by
   obtain⟨i,hi,rfl⟩:=yv.mp hw;exact pK (ms i hi)
  rw[js] at h;clear hj hlp hb Z;rw[show (Str.ofString ",").length=1 by ac_rfl,js];lia
 rw[jt];have Z:=Z.ap (.w (n:=126) (Fb 44 (ls.map nW)) ⋯);exists Z.go fun zz Z=>?_;have Z:=Z.aps " leap ";exists Z.go fun zz Z=>?_;rw[hlp];refine⟨_,rfl,Cp sl,?_⟩;have Z:=Z.ap (.n sl);exists Z.go fun zz Z=>?_;have Z:=Z.aps " +";exists Z.go fun zz Z=>?_;refine⟨_,rfl,Cp sp,?_⟩;have Z:=Z.ap (.n sp);exists Z.go fun zz Z=>?_;have Z:=Z.aps ",";exists Z.go fun zz Z=>?_;rw[hb];refine⟨_,rfl,Cp sb,?_⟩;have Z:=Z.ap (.n sb);exists Z.go fun zz Z=>?_;have Z:=Z.aps ",";exists Z.go fun zz Z=>?_;refine⟨_,rfl,Cp sn,?_⟩;have Z:=Z.ap (.n sn);refine Z.go fun zz Z=>?_;have eR:=Z.eq (ADV s' lp p b n ls).symm;clear Z;have su:=mZ lm lo.2;have n3:=o.n1;symm;refine⟨u,ls,rfl,SqL.of (h2 _ _ t2),?_⟩;exists J4 ?_;have e:dyC (.sun s' ls lp [(1,p,b,n)])=n*ls.sum+p:=by
  show ls.sum*(n+0)+(p+0)=_;rw[jd5,jd5,Jn]
 refine⟨DQ,fun t ht=>?_⟩;have:=q _ t (upd H3 t (.tup [.str (sW (JZ (.sun s' ls lp [(1,p,b,n)]))),.int (dyC (.sun s' ls lp [(1,p,b,n)]))])) ((s1.trans s2).trans (h2.trans (Av ht _))) ⟨ok,s30,Ao⟩;rw[e,<-eR] at this;exact this
theorem QB:C0 1 "_law_leaf" ["_law_cell","_law_days"] uD:=by
 refine co' ["_law_cell","_law_days","_law_way","_law_month","_law_day","_law_size"] bR fun nd H vs Q E hr h=>?_;obtain⟨x,g,rfl,og,q⟩:=h;have lf:∀(b:Bool) (z:Str) (a:Addr),H a=none->z=sW (PT.tx (.lf b))->Q (.ref a) (upd H a (.tup [.str z,.int 1])):=fun b z a ha e=>q a (.lf b) 1 _ (Av ha _) (by subst e;exact⟨Ao,trivial,trivial,(by cases b<;>ac_rfl),(by show 1+0<=1;decide),Xs _,nofun,nofun,trivial⟩);obtain⟨sm,dv,d1,d64⟩:=og.cy;refine⟨_,(Ae (Am 2 (Ai Bu (pv 0) Ah))
  (Ae (BK (Al Ba (pv 2) Ah (Aq _))
   (Af (An (BJ (Aa Aj (Aa Ah Ab)))))
   Ar)
  (Ae (BK (Al Ba (pv 2) Ah (Aq _))
   (Af (An (BJ (Aa Aj (Aa Ah Ab)))))
   Ar)
  (Ae (BK (Al Ew (pv 2) Ah (Aq _))
   (Ae (Am 5 (Ai Bv Ah (Ai Bu (Ai Bf (pv 0) Ah) Ah)))
  (Af (An (BJ (Aa (Ai Ax (Ai Ax (Ai Ax Aj (BZ BV rfl Dr qq (Aa (pv 5) Ab))) Aj) (BZ BV rfl Dr qq (Aa (Ai Do (Ai Bu (Ai Bf (pv 0) Ah) Ah) Ah) Ab))) (Aa (pv 5) Ab))))))
   Ar)
  (Ae (Am 3 (Eu Gv (Xe (ss:=["*","1","2","3","1","2"]) rfl) (Ai Bu (Ai Bf (pv 0) Ah) Ah) (fun _ _=>rfl)))
  (Ae (Am 4 (Eu Gv (Xe (ss:=["*","1","2","3","4","-1","-2","-4"]) rfl) (Ai Bu (Ai Bf (pv 0) Ah) Ah) (fun _ _=>rfl)))
  (Af (An (BJ (Aa (Ai Ax (Ai Ax (Ai Ax Aj (pv 3)) Aj) (pv 4)) (Aa (pv 1) Ab))))))))))),?_⟩
 symm;refine Ca (fun c=>?_) (fun c=>?_)
 ·symm;exact⟨DQ,fun a ha=>lf true _ a ha Wm.symm⟩
 symm;refine Ca (fun c=>?_) (fun c=>?_)
 ·symm;exact⟨DQ,fun a ha=>lf false _ a ha Wj.symm⟩
 symm;refine Ca (fun c=>?_) (fun c=>?_)
 ·have s0:=qh (x/8) (show (6:Int)≠0 by decide);have s1:=qg (x/8) (show (0:Int)<6 by decide);have r0:=qh (x/48) (show (2003:Int)≠0 by decide);have r1:=qg (x/48) (show (0:Int)<2003 by decide);symm;have n0:1<=1+x/8%6:=⋯
  have n1:1+x/8%6<=6:=⋯;generalize 1+x/8%6=n at n0 n1 ⊢;have sn:Sm n:=sm1 ⋯ ⋯;refine⟨_,rfl,Cp sn,?_⟩;have Z:=(Lg.s "each ").ap (.n sn);exists Z.go fun zz Z=>?_;have Z:=Z.aps " from ";exists Z.go fun zz Z=>?_;have sr:Sm (x/48%2003-1001):=Ir ⋯ ⋯;have rl:(nW (x/48%2003-1001)).length<=41:=Er sr;generalize x/48%2003-1001=r at sr rl ⊢;refine⟨_,rfl,Cp sr,?_⟩;have Z:=Z.ap (.n sr);refine Z.go fun zz Z=>?_;have e:=Z.eq (PT.tx_each n r).symm;have l1:(sg "each ").length=5:=∅;have l2:(sg " from ").length=6:=∅;have nl:(nW n).length<=2:=by
   obtain rfl | rfl | rfl | rfl | rfl | rfl:n=1\/n=2\/n=3\/n=4\/n=5\/n=6:=⋯
   all_goals ac_rfl
  symm;refine⟨DQ,fun a ha=>?_⟩;have:=q a (.each n r) n (upd H a (.tup [.str (sW (PT.tx (.each n r))),.int n])) (Av ha _) ⟨Ao,⟨sn,sr,n0,⋯⟩,trivial,(by rw[PT.tx_each];unfold qT;simp only[ze,PT.lv,PT.br];lia),(by show 1+0<=1;decide),Xs _,n0,⋯,trivial⟩;rw[<-e] at this;exact this
 ·have m0:=qh (x/8) (show (6:Int)≠0 by decide);have m1:=qg (x/8) (show (0:Int)<6 by decide);have d0:=qh (x/48) (show (8:Int)≠0 by decide);have d1':=qg (x/48) (show (0:Int)<8 by decide);obtain⟨m,mm,em⟩:=rD (os:=moS) m0 m1;obtain⟨d,dm,ed⟩:=rD (os:=daS) d0 d1';obtain⟨mo,_,ml,_⟩:=pD (ja1 daS mm);obtain⟨do',dz,dl,ds⟩:=pD (yi moS dm);symm;refine XX ?_;refine⟨(by show 6<=sizeLine;decide),fun l1 hl1=>?_⟩;refine fresh hl1 fun H1 s1 t1=>?_;rw[show ([Str.ofString "*",Str.ofString "1",Str.ofString "2",Str.ofString "3",Str.ofString "1",Str.ofString "2"]:List Str)=moS.map (fun o=>sW (Fg o)) by ac_rfl,ua] at t1;symm;exists By (SqL.of t1) em ?_;refine XX ?_;refine⟨(by show 8<=sizeLine;decide),fun l2 hl2=>?_⟩;refine fresh hl2 fun H2 s2 t2=>?_;rw[show ([Str.ofString "*",Str.ofString "1",Str.ofString "2",Str.ofString "3",Str.ofString "4",Str.ofString "-1",Str.ofString "-2",Str.ofString "-4"]:List Str)=daS.map (fun o=>sW (Fg o)) by ac_rfl,ua] at t2;symm;refine By (SqL.of t2) ed ?_;have Z:=(Lg.s "date c ").ap (.w (Fg m) ml);symm;exists Z.go fun zz Z=>?_;have Z:=Z.aps " ";exists Z.go fun zz Z=>?_;have Z:=Z.ap (.w (Fg d) dl);refine Z.go fun zz Z=>?_;have e:=Z.eq (xJ m d);have l1:(sg "date c ").length=7:=∅
  have l2:(sg " ").length=1:=∅;symm;refine⟨DQ,fun a ha=>?_⟩;rw[e];exact q a (.date (sg "c") m d none) _ _ ((s1.trans s2).trans (Av ha _)) ⟨Ao,⟨ACu,mo,do',(fun z hz=>nomatch hz),ACv mm,dz⟩,⟨rfl,rfl⟩,(by rw[<-xJ];simp only[ze,PT.lv,PT.br];lia),(by show 1+0<=1;decide),dv,d1,⋯,by cases d with | none=>trivial | some i=>have:=ds i rfl;show -1000<i/\i<1000;lia⟩
theorem BL:C0 1 "_law_put" ["_law_one","_law_word","_law_other"] nF:=by
 refine co' ["_law_one","_law_word","_law_other"] jK fun nd H vs Q E hr h=>?_;obtain⟨x,y,g,z,w,p,r,j,i,rfl,rfl,rfl,sm,A,B,l,q⟩:=h;have X:=Lg.w p.tx (show p.tx.length<=2400 by have:=A.tl;have:=A.mn;lia);have Y:=Lg.w r.tx (show r.tx.length<=2400 by have:=B.tl;have:=B.mn;lia);have wl:(sg w.s).length<=30:=by cases w<;>ac_rfl
 exists⟨_,(Af (An (Ai Ax (Ai Ax (Ai Ax (Ai Ax (Ai Ax (Ai Ax Aj (pv 0)) Aj) (pv 1)) Aj) (pv 2)) Aj))),?_⟩;have Z:=(Lg.s "(").ap X;exists Z.go fun zz Z=>?_;have Z:=Z.aps " ";exists Z.go fun zz Z=>?_;have Z:=Z.aps w.s wl;exists Z.go fun zz Z=>?_;have Z:=Z.aps " ";exists Z.go fun zz Z=>?_;have Z:=Z.ap Y;exists Z.go fun zz Z=>?_;have Z:=Z.aps ")";refine Z.go fun zz Z=>?_;rw[Z.eq (yZ w p r).symm];exact q (A.pr sm B)
theorem Jf:C0 1 "_law_words" ["_law_cell"] ACG:=by
 refine co' ["_law_cell","_law_some"] ZF fun nd H vs Q E hr h=>?_;obtain⟨x,rfl,q⟩:=h;obtain⟨i,i10,ew⟩:=ABk x;refine ABR ⟨_,(rA (ABS (i:=1) nd rfl (by walk_at"o") (wR (ss:=["and","or","but","unlike","upon","until","near","till","later","of"]) (by rfl)))
  (wQ (bs (An (Eu Gv (pv 1) (Ai Bu (pv 0) Ah) (fun _ _=>rfl)))))),?_⟩
 symm;refine XX ?_;refine⟨(by show 10<=sizeLine;decide),fun l hl=>?_⟩;refine fresh hl fun H1 s1 t1=>?_;have t1:H1 l=some (.lst (woS.map V.str)):=t1;symm;refine By (SqL.of t1) ew ?_;exact q i H1 i10 s1
theorem O2:C0 2 "_law_by" ["_law_word","_law_number","_law_one","_law_other"] ACX:=by
 refine co' ["_law_word","_law_number","_law_one","_law_other"] n6 fun nd H vs Q E hr h=>?_;obtain⟨g,z,k,p,r,a,b,i,rfl,i10,sk,k0,sm,A,B,l,q⟩:=h;have X:=Lg.w p.tx (show p.tx.length<=2400 by have:=A.tl;have:=A.mn;lia);have Y:=Lg.w r.tx (show r.tx.length<=2400 by have:=B.tl;have:=B.mn;lia);refine⟨_,(Ae (BK (Al Ba (pv 0) Aj (Aq _)) (Af (An (Ai Ax (Ai Ax (Ai Ax (Ai Ax Aj (BZ BV rfl Dr qq (Aa (pv 1) Ab))) Aj) (pv 2)) Aj))) Ar) (Ae (BK (Al Ba (pv 0) Aj (Aq _)) (Af (An (Ai Ax (Ai Ax (Ai Ax (Ai Ax (Ai Ax (Ai Ax Aj (BZ BV rfl Dr qq (Aa (pv 1) Ab))) Aj) (pv 2)) Aj) (pv 3)) Aj))) Ar) (Af (An (Ag BL (Aa (pv 2) (Aa (pv 0) (Aa (pv 3) Ab)))))))),?_⟩
 symm;refine Ca (fun c=>?_) (fun c8=>?_)
 ·obtain rfl:i=8:=ADk i i10 (V.str.inj c);symm;refine⟨_,rfl,Cp sk,?_⟩;have Z:=(Lg.s "(").ap (.n sk);exists Z.go fun zz Z=>?_;have Z:=Z.aps " later ";exists Z.go fun zz Z=>?_;have Z:=Z.ap X;exists Z.go fun zz Z=>?_;have Z:=Z.aps ")";refine Z.go fun zz Z=>?_;rw[Z.eq (PT.tx_la k p).symm];exact q ((A.la sk).le ⋯)
 symm;refine Ca (fun c=>?_) (fun c9=>?_)
 ·obtain rfl:i=9:=ADj i i10 (V.str.inj c);symm;refine⟨_,rfl,Cp sk,?_⟩;have Z:=(Lg.s "(").ap (.n sk);exists Z.go fun zz Z=>?_;have Z:=Z.aps " of ";exists Z.go fun zz Z=>?_;have Z:=Z.ap X;exists Z.go fun zz Z=>?_;have Z:=Z.aps " from ";exists Z.go fun zz Z=>?_;have Z:=Z.ap Y;exists Z.go fun zz Z=>?_;have Z:=Z.aps ")";refine Z.go fun zz Z=>?_;rw[Z.eq (PT.tx_nt k p r).symm];exact q (A.nt sm B sk k0)
 obtain⟨eP,ew⟩:=ADi (k:=k) (p:=p) (q:=r) i10 (fun z=>c8 (by rw[z];rfl)) (fun z=>c9 (by rw[z];rfl));rw[eP] at q;rw[ew];symm;exact A.put sm B (pkJ i) rfl rfl q l
theorem Kh:C0 3 "_law_part" ["_law_cells","_law_days"] (tV K):=by
 refine co' ["_law_cells","_law_days","_law_found","_law_size","_law_number","_law_other","_law_more"] bN fun nd H vs Q E hr h=>?_;obtain⟨l,x,y,g,rfl,hl,og,q⟩:=h;obtain⟨sm,dv,d1,d64⟩:=og.cy;refine⟨_,(Ae (JN (Ag QB (Aa (pxL 0) (Aa (pv 1) Ab))) (J5 rfl (DN (CZ (i:=2) nd rfl (by walk_at"o")) (DN (CZ (i:=3) nd rfl (by walk_at"o")) Hl))))
  (Ae (Am 4 (Eu Gv (Fq (Aa (HF Fo Ah) (Aa (HF Fo Ah) (Aa Ah (Aa Ah Ab))))) (Ai Bu (Ai Bf (pxL 0) Ah) Ah) (fun _ _=>rfl)))
  (Ae (BK (Al Ft (Ai Bu (pxL 0) Ah) Ah (Aq _))
   (Ae (JN (Ag QB (Aa (Ai Bf (pxL 0) Ah) (Aa (pv 1) Ab))) (J5 rfl (DN (CZ (i:=5) nd rfl (by walk_at"o")) (DN (CZ (i:=6) nd rfl (by walk_at"o")) Hl))))
  (Af (BK (Al J6 (Ag GZ (Aa (pv 3) (Aa (pv 6) Ab))) Ah (Aq _))
   (Af (An (BJ (Aa (Ag O2 (Aa (Ag Jf (Aa (Ai Bf (pxL 0) Ah) Ab)) (Aa (pv 4) (Aa (pv 2) (Aa (pv 5) Ab))))) (Aa (Ag GZ (Aa (pv 3) (Aa (pv 6) Ab))) Ab)))))
   Ar)))
   Ar)
  (Af (An (BJ (Aa (pv 2) (Aa (pv 3) Ab)))))))),?_⟩
 symm;exists By hl FW ?_;refine⟨x,g,rfl,og,fun a p z H1 s1 N=>?_⟩;refine JK (SqT.of N.1) rfl ?_;have N:=N.2;have z0:=N.z0;symm;refine⟨(by show 4<=sizeLine;decide),fun l4 hl4=>?_⟩;refine fresh hl4 fun H2 s2 t2=>?_;have hl2:=(s1.trans s2).seq hl;obtain⟨k,sk,k0,ek⟩:=ADU (x/384);symm;exists By hl2 FW ?_;exists By (SqL.of t2) ek ?_;exists By hl2 Jj ?_;refine Ca (fun c=>?_) (fun c=>?_)
 ·symm;exists By hl2 Jj ?_;refine⟨_,g,rfl,og,fun a' p' z' H3 s3 N'=>?_⟩;refine JK (SqT.of N'.1) rfl ?_;have N':=N'.2;have f:=Bj (show 0<z by lia) (show 0<z' by have:=N'.z0;lia);symm;exists⟨z,z',rfl,N.z0,N.z1,N'.z0,N'.z1,?_⟩;refine Ca (fun c=>?_) (fun c=>?_)
  ·symm;exists By (s3.seq hl2) Jj ?_;exists⟨_,rfl,fun i H4 i10 s4=>?_⟩;exists⟨g,CQ z z',k,p,p',1,1,i,rfl,i10,sk,k0,sm,N.up f.2.1 f.1 ⋯,N'.up f.2.2.1 f.1 ⋯,nofun,fun M=>?_⟩;exists⟨z,z',rfl,N.z0,N.z1,N'.z0,N'.z1,?_⟩;exact⟨DQ,fun t ht=>q t _ _ _ (((s1.trans s2).trans (s3.trans s4)).trans (Av ht _)) ⟨Ao,M⟩⟩
  ·symm;exact⟨DQ,fun t ht=>q t _ _ _ (((s1.trans s2).trans s3).trans (Av ht _)) ⟨Ao,N.le⟩⟩
 ·symm;exact⟨DQ,fun t ht=>q t _ _ _ ((s1.trans s2).trans (Av ht _)) ⟨Ao,N.le⟩⟩
theorem FT:C0 1 "_law_not" ["_law_one"] nJ:=by
 refine co' ["_law_one"] jL fun nd H vs Q E hr h=>?_;obtain⟨g,z,p,j,rfl,A,l,q⟩:=h;have X:=Lg.w p.tx (show p.tx.length<=2400 by have:=A.tl;have:=A.mn;lia);exists⟨_,(Af (An (Ai Ax (Ai Ax Aj (pv 0)) Aj))),?_⟩;have Z:=(Lg.s "(not ").ap X;exists Z.go fun zz Z=>?_;have Z:=Z.aps ")";refine Z.go fun zz Z=>?_;rw[Z.eq (PT.tx_no p).symm];exact q A.no
theorem UJ:C0 2 "_law_by_sets" ["_law_way","_law_a","_law_b","_law_c"] zF:=by
 refine co' ["_law_way","_law_a","_law_b","_law_c","_law_ends"] U0 fun nd H vs Q E hr h=>?_;obtain⟨g,z,A,B,C,i,rfl,i8,sm,a,b,c,q⟩:=h;refine⟨_,(Ae (BK (Al Ba (pv 0) Ah (Aq _)) (Af (An (BJ (Aa (Ag BL (Aa (pv 1) (Aa Aj (Aa (pv 2) Ab)))) (Aa (Ag BL (Aa (pv 2) (Aa Aj (Aa (pv 1) Ab)))) Ab))))) Ar) (Ae (BK (Al Ba (pv 0) Ah (Aq _)) (Af (An (BJ (Aa (Ag FT (Aa (Ag BL (Aa (pv 1) (Aa Aj (Aa (pv 2) Ab)))) Ab)) (Aa (Ag BL (Aa (Ag FT (Aa (pv 1) Ab)) (Aa Aj (Aa (Ag FT (Aa (pv 2) Ab)) Ab)))) Ab))))) Ar) (Ae (BK (Al Ba (pv 0) Ah (Aq _)) (Af (An (BJ (Aa (Ag BL (Aa (pv 1) (Aa Aj (Aa (pv 2) Ab)))) (Aa (Ag BL (Aa (pv 1) (Aa Aj (Aa (Ag FT (Aa (pv 2) Ab)) Ab)))) Ab))))) Ar) (Ae (BK (Al Ba (pv 0) Ah (Aq _)) (Af (An (BJ (Aa (Ag BL (Aa (pv 1) (Aa Aj (Aa (pv 2) Ab)))) (Aa (Ag BL (Aa (Ag BL (Aa (pv 1) (Aa Aj (Aa (pv 2) Ab)))) (Aa Aj (Aa (Ag BL (Aa (pv 1) (Aa Aj (Aa (pv 2) Ab)))) Ab)))) Ab))))) Ar) (Ae (BK (Al Ba (pv 0) Ah (Aq _)) (Af (An (BJ (Aa (Ag FT (Aa (Ag FT (Aa (pv 1) Ab)) Ab)) (Aa (pv 1) Ab))))) Ar) (Ae (BK (Al Ba (pv 0) Ah (Aq _)) (Af (An (BJ (Aa (Ag BL (Aa (Ag BL (Aa (pv 1) (Aa Aj (Aa (pv 2) Ab)))) (Aa Aj (Aa (pv 2) Ab)))) (Aa (pv 1) Ab))))) Ar) (Ae (BK (Al Ba (pv 0) Ah (Aq _)) (Ae (Am 4 (Ag BL (Aa (Ag BL (Aa (pv 1) (Aa Aj (Aa (pv 3) Ab)))) (Aa Aj (Aa (Ag BL (Aa (pv 2) (Aa Aj (Aa (pv 3) Ab)))) Ab))))) (Af (An (BJ (Aa (Ag BL (Aa (Ag BL (Aa (pv 1) (Aa Aj (Aa (pv 2) Ab)))) (Aa Aj (Aa (pv 3) Ab)))) (Aa (pv 4) Ab)))))) Ar) (Af (An (BJ (Aa (Ag BL (Aa (pv 1) (Aa Aj (Aa (Ag BL (Aa (pv 1) (Aa Aj (Aa (pv 2) Ab)))) Ab)))) (Aa (pv 1) Ab)))))))))))),?_⟩
 symm;refine Hx (fun e=>?_) (fun e0=>?_)
 ·obtain rfl:i=0:=⋯
  symm;exists a.put sm b .an rfl rfl fun n1=>?_;exists b.put sm a .an rfl rfl fun n2=>?_;exact⟨DQ,fun t ht=>q t _ (Av ht _) (.mk n1 n2)⟩
 symm;refine Hx (fun e=>?_) (fun e1=>?_)
 ·obtain rfl:i=1:=⋯
  symm;exists a.put sm b .or rfl rfl fun n1=>?_;exists n1.nots fun n2=>?_;exists a.nots fun n3=>?_;exists b.nots fun n4=>?_;exists n3.put sm n4 .an rfl rfl fun n5=>?_;exact⟨DQ,fun t ht=>q t _ (Av ht _) (.mk n2 n5)⟩
 symm;refine Hx (fun e=>?_) (fun e2=>?_)
 ·obtain rfl:i=2:=⋯
  symm;exists a.put sm b .bu rfl rfl fun n1=>?_;exists b.nots fun n2=>?_;exists a.put sm n2 .an rfl rfl fun n3=>?_;exact⟨DQ,fun t ht=>q t _ (Av ht _) (.mk n1 n3)⟩
 symm;refine Hx (fun e=>?_) (fun e3=>?_)
 ·obtain rfl:i=3:=⋯
  symm;exists a.put sm b .ul rfl rfl fun n1=>?_;exists a.put sm b .or rfl rfl fun n2=>?_;exists a.put sm b .an rfl rfl fun n3=>?_;exists n2.put sm n3 .bu rfl rfl fun n4=>?_;exact⟨DQ,fun t ht=>q t _ (Av ht _) (.mk n1 n4)⟩
 symm;refine Hx (fun e=>?_) (fun e4=>?_)
 ·obtain rfl:i=4:=⋯
  symm;exists a.nots fun n1=>?_;exists n1.nots fun n2=>?_;exact⟨DQ,fun t ht=>q t _ (Av ht _) (.mk n2 a)⟩
 symm;refine Hx (fun e=>?_) (fun e5=>?_)
 ·obtain rfl:i=5:=⋯
  symm;exists a.put sm b .ul rfl rfl fun n1=>?_;exists n1.put sm b .ul rfl rfl fun n2=>?_;exact⟨DQ,fun t ht=>q t _ (Av ht _) (.mk n2 a)⟩
 symm;refine Hx (fun e=>?_) (fun e6=>?_)
 ·obtain rfl:i=6:=⋯
  symm;exists a.put sm c .an rfl rfl fun n1=>?_;exists b.put sm c .an rfl rfl fun n2=>?_;exists n1.put sm n2 .or rfl rfl fun n3=>?_;exists a.put sm b .or rfl rfl fun n4=>?_;exists n4.put sm c .an rfl rfl fun n5=>?_;exact⟨DQ,fun t ht=>q t _ (Av ht _) (.mk n5 n3)⟩
 symm;obtain rfl:i=7:=⋯;symm;exists a.put sm b .an rfl rfl fun n1=>?_;exists a.put sm n1 .or rfl rfl fun n2=>?_;exact⟨DQ,fun t ht=>q t _ (Av ht _) (.mk n2 a)⟩
theorem Lw:C0 2 "_law_more_wheels" ["_law_way","_law_number","_law_a","_law_b"] (xR 16 24):=by
 refine co' ["_law_way","_law_number","_law_a","_law_b","_law_shift"] Ma fun nd H vs Q E hr h=>?_;obtain⟨g,z,k,A,B,i,rfl,i0,i1,sk,sm,a,b,q⟩:=h;have s1:Sm 1:=sm1 nofun nofun;have al:NP g (.lf true) z 1:=.lf true a.z0 a.z1;have no:NP g (.lf false) z 1:=.lf false a.z0 a.z1;refine⟨_,(Ae (BK (Al Ba (pv 0) Ah (Aq _)) (Af (An (BJ (Aa (Ag BL (Aa (pv 2) (Aa Aj (Aa (Ag BL (Aa (pv 3) (Aa Aj (Aa (pv 2) Ab)))) Ab)))) (Aa (Ag BL (Aa (Ag BL (Aa (pv 2) (Aa Aj (Aa (pv 3) Ab)))) (Aa Aj (Aa (pv 2) Ab)))) Ab))))) Ar) (Ae (BK (Al Ba (pv 0) Ah (Aq _)) (Af (An (BJ (Aa (Ag BL (Aa (Ag BL (Aa (pv 2) (Aa Aj (Aa (pv 3) Ab)))) (Aa Aj (Aa (pv 2) Ab)))) (Aa (Ag BL (Aa (pv 2) (Aa Aj (Aa (pv 3) Ab)))) Ab))))) Ar) (Ae (BK (Al Ba (pv 0) Ah (Aq _)) (Af (An (BJ (Aa (Ag BL (Aa (Ag BL (Aa (pv 2) (Aa Aj (Aa (pv 3) Ab)))) (Aa Aj (Aa (pv 2) Ab)))) (Aa (Ag BL (Aa (pv 2) (Aa Aj (Aa (pv 3) Ab)))) Ab))))) Ar) (Ae (BK (Al Ba (pv 0) Ah (Aq _)) (Af (An (BJ (Aa (Ag BL (Aa Aj (Aa Aj (Aa (pv 2) Ab)))) (Aa (Ag BL (Aa Aj (Aa Aj (Aa (pv 2) Ab)))) Ab))))) Ar) (Ae (BK (Al Ba (pv 0) Ah (Aq _)) (Af (An (BJ (Aa (Ag BL (Aa Aj (Aa Aj (Aa (pv 2) Ab)))) (Aa (pv 2) Ab))))) Ar) (Ae (BK (Al Ba (pv 0) Ah (Aq _)) (Af (An (BJ (Aa (Ai Ax (Ai Ax Aj (pv 2)) Aj) (Aa (pv 2) Ab))))) Ar) (Ae (BK (Al Ba (pv 0) Ah (Aq _)) (Ae (Am 4 (Ai Ax (Ai Ax Aj (BZ BV rfl Dr qq (Aa (pv 1) Ab))) Aj)) (Af (An (BJ (Aa (Ai Ax (Ai Ax (pv 4) (Ag FT (Aa (pv 2) Ab))) Aj) (Aa (Ag FT (Aa (Ai Ax (Ai Ax (pv 4) (pv 2)) Aj) Ab)) Ab)))))) Ar) (Af (An (BJ (Aa (Ag BL (Aa (pv 2) (Aa Aj (Aa Aj Ab)))) (Aa (Ag BL (Aa Aj (Aa Aj (Aa (pv 3) Ab)))) Ab)))))))))))),?_⟩
 symm;refine Hx (fun e=>?_) (fun e16=>?_)
 ·obtain rfl:i=16:=⋯
  symm;exists b.put sm a .or rfl rfl fun n1=>?_;exists a.put sm n1 .up rfl rfl fun n2=>?_;exists a.put sm b .up rfl rfl fun n3=>?_;exists n3.put sm a .or rfl rfl fun n4=>?_;exact⟨DQ,fun t ht=>q t _ (Av ht _) (.mk n2 n4)⟩
 symm;refine Hx (fun e=>?_) (fun e17=>?_)
 ·obtain rfl:i=17:=⋯
  symm;exists a.put sm b .up rfl rfl fun n1=>?_;exists n1.put sm a .an rfl rfl fun n2=>?_;exists a.put sm b .up rfl rfl fun n3=>?_;exact⟨DQ,fun t ht=>q t _ (Av ht _) (.mk n2 n3)⟩
 symm;refine Hx (fun e=>?_) (fun e18=>?_)
 ·obtain rfl:i=18:=⋯
  symm;exists a.put sm b .ti rfl rfl fun n1=>?_;exists n1.put sm a .or rfl rfl fun n2=>?_;exists a.put sm b .ti rfl rfl fun n3=>?_;exact⟨DQ,fun t ht=>q t _ (Av ht _) (.mk n2 n3)⟩
 symm;refine Hx (fun e=>?_) (fun e19=>?_)
 ·obtain rfl:i=19:=⋯
  symm;exists al.put sm a .up Wm.symm rfl fun n1=>?_;exists al.put sm a .un Wm.symm rfl fun n2=>?_;exact⟨DQ,fun t ht=>q t _ (Av ht _) (.mk n1 n2)⟩
 symm;refine Hx (fun e=>?_) (fun e20=>?_)
 ·obtain rfl:i=20:=⋯
  symm;exists al.put sm a .ne Wm.symm rfl fun n1=>?_;exact⟨DQ,fun t ht=>q t _ (Av ht _) (.mk n1 a)⟩
 symm;refine Hx (fun e=>?_) (fun e21=>?_)
 ·obtain rfl:i=21:=⋯
  symm;have Z:=(Lg.s "(1 of all from ").ap (Lg.w _ a.fit);exists Z.go fun zz Z=>?_;have Z:=Z.aps ")";refine Z.go fun zz Z=>?_;rw[Z.eq (yc A)];clear Z;symm;exact⟨DQ,fun t ht=>q t _ (Av ht _) (.mk (al.nt sm a s1 nofun) a)⟩
 symm;refine Hx (fun e=>?_) (fun e22=>?_)
 ·obtain rfl:i=22:=⋯
  symm;refine⟨_,rfl,Cp sk,?_⟩;have Z:=(Lg.s "(").ap (.n sk);exists Z.go fun zz Z=>?_;have Z:=Z.aps " later ";refine Z.go fun zz Z=>?_;have S:=Z;clear Z;symm;exists a.nots fun n1=>?_;have Z:=S.ap (Lg.w _ n1.fit);exists Z.go fun zz Z=>?_;have Z:=Z.aps ")";refine Z.go fun zz Z=>?_;rw[Z.eq (PT.tx_la k _).symm];clear Z;symm;have Z:=S.ap (Lg.w _ a.fit);exists Z.go fun zz Z=>?_;have Z:=Z.aps ")";refine Z.go fun zz Z=>?_;rw[Z.eq (PT.tx_la k _).symm];clear Z;symm;exists(a.la sk).nots fun n2=>?_;exact⟨DQ,fun t ht=>q t _ (Av ht _) (.mk (n1.la sk) n2)⟩
 symm;obtain rfl:i=23:=⋯;symm;exists a.put sm no .up rfl Wj.symm fun n1=>?_;exists no.put sm b .ne Wj.symm rfl fun n2=>?_;exact⟨DQ,fun t ht=>q t _ (Av ht _) (.mk n1 n2)⟩
theorem O1:C0 3 "_law_by_wheels" ["_law_way","_law_number","_law_a","_law_b"] (xR 8 24):=by
 refine co' ["_law_way","_law_number","_law_a","_law_b","_law_shift"] QX fun nd H vs Q E hr h=>?_;obtain⟨g,z,k,A,B,i,rfl,i0,i1,sk,sm,a,b,q⟩:=h;have s1:Sm 1:=sm1 nofun nofun;have s2:Sm (-1):=Ir nofun nofun;refine⟨_,(Ae (Am 4 (Ai Ax (Ai Ax Aj (BZ BV rfl Dr qq (Aa (pv 1) Ab))) Aj)) (Ae (BK (Al Ba (pv 0) Ah (Aq _)) (Af (An (BJ (Aa (Ai Ax (Ai Ax (pv 4) (Ag BL (Aa (pv 2) (Aa Aj (Aa (pv 3) Ab))))) Aj) (Aa (Ag BL (Aa (Ai Ax (Ai Ax (pv 4) (pv 2)) Aj) (Aa Aj (Aa (Ai Ax (Ai Ax (pv 4) (pv 3)) Aj) Ab)))) Ab))))) Ar) (Ae (BK (Al Ba (pv 0) Ah (Aq _)) (Af (An (BJ (Aa (Ai Ax (Ai Ax (pv 4) (Ag BL (Aa (pv 2) (Aa Aj (Aa (pv 3) Ab))))) Aj) (Aa (Ag BL (Aa (Ai Ax (Ai Ax (pv 4) (pv 2)) Aj) (Aa Aj (Aa (Ai Ax (Ai Ax (pv 4) (pv 3)) Aj) Ab)))) Ab))))) Ar) (Ae (BK (Al Ba (pv 0) Ah (Aq _)) (Af (An (BJ (Aa (Ai Ax (Ai Ax (Ai Ax (Ai Ax (Ai Ax (pv 4) Aj) (BZ BV rfl Dr qq (Aa (HF Fo (pv 1)) Ab))) Aj) (pv 2)) Aj) (Aa (pv 2) Ab))))) Ar) (Ae (BK (Al Ba (pv 0) Ah (Aq _)) (Af (An (BJ (Aa (Ag BL (Aa (pv 2) (Aa Aj (Aa (pv 2) Ab)))) (Aa (pv 2) Ab))))) Ar) (Ae (BK (Al Ba (pv 0) Ah (Aq _)) (Af (An (BJ (Aa (Ag BL (Aa (pv 2) (Aa Aj (Aa (Ag BL (Aa (pv 2) (Aa Aj (Aa (pv 2) Ab)))) Ab)))) (Aa (Ag BL (Aa (pv 2) (Aa Aj (Aa (pv 2) Ab)))) Ab))))) Ar) (Ae (BK (Al Ba (pv 0) Ah (Aq _)) (Af (An (BJ (Aa (Ag BL (Aa (pv 2) (Aa Aj (Aa (Ag FT (Aa (pv 2) Ab)) Ab)))) (Aa (pv 2) Ab))))) Ar) (Ae (BK (Al Ba (pv 0) Ah (Aq _)) (Af (An (BJ (Aa (Ai Ax (Ai Ax (Ai Ax (Ai Ax Aj (pv 2)) Aj) (pv 2)) Aj) (Aa (Ai Ax (Ai Ax (Ai Ax (Ai Ax Aj (pv 2)) Aj) (pv 2)) Aj) Ab))))) Ar) (Ae (BK (Al Ba (pv 0) Ah (Aq _)) (Af (An (BJ (Aa (Ai Ax (Ai Ax (Ai Ax (Ai Ax Aj (pv 2)) Aj) (BZ BV rfl Dr qq (Aa (pv 1) Ab))) Aj) (Aa (pv 2) Ab))))) Ar) (Af (An (Ag Lw (Aa (pv 0) (Aa (pv 1) (Aa (pv 2) (Aa (pv 3) Ab)))))))))))))))),?_⟩
 symm;refine⟨_,rfl,Cp sk,?_⟩;have Z:=(Lg.s "(").ap (.n sk);exists Z.go fun zz Z=>?_;have Z:=Z.aps " later ";refine Z.go fun zz Z=>?_;have S:=Z;clear Z;symm;refine Hx (fun e=>?_) (fun e8=>?_)
 ·obtain rfl:i=8:=⋯
  symm;exists a.put sm b .up rfl rfl fun n1=>?_;have Z:=S.ap (Lg.w _ n1.fit);exists Z.go fun zz Z=>?_;have Z:=Z.aps ")";refine Z.go fun zz Z=>?_;rw[Z.eq (PT.tx_la k _).symm];clear Z;symm;have Z:=S.ap (Lg.w _ a.fit);exists Z.go fun zz Z=>?_;have Z:=Z.aps ")";refine Z.go fun zz Z=>?_;rw[Z.eq (PT.tx_la k _).symm];clear Z;symm;have Z:=S.ap (Lg.w _ b.fit);exists Z.go fun zz Z=>?_;have Z:=Z.aps ")";refine Z.go fun zz Z=>?_;rw[Z.eq (PT.tx_la k _).symm];clear Z;symm;exists(a.la sk).put sm (b.la sk) .up rfl rfl fun n2=>?_;exact⟨DQ,fun t ht=>q t _ (Av ht _) (.mk (n1.la sk) n2)⟩
 symm;refine Hx (fun e=>?_) (fun e9=>?_)
 ·obtain rfl:i=9:=⋯
  symm;exists a.put sm b .ne rfl rfl fun n1=>?_;have Z:=S.ap (Lg.w _ n1.fit);exists Z.go fun zz Z=>?_;have Z:=Z.aps ")";refine Z.go fun zz Z=>?_;rw[Z.eq (PT.tx_la k _).symm];clear Z;symm;have Z:=S.ap (Lg.w _ a.fit);exists Z.go fun zz Z=>?_;have Z:=Z.aps ")";refine Z.go fun zz Z=>?_;rw[Z.eq (PT.tx_la k _).symm];clear Z;symm;have Z:=S.ap (Lg.w _ b.fit);exists Z.go fun zz Z=>?_;have Z:=Z.aps ")";refine Z.go fun zz Z=>?_;rw[Z.eq (PT.tx_la k _).symm];clear Z;symm;exists(a.la sk).put sm (b.la sk) .ne rfl rfl fun n2=>?_;exact⟨DQ,fun t ht=>q t _ (Av ht _) (.mk (n1.la sk) n2)⟩
 symm;refine Hx (fun e=>?_) (fun e10=>?_)
 ·obtain rfl:i=10:=⋯
  symm;have sk':Sm (-k):=by unfold Sm at sk ⊢;lia
  have Z:=S.aps "(";exists Z.go fun zz Z=>?_;refine⟨_,rfl,Cp sk',?_⟩;have Z:=Z.ap (.n sk');exists Z.go fun zz Z=>?_;have Z:=Z.aps " later ";exists Z.go fun zz Z=>?_;have Z:=Z.ap (Lg.w _ a.fit);exists Z.go fun zz Z=>?_;have Z:=Z.aps "))";refine Z.go fun zz Z=>?_;rw[Z.eq (sU k A)];symm;exact⟨DQ,fun t ht=>q t _ (Av ht _) (.mk ((a.la sk').la sk) a)⟩
 symm;refine Hx (fun e=>?_) (fun e11=>?_)
 ·obtain rfl:i=11:=⋯
  symm;exists a.put sm a .up rfl rfl fun n1=>?_;exact⟨DQ,fun t ht=>q t _ (Av ht _) (.mk n1 a)⟩
 symm;refine Hx (fun e=>?_) (fun e12=>?_)
 ·obtain rfl:i=12:=⋯
  symm;exists a.put sm a .up rfl rfl fun n1=>?_;exists a.put sm n1 .un rfl rfl fun n2=>?_;exists a.put sm a .ne rfl rfl fun n3=>?_;exact⟨DQ,fun t ht=>q t _ (Av ht _) (.mk n2 n3)⟩
 symm;refine Hx (fun e=>?_) (fun e13=>?_)
 ·obtain rfl:i=13:=⋯
  symm;exists a.nots fun n1=>?_;exists a.put sm n1 .ti rfl rfl fun n2=>?_;exact⟨DQ,fun t ht=>q t _ (Av ht _) (.mk n2 a)⟩
 symm;refine Hx (fun e=>?_) (fun e14=>?_)
 ·obtain rfl:i=14:=⋯
  symm;have Z:=(Lg.s "(1 of ").ap (Lg.w _ a.fit);exists Z.go fun zz Z=>?_;have Z:=Z.aps " from ";exists Z.go fun zz Z=>?_;have Z:=Z.ap (Lg.w _ a.fit);exists Z.go fun zz Z=>?_;have Z:=Z.aps ")";refine Z.go fun zz Z=>?_;rw[Z.eq (mC A A)];clear Z;symm;have Z:=(Lg.s "(-1 of ").ap (Lg.w _ a.fit);exists Z.go fun zz Z=>?_;have Z:=Z.aps " from ";exists Z.go fun zz Z=>?_;have Z:=Z.ap (Lg.w _ a.fit);exists Z.go fun zz Z=>?_;have Z:=Z.aps ")";refine Z.go fun zz Z=>?_;rw[Z.eq (yd A A)];clear Z;symm;exact⟨DQ,fun t ht=>q t _ (Av ht _) (.mk (a.nt sm a s1 nofun) (a.nt sm a s2 nofun))⟩
 symm;refine Hx (fun e=>?_) (fun e15=>?_)
 ·obtain rfl:i=15:=⋯
  symm;have Z:=(Lg.s "(every 1 of ").ap (Lg.w _ a.fit);exists Z.go fun zz Z=>?_;have Z:=Z.aps " from ";exists Z.go fun zz Z=>?_;refine⟨_,rfl,Cp sk,?_⟩;have Z:=Z.ap (.n sk);exists Z.go fun zz Z=>?_;have Z:=Z.aps ")";refine Z.go fun zz Z=>?_;rw[Z.eq (yf A k)];clear Z;symm;exact⟨DQ,fun t ht=>q t _ (Av ht _) (.mk (a.ev sk) a)⟩
 symm;exact⟨g,z,k,A,B,i,rfl,⋯,i1,sk,sm,a,b,q⟩
theorem aM:C0 4 "_law_pair" ["_law_script","_law_a","_law_b","_law_c"] (tX K):=by
 refine co' ["_law_script","_law_a","_law_b","_law_c","_law_way","_law_number","_law_word","_law_other","_law_turn"] bO fun nd H vs Q E hr h=>?_;obtain⟨l,ns,g,z,A,B,C,rfl,hS,h63,sm,a,b,c,q⟩:=h;refine⟨_,(Ae (Am 4 (Ai Bu (Ag CJ (Aa (pv 0) (Aa Ah Ab))) Ah)) (Ae (Am 5 (Ai Do (Ai Bu (Ag CJ (Aa (pv 0) (Aa Ah Ab))) (Ai Li Ah Ah)) (Ai Li Ah Ah))) (Ae (Ff (BK (Al Ba (Ai Bu (Ai Bf (Ag CJ (Aa (pv 0) (Aa Ah Ab))) Ah) Ah) Ah (Aq _)) (Af (Am 5 (Ai Do (Ai Bu (pv 5) Ah) Ah))) Ar)) (Ae (BK (Al Ew (pv 4) Ah (Aq _)) (Af (An (Ag UJ (Aa (pv 4) (Aa (pv 1) (Aa (pv 2) (Aa (pv 3) Ab))))))) Ar) (Ae (BK (Al Ew (pv 4) Ah (Aq _)) (Af (An (Ag O1 (Aa (pv 4) (Aa (pv 5) (Aa (pv 1) (Aa (pv 2) Ab))))))) Ar) (Ae (Am 6 (Ag Jf (Aa (Ag CJ (Aa (pv 0) (Aa Ah Ab))) Ab))) (Ae (Am 7 (Ag Jf (Aa (Ai Bf (Ag CJ (Aa (pv 0) (Aa Ah Ab))) Ah) Ab))) (Ae (Am 8 (Ai Bv Ah (Ai Bu (Ai Bf (Ag CJ (Aa (pv 0) (Aa Ah Ab))) Ah) Ah))) (Af (An (BJ (Aa (Ag O2 (Aa (pv 6) (Aa (pv 8) (Aa (pv 1) (Aa (pv 2) Ab))))) (Aa (Ag O2 (Aa (pv 7) (Aa (pv 8) (Aa (pv 1) (Aa (pv 2) Ab))))) Ab))))))))))))),?_⟩
 symm;generalize ns.getD (0:Int).toNat 0=x at q ⊢;have w0:=qh x (show (32:Int)≠0 by decide);have w1:=qg x (show (0:Int)<32 by decide);obtain⟨i,hi⟩:∃i:Nat,x%32=(i:Int):=⟨(x%32).toNat,⋯⟩;rw[hi] at q w1 ⊢;rw[p30,p29];generalize ns.getD (3:Int).toNat 0=y;have y0:=qh y (show (1000000000000000000000000000000:Int)≠0 by decide);have y1:=qg y (show (0:Int)<1000000000000000000000000000000 by decide);refine FN (fun Z' H'=>H'=H/\∃k:Int,Sm k/\Z'=[some (.ref l),some (.str (sW A.tx)),some (.str (sW B.tx)),some (.str (sW C.tx)),some (.int (i:Int)),some (.int k),none,none,none]) ?_ ?_
 ·symm;refine Ca (fun _=>?_) (fun _=>?_)
  ·symm;exact⟨rfl,_,Ir ⋯ ⋯,rfl⟩
  ·symm;exact⟨rfl,_,Ir ⋯ ⋯,rfl⟩
 rintro Z' H ⟨rfl,k,sk,rfl⟩;symm;refine Ca (fun c8=>?_) (fun c8=>?_)
 ·symm;exact⟨g,z,A,B,C,i,rfl,⋯,sm,a,b,c,fun t H' s R=>q t H' _ s R fun _=>⟨i,0,C,z,⋯,c,rfl⟩⟩
 symm;refine Ca (fun c24=>?_) (fun c24=>?_)
 ·symm;exact⟨g,z,k,A,B,i,rfl,⋯,⋯,sk,sm,a,b,fun t H' s R=>q t H' _ s R fun _=>⟨i,k,A,z,⋯,a,rfl⟩⟩
 symm;refine⟨_,rfl,fun u H1 u10 s1=>?_⟩;have hS1:=s1.seq hS;symm;refine⟨_,rfl,fun v H2 v10 s2=>?_⟩;have hS2:=s2.seq hS1;symm;generalize ns.getD (0:Int).toNat 0=x;have t0:Sm (1+x/64%2)/\1+x/64%2≠0:=⟨Ir ⋯ ⋯,⋯⟩;generalize 1+x/64%2=e at t0 ⊢;exists⟨g,z,e,A,B,4,4,u,rfl,u10,t0.1,t0.2,sm,a,b,nofun,fun n1=>?_⟩;exists⟨g,z,e,A,B,4,4,v,rfl,v10,t0.1,t0.2,sm,a,b,nofun,fun n2=>?_⟩;exact⟨DQ,fun t ht=>q t _ (_,_) ((s1.trans s2).trans (Av ht _)) (.mk n1 n2) fun z=>absurd z ⋯⟩
theorem VL:C0 135 "_law_parted" ["_law_desk","_law_script","_law_day","_law_far"] (zK K ⟨Eo,Br,Bh,Aw,Bg,CL⟩):=by
 refine co' ["_law_desk","_law_script","_law_day","_law_far","_law_size","_law_between"] XD fun nd H vs Q E hr h=>?_;obtain⟨x,l,ns,d,e,n,b,m,c,rfl,hS,h63,A,zd,P,q⟩:=h;obtain⟨dx,_,_,hx⟩:=A.at
 refine⟨_,(Ae (Am 4 (Ai Bv (BZ GX rfl YX jg2 (Aa (DX En Ck (pv 0) (Aa Aj Ab)) Ab)) (BZ GX rfl YX jg2 (Aa (DX En Ck (pv 0) (Aa Aj Ab)) Ab)))) (Ae (BK (PW.pt (Hr (Ih (oU J6 Ew (pv 2) (pv 3) (Ai Bv (pv 2) (pv 4)))) (Gp (Al Ba (DX En Ck (pv 0) (Aa (Ai Ax Aj (BZ BV rfl Dr qq (Aa (pv 3) Ab))) Ab)) (DX En Ck (pv 0) (Aa (Ai Ax Aj (BZ BV rfl Dr qq (Aa (pv 3) Ab))) Ab)) (Aq _))))) (Af (An Vm)) Ar) (Ae (BK (Al Ba (pv 3) (pv 2) (Aq _)) (Af (An Vm)) Ar) (Ae (Am 5 (BZ BV rfl Dr qq (Aa (Ai Bv (pv 2) (Ai Bu (Ag CJ (Aa (pv 1) (Aa Ah Ab))) (Ai Do (pv 3) (pv 2)))) Ab))) (Af (An (HB Ba (DX En Ck (pv 0) (Aa (Ai Ax Aj (pv 5)) Ab)) (DX En Ck (pv 0) (Aa (Ai Ax Aj (pv 5)) Ab)) (Aq _)))))))),?_⟩
 symm;exists⟨x,dx,_,rfl,hx,rfl,?_⟩;refine A.szr fun z u H1 s1 L=>?_;have zl:=L.le A.n0 A.n1;have i1:=gO (r:=(z:Int)) (Ir ⋯ ⋯);symm;refine⟨_,_,rfl,i1.1,i1.2,?_⟩;have A1:=A.same s1;obtain⟨dx,_,_,hx⟩:=A1.at
 symm;exists⟨x,dx,_,rfl,hx,rfl,?_⟩;refine A1.szs fun z' u' H2 s2 L'=>?_;have zl':=L'.le A.m0 A.m1;have i2:=gO (r:=(z':Int)) (Ir ⋯ ⋯);symm;refine⟨_,_,rfl,i2.1,i2.2,?_⟩;have A2:=A1.same s2;have hS2:=(s1.trans s2).seq hS;have lt:=P.near L L' A.n0 A.m0;have ge:=P.ge;have se:Sm e:=zd.sm ⋯ ⋯;obtain⟨dx,_,_,hx⟩:=A2.at
 symm;exists Hn ge ?_;exists HJ lt ?_;exists⟨x,dx,_,rfl,hx,rfl,?_⟩;refine⟨_,rfl,Cp se,?_⟩;exists((Lg.s "on r ").ap (.n se)).go fun y Y=>?_;refine A2.onr se Y fun H3 s3=>?_;have A3:=A2.same s3;obtain⟨dx,_,_,hx⟩:=A3.at
 symm;exists⟨x,dx,_,rfl,hx,rfl,?_⟩;refine⟨_,rfl,Cp se,?_⟩;exists((Lg.s "on s ").ap (.n se)).go fun y' Y'=>?_;refine A3.ons se Y' fun H4 s4=>?_;have A4:=A3.same s4;have hS4:=(s3.trans s4).seq hS2;symm;exists CW (fun z=>P.ne (lW.mp z)) ?_;refine Ca (fun c=>?_) (fun c=>?_)
 ·symm;exact q _
 have ne:d<e:=Int.lt_iff_le_and_ne.mpr ⟨ge,fun z=>c (ya V.int z.symm)⟩;symm;generalize ns.getD (5:Int).toNat 0=y5;have f0:=qh y5 (show e-d≠0 by lia);have f1:=qg y5 (show 0<e-d by lia);generalize y5%(e-d)=r at f0 f1;have sf:Sm (d+r):=zd.sm ⋯ ⋯;refine⟨_,rfl,Cp sf,?_⟩;obtain⟨dx,_,_,hx⟩:=A4.at
 symm;exists⟨x,dx,_,rfl,hx,rfl,?_⟩;exists((Lg.s "on r ").ap (.n sf)).go fun y Y=>?_;refine A4.onr sf Y fun H5 s5=>?_;have A5:=A4.same s5;obtain⟨dx,_,_,hx⟩:=A5.at
 symm;exists⟨x,dx,_,rfl,hx,rfl,?_⟩;exists((Lg.s "on s ").ap (.n sf)).go fun y' Y'=>?_;exists A5.ons sf Y' fun H6 s6=>?_;rw[decide_eq_true (lW.mpr (P.eq (d+r) ⋯ ⋯))];exact q _
theorem zZ:DG ["_law_script","_law_words_here","_law_days","_law_cells","_law_a","_law_size","_law_b","_law_more","_law_c","_law_last","_law_one","_law_other","_law_desk","_law_row","_law_day","_law_found","_law_far"] ["_law_script"] (BX fD):=by walk_at"s"
theorem AAa(F:Fun K "law" "law" fD f fd):F0 136 f fd ["_law_script"] (eZ K):=by
 refine F.ok (k:=135) zZ (fun h=>?_) fun nd H vs Q E hr h=>?_
 ·obtain⟨a,ns,rfl,_⟩:=h;rfl
 obtain⟨a,ns,rfl,hS,h63,hB,q⟩:=h;refine⟨_,(Ae (JN (Ag Qq (Aa (pv 0) Ab)) (J5 rfl (DN (CZ (i:=1) nd rfl (by walk_at"o")) (DN (CZ (i:=2) nd rfl (by walk_at"o")) Hl))))
  (Ae (cB (i:=3) nd rfl (by walk_at"o") rfl (Eg ["_law_script","_law_words_here","_law_days","_law_cells","_law_a","_law_size","_law_b","_law_more","_law_c","_law_last","_law_one","_law_other","_law_desk","_law_row","_law_day","_law_found","_law_far"] ["_law_script","_law_words_here","_law_days","_law_cells","_law_a","_law_size","_law_b","_law_more","_law_c","_law_last","_law_one","_law_other","_law_desk","_law_row","_law_day","_law_found","_law_far"] rfl rfl (by with_unfolding_all rfl) ∅ rfl ∅ rfl ∅ (by walk_at"fm") (by with_unfolding_all rfl) (by with_unfolding_all rfl)) (jW rfl IK (Aa Ah (Aa Ah Ab))) (fun _ _ _ _=>Ec) (fun _ _ _ _=>(Ag CJ (Aa (pv 1) (Aa (pv 0) Ab)))))
  (Ae (JN (Ag Kh (Aa (Cu FJ (pv 3) Eb (DR Ah)) (Aa (pv 2) Ab))) (J5 rfl (DN (CZ (i:=4) nd rfl (by walk_at"o")) (DN (CZ (i:=5) nd rfl (by walk_at"o")) Hl))))
  (Ae (JN (Ag Kh (Aa (Cu FJ (pv 3) (DR Ah) (DR Ah)) (Aa (pv 2) Ab))) (J5 rfl (DN (CZ (i:=6) nd rfl (by walk_at"o")) (DN (CZ (i:=7) nd rfl (by walk_at"o")) Hl))))
  (Ae (JN (Ag Kh (Aa (Cu FJ (pv 3) (DR Ah) Eb) (Aa (pv 2) Ab))) (J5 rfl (DN (CZ (i:=8) nd rfl (by walk_at"o")) (DN (CZ (i:=9) nd rfl (by walk_at"o")) Hl))))
  (Ae (Ff (BK (Al Ft (Ag GZ (Aa (pv 5) (Aa (pv 7) Ab))) Ah (Aq _))
   (Ae (Am 6 (Ai Ax (Ai Ax Aj (pv 4)) Aj))
  (Af (Am 7 (pv 5))))
   Ar))
  (Ae (Ff (BK (Al Ft (Ag GZ (Aa (Ag GZ (Aa (pv 5) (Aa (pv 7) Ab))) (Aa (pv 9) Ab))) Ah (Aq _))
   (Af (Am 8 Aj))
   Ar))
  (Ae (JN (Ag aM (Aa (pv 0) (Aa (pv 4) (Aa (pv 6) (Aa (pv 8) Ab))))) (J5 rfl (DN (CZ (i:=10) nd rfl (by walk_at"o")) (DN (CZ (i:=11) nd rfl (by walk_at"o")) Hl))))
  (Ae (Am 12 (cD Qx (hr.mono nofun) rfl))
  (Ae (JM PassesOwn.never rfl (Gu (Fq (Aa (Ai Ax Aj (pv 1)) (Aa (Ai Ax Aj (pv 10)) (Aa (Ai Ax Aj (pv 11)) Ab))))) (CZ (i:=13) nd rfl (by walk_at"o"))
   (Af (BK (Al Gz (DX En Ck (pv 12) (Aa (pv 13) Ab)) Aj (Aq _))
   (Af (An Vm))
   Ar)))
  (Ae (Am 14 (Ai Do (Ai Bu (Ag CJ (Aa (pv 0) (Aa Ah Ab))) (Ai Li Ah Ah)) (Ai Li Ah Ah)))
  (Ae (Ff (BK (Al Ba (Ai Bu (Ag CJ (Aa (pv 0) (Aa Ah Ab))) Ah) Ah (Aq _))
   (Af (Am 14 (Ai Do (Ai Bu (Ai Bf (pv 14) Ah) Ah) Ah)))
   Ar))
  (Ae (Am 15 (GR vc jc9 jd0 J9 (DX En Ck (pv 12) (Aa (Ai Ax Aj (BZ BV rfl Dr qq (Aa (pv 14) Ab))) Ab)) (Aa Aj Ab)))
  (Ae (BK (Al Ba (pxL 15) Aj (Aq _))
   (Ae (Am 16 (BZ BV rfl Dr qq (Aa (Ai Do (Ai Bu (Ag CJ (Aa (pv 0) (Aa Ah Ab))) (Ai Li Ah Ah)) (Ai Li Ah Ah)) Ab)))
  (Af (An (Sd (HB Ba (BW Bl rfl Ds xi (Aa (pv 15) Ab)) Ah (Aq _)) (Xf (HB Ba (DX En Ck (pv 12) (Aa (Ai Ax Aj (pv 16)) Ab)) (DX En Ck (pv 12) (Aa (Ai Ax Aj (pv 16)) Ab)) (Aq _)))))))
   Ar)
  (Ae (BK (PW.pt (Hr (Al Gz (BW Bl rfl Ds xi (Aa (pv 15) Ab)) Ah (Aq _)) (Hr (Al Gz (pxL 15) Aj (Aq _)) (Gp (Al Ew (Ai Bu (Ag CJ (Aa (pv 0) (Aa Ah Ab))) Ah) Ah (Aq _))))))
   (Af (An Vm))
   Ar)
  (Af (An (Ag VL (Aa (pv 12) (Aa (pv 0) (Aa (pv 14) (Aa (BZ GX rfl YX jg2 (Aa (pxL 15) Ab)) Ab)))))))))))))))))))))),?_⟩
 symm;refine⟨a,ns,rfl,hS,h63,fun g pc H1 s1 C=>?_⟩;have og:=C.1;obtain⟨sm,dv,d1,d64⟩:=id og.cy;refine JK (SqT.of C.2.2) rfl ?_;have hS1:=s1.seq hS;clear C;symm;exists Fx (fM ?_);refine⟨6,12,rfl,⟨nofun,nofun,nofun,nofun⟩,?_⟩;refine Kc aZ (by rw[js,vt,sizeLine_eq];decide) (fun D i ys H8=>H8 D=some (.lst ys)/\BR H1 H8/\ys=(List.range i).map fun(t:Nat)=>V.int (ns.getD (6+(t:Int)).toNat 0)) (fun D hD=>⟨Ao,Av hD _,rfl⟩)
  (fun D i ys H8 _ ⟨h1,h2,h3⟩=>⟨h1,by rw[h3,js,vt];exact qo _,trivial⟩) (fun D i v ys H8 hD hx ⟨h1,h2,h3⟩=>?_) (fun lk ys H8 hlk ⟨h1,h2,h3⟩=>?_)
 ·obtain⟨hi,rfl⟩:=AEW hx;have hS8:=h2.seq hS1;exists JG (Gw ?_);exists⟨a,ns,_,rfl,hS8,⋯,h63,?_⟩;refine⟨h1,Ao,Fp hD h2,?_⟩;rw[List.range_succ,ve,<-h3];rfl
 obtain⟨c0,c1,c2,c3,c4,c5,rfl⟩:∃c0 c1 c2 c3 c4 c5:Int,ys=[.int c0,.int c1,.int c2,.int c3,.int c4,.int c5]:=⟨_,_,_,_,_,_,h3⟩;clear h3;have hS8:=h2.seq hS1;symm;refine Gg (SqL.of h1) fun u hu=>?_;refine fresh hu fun H2 s2 t2=>?_;have t2:H2 u=some (.lst [.int c0,.int c1]):=t2;symm;refine⟨u,c0,c1,g,rfl,SqL.of t2,og,fun pa A zA H3 s3 N=>?_⟩;refine JK (SqT.of N.1) rfl ?_;have NA:=N.2;clear N t2;have h1:=(s2.trans s3) _ _ h1;symm;refine Gg (SqL.of h1) fun u hu=>?_;refine fresh hu fun H4 s4 t4=>?_;have t4:H4 u=some (.lst [.int c2,.int c3]):=t4;symm;refine⟨u,c2,c3,g,rfl,SqL.of t4,og,fun pb B zB H5 s5 N=>?_⟩;refine JK (SqT.of N.1) rfl ?_;have NB:=N.2;clear N t4;have h1:=(s4.trans s5) _ _ h1;symm;refine Gg (SqL.of h1) fun u hu=>?_;refine fresh hu fun H6 s6 t6=>?_;have t6:H6 u=some (.lst [.int c4,.int c5]):=t6;symm;refine⟨u,c4,c5,g,rfl,SqL.of t6,og,fun pb C zC H7 s7 N=>?_⟩;refine JK (SqT.of N.1) rfl ?_;have NC:=N.2;clear N t6 h1;have hS7:=((s2.trans s3).trans ((s4.trans s5).trans (s6.trans s7))).seq hS8;clear hS8 hS1;generalize some (V.int (dyC g))=v2;generalize some (V.ref lk)=v3;symm;refine FN (fun Z' H'=>H'=H7/\Ex2 fun(B:PT) (zB:Int)=>An3 (NP g B zB 4) (CQ zA zB<=120) (Z'=[some (.ref a),some (.str (sW (JZ g))),v2,v3,some (.str (sW A.tx)),some (.int zA),some (.str (sW B.tx)),some (.int zB),some (.str (sW C.tx)),some (.int zC),none,none,none,none,none,none,none])) ?_ ?_
 ·symm;exists⟨zA,zB,rfl,NA.z0,NA.z1,NB.z0,NB.z1,?_⟩;refine Ca (fun c=>?_) (fun c=>?_)
  ·symm;refine((Lg.s "(1 later ").ap (.w A.tx NA.fit)).go fun y Y=>?_;symm;refine(Y.aps ")").go fun y Y=>?_;rw[Y.eq (ye A)];symm;exact⟨rfl,_,zA,NA.la (sm1 nofun nofun),(by rw[lcm_self (by have:=NA.z0;lia)];exact NA.z1),rfl⟩
  ·symm;exact⟨rfl,B,zB,NB.le,⋯,rfl⟩
 clear NB;rintro Z' H7 ⟨rfl,B,zB,NB,lb,rfl⟩;have fB:=Bj (show 0<zA by have:=NA.z0;lia) (show 0<zB by have:=NB.z0;lia);symm;refine FN (fun Z' H'=>H'=H7/\Ex2 fun(C:PT) (z:Int)=>An4 (NP g A z 4) (NP g B z 4) (NP g C z 4) (Z'=[some (.ref a),some (.str (sW (JZ g))),v2,v3,some (.str (sW A.tx)),some (.int zA),some (.str (sW B.tx)),some (.int zB),some (.str (sW C.tx)),some (.int zC),none,none,none,none,none,none,none])) ?_ ?_
 ·symm;exists⟨zA,zB,rfl,NA.z0,NA.z1,NB.z0,NB.z1,?_⟩;have fC:=Bj fB.1 (show 0<zC by have:=NC.z0;lia);exists⟨CQ zA zB,zC,rfl,fB.1,lb,NC.z0,NC.z1,?_⟩;refine Ca (fun c=>?_) (fun c=>?_)
  ·symm;exact⟨rfl,.each 1 0,_,NA.le.up fB.2.1 fB.1 lb,NB.up fB.2.2.1 fB.1 lb,.ea1 fB.1 lb,by rw[yg]⟩
  ·symm;have lc:=Int.not_lt.mp c;exact⟨rfl,C,_,NA.le.up (jk2 fB.2.1 fC.2.1) fC.1 lc,NB.up (jk2 fB.2.2.1 fC.2.1) fC.1 lc,NC.le.up fC.2.2.1 fC.1 lc,rfl⟩
 clear NA NB NC fB lb;rintro Z' H7 ⟨rfl,C,z,NA,NB,NC,rfl⟩;symm;refine⟨a,ns,g,z,A,B,C,rfl,hS7,h63,sm,NA,NB,NC,fun t H8 X s8 R ps=>?_⟩;obtain⟨p,p'⟩:=X;refine JK (SqT.of R.1) rfl ?_;have N1:NP g p z 30:=R.2.1;have N2:NP g p' z 30:=R.2.2;have same:ns.getD (0:Int).toNat 0%32<24->p.Su g->p'.Su g->∀d,p.at g d=p'.at g d:=fun h S T=>by
  obtain⟨i,k,C',w,hi,NC',e⟩:=ps h;have e1:=ya Prod.fst e;have e2:=ya Prod.snd e;dsimp only at e1 e2;subst e1 e2;exact jY (NA.s1 sm).1 (NB.s1 sm).1 (NC'.s1 sm).1 hi S T
 clear ps R NA NB NC;generalize some (V.str (sW A.tx))=v4;generalize some (V.int zA)=v5;generalize some (V.str (sW B.tx))=v6;generalize some (V.int zB)=v7;generalize some (V.str (sW C.tx))=v8;generalize some (V.int zC)=v9;have hS8:=s8.seq hS7;have f1:=N1.fine sm;have f2:=N2.fine sm;symm;intro x dx fx fd' ne';refine⟨H8,x,dx,rfl,fx,fd',ne',rfl,fun H9 h9 dk=>⟨rfl,?_⟩⟩;have hS9:=h9.seq hS8;symm;exists R0 (K8 ?_);exists((Lg.s "calendar c ").ap (.w (JZ g) og.tx.2.1)).go fun y1 Z1=>?_;exists((Lg.s "rule r ").ap (.w p.tx f1.tl)).go fun y2 Z2=>?_;exists((Lg.s "rule s ").ap (.w p'.tx f2.tl)).go fun y3 Z3=>?_;rw[Z1.eq (AEk g).symm,Z2.eq (AEh p).symm,Z3.eq (AEg p').symm];clear Z1 Z2 Z3;generalize some (V.str (sW (JZ g)))=v1;generalize some (V.str (sW p.tx))=vp;generalize some (V.str (sW p'.tx))=vq;refine⟨(by show 3<=sizeLine;decide),fun ln hln=>?_⟩;refine fresh hln fun Hi si ti=>?_;have ti:Hi ln=some (.lst ((rwS g p p').map fun R=>V.str (sW R.T))):=ti;refine⟨ln,rfl,⟨_,SqL.of ti⟩,KZ (xs:=(rwS g p p').map fun R=>V.str (sW R.T)) (fun i Z' H'=>An4 (Kd Hi H') (Dk K ⟨Eo,Br,Bh,Aw,Bg,CL⟩ H' x (cS g i) (i-1) (mS g p p' i)) (rS g p p' i) (∃v11:Option V,Z'=[some (.ref a),v1,v2,v3,v4,v5,v6,v7,v8,v9,vp,vq,some (.ref x),v11,none,none,none])) ⟨Kd.of (BR.refl _),dk.same si,trivial,_,rfl⟩ ?_ ?_ ?_⟩
 ·rintro i Z' H' _ ⟨kd,_⟩;exact SqL.of (kd.lst ti)
 ·rintro i v Z' H' hv ⟨kd,dki,rs,v11,rfl⟩;rw[xo] at hv;obtain⟨R,hR,rfl⟩:=ku.mp hv;have il:i<3:=(zk.mp hR).1;obtain⟨dxi,_,_,_,hxi,_⟩:=id dki.ex;symm;exists⟨x,dxi,_,rfl,hxi,rfl,?_⟩;exists⟨x,cS g i,i-1,mS g p p' i,R,rfl,zq og f1 f2 hR,dki,⋯,uR og f1 f2 hR rs fun H'' k'' d'' r''=>?_⟩;exists HJ rfl ?_;exact⟨kd.trans k'',d'',r'',_,rfl⟩
 rintro Z' Ha ⟨kd,dka,rs,v11,rfl⟩;have dka:Dk K ⟨Eo,Br,Bh,Aw,Bg,CL⟩ Ha x (some g) 2 (mS g p p' 3):=dka;have rs:p.rl g (p.bt g)/\p'.rl g (p'.bt g):=rs;have q1:=N1.s1 sm;have q2:=N2.s1 sm;have same:=fun h=>same h ⟨q1.1,dka.lt (nm:=sg "r") rfl,rs.1⟩ ⟨q2.1,dka.lt (nm:=sg "s") rfl,rs.2⟩;have hSa:SqL K Ha a (ns.map V.int):=SqL.kd kd (si.seq hS9);have Ak:Ks K ⟨Eo,Br,Bh,Aw,Bg,CL⟩ Ha x (p.sz g).toNat (p.bt g) (p'.sz g).toNat (p'.bt g):=⟨⟨_,_,_,dka,nofun,rfl,rfl⟩,⋯,⋯,⋯,⋯⟩;have e1:((p.sz g).toNat:Int)=p.sz g:=⋯;have e2:((p'.sz g).toNat:Int)=p'.sz g:=⋯;have same:ns.getD (0:Int).toNat 0%32<24->∀d,On ((p.sz g).toNat:Int) (p.bt g) d=On ((p'.sz g).toNat:Int) (p'.bt g) d:=fun h d=>by rw[e1,e2];exact same h d
 clear hS7 hS8 hS9 ti dka rs;symm;rw[p40,p39];have y0:=qh (ns.getD (4:Int).toNat 0) (show (10000000000000000000000000000000000000000:Int)≠0 by decide);have y1:=qg (ns.getD (4:Int).toNat 0) (show (0:Int)<10000000000000000000000000000000000000000 by decide);obtain⟨day,hday⟩:∃day,ns.getD (4:Int).toNat 0%10000000000000000000000000000000000000000-1000000000000000000000000000000000000000=day:=⟨_,rfl⟩;rw[hday];refine FN (fun Z' H'=>H'=Ha/\∃d:Int,Zd d/\Z'=[some (.ref a),v1,v2,v3,v4,v5,v6,v7,v8,v9,vp,vq,some (.ref x),v11,some (.int d),none,none]) ?_ ?_
 ·symm;refine Ca (fun _=>?_) (fun _=>?_)
  ·symm;exact⟨rfl,_,by unfold Zd;lia,rfl⟩
  ·symm;exact⟨rfl,_,by unfold Zd;lia,rfl⟩
 clear hday y0 y1;rintro Z' Ha ⟨rfl,d,zd,rfl⟩;have sd:Sm d:=zd.sm ⋯ ⋯;obtain⟨dxa,_,_,hxa⟩:=Ak.at
 symm;exists Jo ?_;exists⟨x,dxa,_,rfl,hxa,rfl,?_⟩;refine⟨_,rfl,Cp sd,?_⟩;exists((Lg.s "same r s ").ap (.n sd)).go fun y Y=>?_;have n1:=Ak.n1;have m1:=Ak.m1;have cut:∀(s:String) (r:Int),Sm r->(sg s).length<=30->32∉sg s->(sW (sg s++(sg " "++nW r))).length<=1000000/\Jv 32 (sW (sg s++(sg " "++nW r)))=[Str.ofString s,sW (nW r)]:=fun s r sr l h=>⟨by
  have:=Er sr;have:(sg " ").length=1:=∅;rw[Df];simp only[ze];lia,ABy s h fun z=>by have:=Ii sr 32 z;lia⟩
 refine Ak.sam sd Y ⟨fun z' u Hb sb L1 L2=>?_,fun e Hb sb P=>?_⟩
 ·have zl:=L1.le Ak.n0 n1;obtain⟨k1,k2⟩:=cut "same" z' (Ir ⋯ ⋯) ∅ ∅;rw[show sg "same "++nW (z':Int)=sg "same"++(sg " "++nW (z':Int)) by rw[<-Zs];exact ya (· ++nW (z':Int)) ∅];exists⟨rfl,?_⟩;refine⟨_,32,rfl,by rw[show Str.ofString " "=⟨#[32]⟩ from by ac_rfl],nofun,k1,fun l hl=>?_⟩;rw[k2];refine fresh hl fun Hc sc tc=>?_;have tc:Hc l=some (.lst [.str "same",.str (sW (nW (z':Int)))]):=tc;have Ac:=(Ak.same sb).same sc;have hSc:=(sb.trans sc).seq hSa;symm;exists By (SqL.of tc) FW ?_;exists Hn rfl ?_;rw[p40,p39];have f0:=qh (ns.getD (5:Int).toNat 0) (show (10000000000000000000000000000000000000000:Int)≠0 by decide);have f1:=qg (ns.getD (5:Int).toNat 0) (show (0:Int)<10000000000000000000000000000000000000000 by decide);generalize ns.getD (5:Int).toNat 0%10000000000000000000000000000000000000000=f at f0 f1;have sf:Sm (f-1000000000000000000000000000000000000000):=Ir ⋯ ⋯;generalize f-1000000000000000000000000000000000000000=f at sf;exists⟨_,rfl,Cp sf,?_⟩;exists⟨l,_,rfl,.inl (SqL.of tc),?_⟩;refine Hn rfl ?_;obtain⟨dxc,_,_,hxc⟩:=Ac.at
  symm;exists⟨x,dxc,_,rfl,hxc,rfl,?_⟩;exists((Lg.s "on r ").ap (.n sf)).go fun y Y=>?_;refine Ac.onr sf Y fun Hd sd'=>?_;have Ad:=Ac.same sd';obtain⟨dxd,_,_,hxd⟩:=Ad.at
  symm;exists⟨x,dxd,_,rfl,hxd,rfl,?_⟩;exists((Lg.s "on s ").ap (.n sf)).go fun y' Y'=>?_;exists Ad.ons sf Y' fun He se=>?_;rw[decide_eq_true (lW.mpr ((L1.on Ak.n0 f).trans (L2.on Ak.m0 f).symm))];exact q _
 have pg:=P.ge;have pl:=P.lt;have se:Sm e:=zd.sm ⋯ ⋯;obtain⟨k1,k2⟩:=cut "parted" e se ∅ ∅;exists⟨rfl,?_⟩;refine⟨_,32,rfl,by rw[show Str.ofString " "=⟨#[32]⟩ from by ac_rfl],nofun,k1,fun l hl=>?_⟩;rw[k2];refine fresh hl fun Hc sc tc=>?_;have tc:Hc l=some (.lst [.str "parted",.str (sW (nW e))]):=tc;have Ac:=(Ak.same sb).same sc;have hSc:=(sb.trans sc).seq hSa;symm;exists By (SqL.of tc) FW ?_;exists CW (fun z=>absurd (V.str.inj z) ∅) ?_;exists⟨l,_,rfl,.inl (SqL.of tc),?_⟩;exists HJ rfl ?_;exists By (SqL.of tc) FW ?_;exists HJ rfl ?_;exists CW (fun z=>P.ne (same z e)) ?_;exists By (SqL.of tc) Jj ?_;exists⟨_,_,rfl,(gO se).1,(gO se).2,?_⟩;exact⟨x,a,ns,d,e,_,_,_,_,rfl,hSc,h63,Ac,zd,P,fun H'=>q _⟩
end
theorem ABX{w:World}{h:Heap}{mg:Str->Option Value}{fa:Addr}(X:(Hd.K w.params).In h)(G:h.Ns mainGlobals mg)(hfa:mg "law"=some (.ref fa))(Q:FnG (Hd.K w.params) "law" "law" "law" fD):
 ∃fd:FuncData,(∀(s:Shared) (v:Value),BindsTo s fd ⟨[v],[]⟩ [("_law_script",v)])/\∀base:Heap,(Hd.K w.params).In base->base.Ns mainGlobals mg->Ex PySem.Challenge.rw_feastwheel_k93_whole_the_same_for_ever.prog w (Hd.K w.params) mg base CX0 136 fa fd ["_law_script"] (eZ (Hd.K w.params)):=by
 obtain⟨f,fd,a,F⟩:=Q;have e:=hfa.symm.trans (ji6 X G a);cases e;refine⟨fd,?_,fun base X2 G2=>?_⟩
 ·obtain⟨_,_,_,_,_,_,_,_,_,rfl,_,_⟩:=F.ex;exact fun s v=>.of_eq rfl
 exact js7 fun hn=>have z:=Classical.epsilon_spec (p:=fun d=>Gi d/\¬Ok d) ⟨⟨w,mg,base⟩,⟨X2,G2⟩,fun c=>hn (c F)⟩;z.2 fun F=>(haveI:Giv:=⟨z.1.X,z.1.G⟩;AAa F)
end Fw
open PySem PySem.W PyProof.Rows
set_option maxRecDepth 100000 in
set_option maxHeartbeats 0 in
theorem PySem.Challenge.cw_feastwheel_k93_whole_the_same_for_ever_holds : PySem.Challenge.rw_feastwheel_k93_whole_the_same_for_ever.Holds := by
 refine Hd.ws fun said=>Hd.op said ?_;delta Hd.hk;k_fill;refine L2.lY (l:=PySem.Challenge.rw_feastwheel_k93_whole_the_same_for_ever) (k:=136) rfl rfl ⟨rfl,nofun,nofun,rfl⟩ (fun w h Y=>PySem.W.kIn_of Y) ?F
 case F=>
  intro w mg fa h KX G hmg;exact Fw.ABX KX G hmg (by refine' L2.qN ?_ ?_ ?_ ?_<;>first | k_is | skip)
#print axioms PySem.Challenge.cw_feastwheel_k93_whole_the_same_for_ever_holds
