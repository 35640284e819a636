import PyProof.Rows.All
import Wide.All
import KE.KNestM
import KE.RegKIsAll
import OpenK.KOwn
import OpenK.KLine
import Wide.FinOn
import Open.Tops
import Lean
import PyProof.EqAt
import PyProof.EqKinds
import PyProof.TupleCall
import KE.KEqDict
import KE.KDictOf
import KE.KItem
import KE.IntBitsLaws
import KE.KEqSeq
import KE.KIntText
import KE.IntTextLaws
import PySem.Challenge.RW_feastwheel_k94_whole_never_and_within
set_option Elab.async false
set_option linter.all false
set_option compiler.extract_closed false
set_option bootstrap.genMatcherCode false
set_option genSizeOf false
open Lean in
local macro_rules | `(command| #print $s:str) => do
  let mut xs := #[]
  for g in s.getString.splitOn ";" do
    let l := g.splitOn " "
    let mut n := 0
    for d in l.tail! do
      n := n + d.toNat!
      xs := xs.push (mkIdent (.mkSimple s!"tw{hash (Name.mkStr2 "sh" s!"{l.head!}_{n}")}"))
  return mkNullNode (← xs.mapM fun x => `(command| theorem $x:ident : True := ⟨⟩))
open Lean in
local macro_rules | `(tactic| walk_at $s:str) => do
  let k := s.getString
  unless k == "K" || k == "A" do Macro.throwUnsupported
  let mut r := #[]
  let mut e := 0
  let mut d : Int := 0
  for x in "3.1924 11.-1932 6.0.2 0.195 0.-195 2.4 6.0.3 2.4 6.0 1.0.2 1.0.5 2.4 6.0.3 2.4 6.0 1.0.2 1.0.5 2.4 6.0 1.0.2 1.0.5 2.4 6.0.3 2.4 6.0.3 2.4 6.0.3 2.4 6.0.3 2.4 6.0 1.0.2 1.0.5 2.4 6.0.3 2.0 2.0.3 1.0.2 1.0.3 2.0.3 1.0.2 1.0.2 7.3 1.0.2 1.0.2 29.0 1.0.2 1.0.3 1.0.2 1.0.3 1.0.2 1.0.3 1.0.2 1.0.3 1.0.2 1.0.2 0.3 1.0.2 1.0.3 1.0.2 1.0.3 1.0.2 1.0.3 2.0.3 1.0.2 1.0.3 1.0.2 1.0.3 1.0.2 1.0.3 1.0.2 1.0.2 21.3 1.0.2 1.0.3 1.0.2 1.0.3 1.0.2 1.0.3 1.0.2 1.0.3 1.0.2 1.0.3 1.0.2 1.0.3 1.0.2 1.0.3 1.0.2 1.0.3 1.0.2 1.0.2 7.0 1.0.2 1.0.3 1.0.2 1.0.2 0.3 1.0.2 1.0.2 14.0 1.0.2 1.0.3 2.0.3 1.0.2 1.0.3 2.0.3 2.0.3 1.0.2 1.0.2 7.3.2 1.0.2 1.0.3 2.0.3 1.0.2 1.0.3 1.0.2 1.0.3 1.0.2 1.0.7 9.3 1.0.2 1.0.3 1.0.2 1.0.4 0.189 0.-189.2 12.0 1.0.2 1.0.2 0.4 6.0.2 1.0.2 1.0.3 1.0.2 1.0.3 1.0.2 1.0.3 1.0.2 1.0.3 1.0.2 1.0.3 2.0.5 2.3 1.0.2 1.0.2 0.4 6.0 1.0.2 1.0.3 1.0.2 1.0.3 1.0.2 1.0.3 2.0.3 1.0.2 1.0.3 1.0.2 1.0.5 2.3 2.0.3 1.0.2 1.0.3 2.0.3 1.0.2 1.0.3 1.0.2 1.0.3 1.0.2 1.0.2 0.4 6.0 1.0.2 1.0.3 1.0.2 1.0.3 1.0.2 1.0.3 1.0.2 1.0.5 23.3 1.0.2 1.0.3 1.0.2 1.0.3 1.0.2 1.0.3 1.0.2 1.0.3 1.0.2 1.0.3 1.0.2 1.0.3 1.0.2 1.0.3 1.0.2 1.0.4 1.0.2 1.0.2 0.3 1.0.2 1.0.3 1.0.2 1.0.3 1.0.2 1.0.3 1.0.2 1.0.3 2.0.3 1.0.2 1.0.3 1.0.2 1.0.3 2.0.2 7.3.2 1.0.2 1.0.3 1.0.2 1.0.3 1.0.2 1.0.3 1.0.2 1.0.3 1.0.2 1.0.3 1.0.2 1.0.4 0.375 0.-375.2 2.4 6.0 1.0.2 1.0.5 2.4 6.0 1.0.2 1.0.5 2.0 1.0.2 1.0.2 0.4 6.0 1.0.2 1.0.5 2.0 1.0.2 1.0.3 1.0.2 1.0.2 0.4 6.0.2 1.0.2 1.0.5 2.4 6.0 1.0.2 1.0.5 2.4 6.0 1.0.2 1.0.5 2.4 6.0 1.0.2 1.0.5 2.4 6.0 1.0.2 1.0.5 2.4 6.0 1.0.2 1.0.5 2.4 6.0 1.0.2 1.0.5 2.4 6.0 1.0.2 1.0.5 2.4 6.0 1.0.2 1.0.5 2.4 6.0 1.0.2 1.0.5 2.4 6.0 1.0.2 1.0.5 2.4 6.0 1.0.2 1.0.5 2.4 6.0 1.0.2 1.0.5 2.0 7.3 1.0.2 1.0.3 1.0.2 1.0.3 1.0.2 1.0.7 2.0 1.0.2 1.0.3 1.0.2 1.0.3 1.0.2 1.0.2 0.3 1.0.2 1.0.3 1.0.2 1.0.3 1.0.2 1.0.3 1.0.2 1.0.3 1.0.2 1.0.3 1.0.2 1.0.3 1.0.2 1.0.3 1.0.2 1.0.3 1.0.2 1.0.3 1.0.2 1.0.3 1.0.2 1.0.3 1.0.2 1.0.2 19.6.18 1.0.2 1.0.2 1.0.2 0.5 1.0.2 1.0.3 1.0.2 1.0.3 1.0.2 1.0.3 1.0.2 1.0.3 1.0.2 1.0.3 1.0.2 1.0.3 1.0.2 1.0.3 1.0.2 1.0.3 1.0.2 1.0.3 1.0.2 1.0.3 1.0.2 1.0.3 1.0.2 1.0.3 1.0.2 1.0.2 0.3 1.0.2 1.0.3 1.0.2 1.0.3 1.0.2 1.0.4 1.0.2 1.0.3 1.0.2 1.0.2 0.5 1.0.2 1.0.3 2.0.3 1.0.2 1.0.2 7.0 1.0.2 1.0.3 2.0.7 2.0 1.0.2 1.0.2 0.3 1.0.2 1.0.3 1.0.2 1.0.3 2.0.3 1.0.2 1.0.3 1.0.2 1.0.3 1.0.2 1.0.3 1.0.2 1.0.3 1.0.2 1.0.3 1.0.2 1.0.3 2.0.3 1.0.2 1.0.3 2.0.2 0.3 1.0.2 1.0.3 1.0.2 1.0.3 1.0.2 1.0.3 1.0.2 1.0.3 1.0.2 1.0.3 2.0.2".splitOn " " do
    let y := (x.splitOn ".").map (·.toInt!)
    e := e + y[0]!.toNat
    d := d + y[1]!
    for _ in [0:(y.getD 2 1).toNat] do
      r := r.push (Syntax.mkNumLit (toString e), mkIdent (.mkSimple s!"o_{e + d}"))
      e := e + 1
  if k == "A" then `(tactic| exact [$(r.map (·.1)),*])
  else `(tactic| exact $(<- r.foldrM (fun p z => `((nat_lit $(p.1), $(p.2) $(mkIdent `P)) :: $z)) (<- `([]))))
namespace PySem.W.Fast
#print "tree 4 15 16 23 16 23 23 16 16 16 16 23 40 81 78 87 60 51 48 57 10 56 41 51 81 55 60 23 30 37 24 23 23 23 23 23 23 23 23 23 23 23 24 59 87 22 30 96 39 57 81 43;o 3 2 4 3 3 1 5 2 3 3 3 1 4 2 3 3 4 2 1 1 2 1 4 2 3 3 3 1 4 2 3 3 6 1 1 2 1 4 2 3 3 4 2 1 1 2 1 4 2 3 3 3 1 4 2 3 3 3 1 4 2 3 3 3 1 4 2 3 3 3 1 4 2 3 3 6 1 1 2 1 4 2 3 3 3 1 2 3 1 1 5 1 1 3 1 1 5 1 1 2 4 2 1 1 5 1 1 5 1 1 3 2 1 1 3 1 1 3 1 1 3 1 1 5 1 1 5 1 1 3 2 1 1 5 1 1 3 2 1 1 2 4 2 1 1 5 1 1 3 2 1 1 3 1 1 5 1 1 5 1 1 3 2 1 1 5 1 1 3 2 1 1 5 1 1 3 2 1 1 2 4 2 1 1 3 2 1 1 3 2 1 1 3 2 1 1 5 1 1 5 1 1 3 2 1 1 3 2 1 1 3 2 1 1 3 2 1 1 3 2 1 1 3 2 1 1 2 4 2 1 1 3 2 1 1 3 2 1 1 5 1 1 3 1 1 5 1 1 3 1 1 3 1 1 3 2 1 1 2 4 3 5 2 1 1 3 1 1 5 1 1 5 1 1 3 2 1 1 1 1 1 1 5 4 3 4 2 1 1 3 2 1 1 2 1 1 6 1 1 3 1 1 5 1 1 2 2 3 3 5 2 1 1 5 1 1 5 1 1 3 2 1 1 5 1 1 3 1 1 1 1 1 4 6 1 1 2 2 3 3 4 2 1 1 5 1 1 5 1 1 3 1 1 3 2 1 1 3 2 1 1 1 1 1 4 4 1 1 3 2 1 1 3 1 1 3 2 1 1 3 2 1 1 5 1 1 2 2 3 3 4 2 1 1 3 2 1 1 5 1 1 5 1 1 1 1 1 5 2 1 1 2 4 2 1 1 3 2 1 1 3 2 1 1 3 2 1 1 3 2 1 1 3 2 1 1 3 2 1 1 3 2 1 1 3 2 1 1 3 2 1 1 4 2 1 1 2 4 2 1 1 3 2 1 1 3 2 1 1 3 2 1 1 3 1 1 3 2 1 1 3 2 1 1 3 1 1 2 4 3 5 2 1 1 5 1 1 5 1 1 5 1 1 3 2 1 1 3 2 1 1 1 1 1 1 5 2 3 3 6 1 1 2 1 4 2 3 3 6 1 1 2 1 5 2 1 1 2 2 3 3 4 2 1 1 2 1 7 1 1 3 2 1 1 2 2 3 3 5 2 1 1 2 1 4 2 3 3 6 1 1 2 1 4 2 3 3 4 2 1 1 2 1 4 2 3 3 4 2 1 1 2 1 4 2 3 3 4 2 1 1 2 1 4 2 3 3 4 2 1 1 2 1 4 2 3 3 4 2 1 1 2 1 4 2 3 3 4 2 1 1 2 1 4 2 3 3 4 2 1 1 2 1 4 2 3 3 4 2 1 1 2 1 4 2 3 3 4 2 1 1 2 1 4 2 3 3 4 2 1 1 2 1 4 2 3 3 4 2 1 1 2 1 3 2 4 3 6 1 1 5 1 1 5 1 1 1 1 1 1 6 2 1 1 5 1 1 5 1 1 2 6 1 1 5 1 1 3 2 1 1 3 2 1 1 3 2 1 1 3 2 1 1 5 1 1 3 2 1 1 3 2 1 1 3 2 1 1 3 2 1 1 3 2 1 1 2 6 1 1 5 1 1 3 1 1 2 2 1 1 4 2 2 1 2 1 1 4 5 1 1 4 6 1 1 5 1 1 5 1 1 5 1 1 5 1 1 5 1 1 5 1 1 5 1 1 5 1 1 3 2 1 1 3 2 1 1 5 1 1 5 1 1 2 6 1 1 5 1 1 5 1 1 1 3 2 1 1 5 1 1 4 4 2 1 1 3 1 1 3 2 1 1 3 3 6 1 1 3 1 1 2 1 1 1 7 1 1 2 4 2 1 1 3 2 1 1 3 1 1 3 2 1 1 3 2 1 1 3 2 1 1 3 2 1 1 3 2 1 1 3 2 1 1 3 1 1 5 1 1 3 1 1 2 4 2 1 1 3 2 1 1 3 2 1 1 3 2 1 1 3 2 1 1 3 1 1;sts 4 33 23 16 23 87 23 40 81 78 87 60 51 48 57 10 56 41 51 81 55 60 23 30 37 24 23 23 23 23 23 23 23 23 23 23 23 24 59 87 22 32 94 41 55 81"
def tw3170019638234660319:PySem.Program:=PySem.Challenge.pw_feastwheel_k94_whole_never_and_within
theorem te3170019638234660319:PySem.Challenge.pw_feastwheel_k94_whole_never_and_within=tw3170019638234660319:=rfl
end PySem.W.Fast
open PySem PySem.W PyProof.Rows in
set_option maxRecDepth 100000 in
set_option maxHeartbeats 0 in
open_shared sh for PySem.Challenge.pw_feastwheel_k94_whole_never_and_within leaving 0
namespace Hd
open PySem PySem.W PySem.Calls PyProof.Rows sh
set_option maxRecDepth 100000
set_option maxHeartbeats 0
theorem ws(h:PySem.Challenge.rw_feastwheel_k94_whole_never_and_within.row.wellSaid=true->PySem.Challenge.rw_feastwheel_k94_whole_never_and_within.row.Holds):PySem.Challenge.rw_feastwheel_k94_whole_never_and_within.Holds:=by
  w_on; o_law; exact h (by assumption)
noncomputable abbrev pw:Program:=PySem.Challenge.pw_feastwheel_k94_whole_never_and_within
noncomputable def vw:Program:={pw with main:={pw.main with body:=pw.main.body.drop 212}}
noncomputable def lo:List Str:=(["FeastError","NoNumber","TooLong","NoMeasure","NoDate","InGap","NoChange","NoCycle","NoText","NoRule","NoName","NoRow","FIGURES","MOST_FIGURES","LETTERS","MOST_LETTERS","MOST_SIGNS","is_name","is_readable","is_number","read_number","read_place","read_date","place_text","date_text","MOST_ROWS","widest","names_on","almanac","refuse_below_one","divisor","equation","common","met","ahead","LONGEST","PIECE","refuse_too_long","round_by","days_in","on","on_rounds","full_bits","bits_by","stretched","primes_of","comes_again","least","common_size","both","either","unlike","without","other_days","later","folded","next_day","last_day","ones_in","days_ahead","how_many","place_of_one","nth_day","GREATEST_BASE","MOST_TERMS","GREATEST_N","term_on","signs_upto","is_term","least_length","refuse_measure","period_of","Measure","MOST_MONTHS","LONGEST_MONTH","Calendar","term_text","term_words","refuse_months","Sun","refuse_part","Moon","read_numbers","read_term","read_terms","read_sun","read_moon","read_calendar","Change","moved","MOST_PAIRS","first_parted","same","first_of_pairs","first_met","paper_of","meeting","within","refuse_wanted","days_of_month","days_of_year","dated","gathered","upon","until","till","nearer_ahead","near","kth","every","Rule","All","No","each_text","Each","wanted_text","dated_text","Dated","Not","Both","Either","But","Unlike","Later","Upon","Until","Near","Till","Kth","Every","MOST_BRACKETS","PAIR_WORDS","Reader","words_of","take_word","take_number","take_wanted","take_each","take_date","take_numbered","take_every","take_pair","take_within","take_plan","made_date","made_pair","made","read_rule","told_by_one","parts_in","shorter","FORMS","tell_date","tell_day","tell_move","tell_on","day_or_never","tell_next","tell_last","tell_nth","tell_count","tell_size","tell_same","paper_text","tell_meet","tell_within","tell_shorter","tell_show","tell_almanac","ANSWERS","words_of_row","kept_by","looked_up","named_rules","keep","Desk","_law_cell_at","_law_common","_law_moon","_law_calendar","_law_leaf","_law_put","_law_by","_law_part","_law_apart","_law_inner","_law_long","_law_day","_law_of_a_pair","_law_early","_law_on","_law_left","_law_alike","_law_told"]:List String).map Str.ofString
noncomputable def bd:List Stmt:=behindTheImports pw
noncomputable def cd:Code:=.body bd sh.env_1
noncomputable def S0(w:World)(os:OsState):Shared:=⟨boot_heap w.params,Array.mk [],boot_drawn,boot_toks,os⟩
noncomputable def tB(w:World)(os:OsState):SharedT:=⟨sh.tree_4 w.params,15,{},Array.mk [],{},187,os⟩
noncomputable def tK(w:World)(os:OsState):SharedT:=⟨sh.tree_1968 w.params,1793,{},Array.mk [],{},2713,os⟩
noncomputable abbrev hK(w:World)(os:OsState):Shared:=(tK w os).abs
noncomputable def xt(s:Shared):Bool:=xlAt vw [] s&&recOk (RowW.records PySem.Challenge.rw_feastwheel_k94_whole_never_and_within.row.toRowW) s
section
variable(w:World)(os:OsState)
theorem pre:topGo treeTable pw w 11 (some (.ref 6)) 12 (S0 w os) (topStub pw)=some ((tB w os).abs,⟨denote treeTable cd,cd,⟨0,0,0,0⟩,[topFrame ⟨0,0,0,0⟩]⟩):=by kernel_rfl
theorem block:segRun treeTable pw w 11 (some (.ref 6)) 1 1 (tB w os).abs (blockOf bd sh.env_1 cd ⟨0,0,0,0⟩ [topFrame ⟨0,0,0,0⟩])=some (.next,(tB w os).abs,cd,⟨0,0,0,0⟩):=by kernel_rfl
theorem fin:topRun treeTable pw w 11 (some (.ref 6)) 2 (tK w os).abs (restOf [] sh.env_1 cd ⟨1181,0,1205,66⟩ [topFrame ⟨0,0,0,0⟩])=some (tK w os).abs:=by kernel_rfl
theorem run:topRun treeTable pw w 11 (some (.ref 6)) 14565 (S0 w os) (topStub pw)=some (tK w os).abs:=go_top (n:=12) (N:=14553) (pre w os) (piece_block (n:=1) (N:=14552) (block w os) (sh.chain pw bd w os [] 2 _ (fin w os)))
theorem siz:((boot_heap w.params).isNs mainGlobals&&(Array.mk []:Array GenState).size==0,(boot_heap w.params).objs.size,(boot_heap w.params).nsMap mainGlobals "__annotations__")=(true,11,some (.ref 6)):=by kernel_rfl
theorem l1:namesBound pw (hK w os).heap=true:=by kernel_rfl
theorem l2:gensDone (hK w os)=true:=by kernel_rfl
theorem l3:laidKept (boot_heap w.params) (hK w os).heap=true:=by kernel_rfl
theorem l0:staticsOk (importedModules pw.main.body) (boot_heap w.params) (hK w os).heap=true:=by kernel_rfl
theorem s1:seen ((recsOf vw).map (·.name)) (ownsOf vw) [] {hK w os with gens:=#[]}=expectedOf vw:=by kernel_rfl
theorem s2:(hK w os).heap.bltView=bltViewBooted:=by kernel_rfl
theorem s3:(hK w os).heap.keysOk (looseW vw lo) ((recsOf vw).map (·.name)) ((litsOf vw).map (·.1)) ((clssOf vw (looseW vw lo)).map (·.name))=true:=by kernel_rfl
theorem s4:(hK w os).heap.accountedOkI (importedModules pw.main.body)=true:=by kernel_rfl
theorem s5:(hK w os).heap.isNs mainGlobals=true:=by kernel_rfl
theorem s6:(hK w os).heap.isNs builtinsNs=true:=by kernel_rfl
theorem s7:tablesOk vw (hK w os).heap=true:=by kernel_rfl
theorem s8:xt (hK w os)=true:=by kernel_rfl
theorem s9:tabsOk vw (hK w os)=true:=by kernel_rfl
theorem t1:pinSeenD vw (drecsOf vw) (hK w os)=pinGoodD (drecsOf vw):=by kernel_rfl
theorem t2:plainSeenE vw (looseW vw lo) (hK w os)=plainGoodE vw (looseW vw lo):=by kernel_rfl
theorem t3:plainSeenD vw lo (hK w os)=plainGoodD vw lo:=by kernel_rfl
theorem t4:wideSeen vw (hK w os)=wideGood vw:=by kernel_rfl
theorem t5:clsSeenW vw lo (hK w os)=clsGoodW vw lo:=by kernel_rfl
end
noncomputable def K(P:Params):Frag:=(nat_lit 2,boot_o_2 P)::(by walk_at"K")
noncomputable def as:List Addr:=2::(by walk_at"A")
theorem mapT{t:BT}{n:Nat}{l:Life}{as:List Addr}(h:(as.all fun a=>Nat.blt a n&&(t.get a).isSome)=true):as.map (absHeap t n l).get?=as.map fun a=>(t.get a).bind alive:=
  List.map_congr_left fun a ha=>by
    have e:=Bool.and_eq_true_iff.mp (List.all_eq_true.mp h a ha);obtain ⟨o,ho⟩:=Option.isSome_iff_exists.mp e.2;rw [abs_get (of_decide_eq_true (by simpa [Nat.blt_eq] using e.1)) ho,ho]; rfl
theorem hy(w:World)(os:OsState):as.map (hK w os).heap.get?=(K w.params).map fun p=>some p.2:=(mapT (t:=sh.tree_1968 w.params) (n:=1793) (l:={}) (by kernel_rfl)).trans (by kernel_rfl)
noncomputable def hk:Hook:=kHook K as (fun _=>by kernel_rfl)
theorem left:LeftO PySem.Challenge.rw_feastwheel_k94_whole_never_and_within.row.prog vw lo xt hk.obs hk.val 99999:=by
  refine LeftO.of_pieces (H₀:=boot_heap) (H₁:=fun P=>absHeap (sh.tree_1968 P) 1793 {}) (gs₀:=Array.mk []) (gs₁:=Array.mk []) (d₀:=boot_drawn) (d₁:={}) (k₀:=boot_toks) (k₁:=2713) (M:=14565) (boot_open (by kernel_rfl) (by kernel_rfl) fun s=>by kernel_rfl) siz run (by kernel_rfl) fun w=>funext fun os=>Prod.ext ?_ (Prod.ext ?_ (hy w os))
  · exact look_both (look_both (look_both (l0 w os) (l1 w os)) (l2 w os)) (l3 w os)
  · show openSeen vw lo (importedModules pw.main.body) xt true (hK w os)=openGood vw lo
    unfold openSeen openGood;rw [s1 w os,s2 w os,s3 w os,s4 w os,s5 w os,s6 w os,s7 w os,s8 w os,s9 w os,t1 w os,t2 w os,t3 w os,t4 w os,t5 w os];rfl
def op(said:PySem.Challenge.rw_feastwheel_k94_whole_never_and_within.row.wellSaid=true):=fun hc=>holds_open (q:=vw) (loose:=lo) (Xt:=xt) (XP:=XL vw []) (Yf:=hk.obs) (Ya:=hk.val) (YP:=hk.says) (N:=99999) left hk.of hk.keeps (fun s e=>xl_of s (Bool.and_eq_true_iff.mp e).1) XL.keeps (by rfl) (by rfl) (by rfl) (fun s e=>recFacts_of (Bool.and_eq_true_iff.mp e).2) (by rfl) said (by decide +kernel) ⟨rfl,rfl,rfl,rfl,rfl,by decide +kernel⟩ (by w_witness2) hc
end Hd
theorem zz(h:1=1:=by rfl):1=1:=h
local macro_rules | `(‹$T›)=>`(autoParam $T zz._auto_1)
local macro_rules | `(tactic| ac_rfl)=> `(tactic| decide +kernel)
local macro_rules | `(⋯)=> `(by lia)
local macro_rules | `(nofun)=> `(by decide)
local macro_rules | `(∅)=> `(by ac_rfl)
local macro_rules | `(tactic| walk_at"o")=> `(tactic| first | exact Or.inl rfl | exact Or.inr rfl)
local macro_rules | `(tactic| walk_at"s")=> `(tactic| exact ⟨rfl,rfl,rfl,by ac_rfl,rfl,by ac_rfl,by ac_rfl⟩)
set_option maxRecDepth 100000
noncomputable abbrev Fr:=PySem.W.Frag
def jp:=@List.length_map
def js:=@PySem.wpAny_bind
def jv:=@Int.emod_lt_of_pos
def qc:=@List.mem_cons_self
def qf:=@PySem.Heap.get?_push_of_some
def qg:=@Int.emod_nonneg
def qh:=@PyProof.Rows.boot_str
def qk:=@List.mem_cons_of_mem
def qm:=@List.getElem?_eq_getElem
def qq:=@Nat.le_refl
def qr:=@List.length_cons
def qv:=@List.getElem?_eq_some_iff
def zh:=@List.length_append
def zi:=@Bool.false_ne_true
def zk:=@List.mem_of_getElem?
def zo:=@List.mem_cons
def zv:=@Nat.le_trans
def zw:=@List.map_cons
def xa:=@Int.toNat_natCast
def xb:=@PySem.Heap.get?_push_size
def xc:=@List.mem_singleton
def xh:=@List.size_toArray
def xi:=@PySem.Heap.lt_size
def xk:=@Nat.lt_of_lt_of_le
def xo:=@List.getElem?_map
def xp:=@if_neg
def xy:=@if_pos
def xz:=@PySem.boot_len
def ya:=@PySem.wpAny_pure
def yi:=@List.mem_append
def yk:=@congrArg
def yv:=@List.mem_append_right
def yy:=@List.append_nil
def ua:=@Nat.shiftRight_eq_div_pow
def ub:=@Option.some.inj
def ui:=@List.mem_map
def uj:=@List.drop_of_length_le
def uk:=@List.take_of_length_le
def uu:=@PySem.F.plainAttrs_str
def va:=@List.map_map
def vb:=@Nat.lt_of_le_of_lt
def vc:=@List.length_range
def vi:=@Bool.and_eq_true
def vj:=@Int.emod_eq_zero_of_dvd
def vk:=@List.map_append
def vt:=@Int.mul_le_mul
def vv:=@Int.dvd_refl
def vx:=@Int.emod_eq_emod_iff_emod_sub_eq_zero
def ka:=@Nat.eq_of_testBit_eq
def kc:=@Nat.pow_le_pow_right
def ke:=@Nat.zero_le
def kg:=@List.not_mem_nil
def ki:=@PySem.W.mg_none_of
def ko:=@Int.natCast_add
def kq:=@Option.map_eq_some_iff
def ku:=@Nat.ne_of_lt
def kx:=@List.take_add_one
def ky:=@Int.mul_ediv_add_emod
def kz:=@List.sum_cons
def Jn:=@PySem.F.plainAttrs_list
def Qb:=@Array.length_toList
def Qr:=@Bool.eq_iff_iff
def Zl:=@Int.emod_eq_of_lt
def Zp:=@Nat.two_pow_pos
def Zs:=@PyProof.Rows.callWith_type1
def Xs:=@PyProof.Rows.boot_int
def ja0:=@List.getD_eq_getElem?_getD
def ja1:=@Nat.testBit_and
def ja2:=@Int.dvd_trans
def ja3:=@Int.mul_add
def ja4:=@Int.mul_comm
def ja5:=@List.replicate_succ
def ja6:=@List.take_length
def ja7:=@Int.dvd_of_emod_eq_zero
def ja8:=@List.takeWhile_append_dropWhile
def ja9:=@PySem.wpAny_mono
def jb0:=@Int.emod_emod_of_dvd
def jb1:=@List.mem_append_left
def jb2:=@PySem.Heap.get?_update_other
def jb3:=@Nat.testBit_shiftRight
def jb4:=@PySem.F.slot_str_split
def jb5:=@PySem.F.type_str_split
def jb6:=@List.drop_eq_getElem_cons
def jb7:=@PySem.W.kia_one
def jb8:=@Int.natCast_emod
def jb9:=@List.all_eq_true
def jc0:=@List.length_drop
def jc1:=@Nat.le_add_right
def jc2:=@Int.toNat_of_nonneg
def jc3:=@List.dropWhile_cons
def jc4:=@List.append_assoc
def jc5:=@List.length_replicate
def jc6:=@beq_iff_eq
def jc7:=@PySem.wpAny_truthy_bool
def jc8:=@Nat.testBit_or
def jc9:=@Int.mul_one
def jd0:=@Int.natCast_dvd_natCast
def jd1:=@List.length_eq_zero_iff
def jd2:=@Nat.testBit_mod_two_pow
def jd3:=@Option.toList_some
def jd4:=@Int.le_of_lt
def jd5:=@Nat.zero_testBit
def jd6:=@Int.add_zero
def jd7:=@Int.mul_le_mul_of_nonneg_right
def jd8:=@List.mem_iff_getElem?
def jd9:=@PySem.F.slot_list_extend
def je0:=@PySem.F.type_list_extend
def je1:=@PySem.W.callWith_K
def je2:=@PySem.wpAny_Call_Name_kw
def je3:=@Int.mul_le_mul_of_nonneg_left
def je4:=@List.length_take
def je5:=@Nat.testBit_succ
def je6:=@PySem.wpAny_seqItems
def je7:=@List.flatMap_cons
def je8:=@List.flatten_cons
def je9:=@Bool.or_eq_true
def jf0:=@Int.dvd_self_sub_of_emod_eq
def jf1:=@Int.mul_neg
def jf2:=@List.filter_eq_self
def jf3:=@Nat.one_pos
def jf4:=@PySem.wpAny_field
def jf5:=@Int.ediv_eq_zero_of_lt
def jf6:=@List.getElem?_append_right
def jf7:=@Array.toList_inj
def jf8:=@Int.gcd_dvd_left
def jf9:=@Nat.mod_eq_of_lt
def jg0:=@PySem.Heap.get?_update_self
def jg1:=@Int.mul_assoc
def jg2:=@List.count_cons_of_ne
def jg3:=@List.singleton_append
def jg4:=@Nat.lt_irrefl
def jg5:=@PySem.W.methodCall_KW
def jg6:=@PySem.wpAny_setField_rec
def jg7:=@Int.one_mul
def jg8:=@List.getElem?_append_left
def jg9:=@Nat.mul_le_mul_right
def jh0:=@Int.ediv_nonneg
def jh1:=@Int.gcd_dvd_right
def jh2:=@Int.mul_ediv_cancel_left
def jh3:=@Int.natCast_mul
def jh4:=@Int.natCast_pow
def jh5:=@Option.isSome_iff_exists
def jh6:=@PySem.wpAny_passesOwn
def jh7:=@Int.mul_le_mul_of_nonpos_right
def jh8:=@Int.le_refl
def jh9:=@List.flatMap_append
def ji0:=@Nat.gcd_pos_of_pos_left
def ji1:=@Nat.mul_le_mul_left
def ji2:=@PySem.W.mg_of
def ji3:=@PySem.mem_of_lookup
def ji4:=@PySem.wpAny_callSpecial?_slot
def ji5:=@Int.ediv_le_self
def ji6:=@List.cons_append
def ji7:=@List.filter_cons
def ji8:=@Nat.gcd_dvd_left
def ji9:=@Nat.lt_of_not_le
def jj0:=@PySem.Heap.size_push
def jj1:=@Int.mul_nonneg
def jj2:=@List.mem_range
def jj3:=@Nat.lt_of_succ_lt_succ
def jj4:=@Nat.testBit_lt_two_pow
def jj5:=@PyProof.Rows.boot_isinstance
def jj6:=@Int.add_mul
def jj7:=@Int.le_trans
def jj8:=@Int.lt_or_le
def jj9:=@List.find?_cons
def jk0:=@List.getElem?_eq_none
def jk1:=@List.length_nil
def jk2:=@List.nil_append
def jk3:=@Nat.mod_mul_right_mod
def jk4:=@Nat.testBit_two_pow_sub_one
def jk5:=@PyProof.Rows.boot_sum
def jk6:=@Int.le_of_dvd
def jk7:=@List.any_cons
def jk8:=@of_decide_eq_true
def jk9:=@Int.add_mul_emod_self_left
def jl0:=@Bool.and_eq_true_iff
def jl1:=@List.drop_zero
def jl2:=@Nat.testBit_zero
def jl3:=@List.length_reverse
def jl4:=@Nat.add_le_add_left
def jl5:=@Nat.testBit_two_pow
def jl6:=@List.map_nil
def jl7:=@Nat.succ_mul
def jl8:=@PySem.wpAny_comprehension_free
def jl9:=@Int.natAbs_natCast
def jm0:=@Int.natCast_nonneg
def jm1:=@List.filter_append
def jm2:=@List.forIn_cons
def jm3:=@List.getElem?_cons_succ
def jm4:=@List.range_succ
def jm5:=@Nat.min_eq_left
def jm6:=@PyProof.Rows.boot_tuple
def jm7:=@Int.fmod_nonneg_of_pos
def jm8:=@List.dropWhile_sublist
def jm9:=@List.getElem?_zipWith'
def jn0:=@Int.mul_left_comm
def jn1:=@Nat.mod_lt
def jn2:=@Nat.mul_left_comm
def jn3:=@PySem.wpAny_newObj_type
def jn4:=@Int.natAbs_mul
def jn5:=@Int.emod_add_mul_ediv
def jn6:=@Int.fmod_add_fdiv_mul
def jn7:=@Int.mul_add_ediv_left
def jn8:=@List.length_filter_le
def jn9:=@Nat.testBit_shiftLeft
def jo0:=@PyProof.Rows.boot_all
def jo1:=@PySem.codeAny_mono
def jo2:=@Bool.not_eq_true
def jo3:=@List.getElem_mem
def jo4:=@Nat.div_eq_of_lt
def jo5:=@Nat.lt_succ_self
def jo6:=@PySem.wpAny_call_entry
def jo7:=@Bool.or_false
def jo8:=@PySem.wpAny_standAt
def jo9:=@Array.toList_append
def jp0:=@List.filterMap_cons
def jp1:=@List.map_congr_left
def jp2:=@List.nodup_cons
def jp3:=@Nat.lt_two_pow_self
def jp4:=@Nat.mod_add_div
def jp5:=@Nat.pow_add
def jp6:=@Nat.testBit_xor
def jp7:=@Nat.toList_repr
def jp8:=@Option.map_some
def jp9:=@PySem.W.callWith_K0
def jq0:=@PySem.W.plainGet_of
def jq1:=@Int.zero_add
def jq2:=@Nat.le_of_eq
def jq3:=@Nat.lt_trans
def jq4:=@Nat.mul_zero
def jq5:=@Nat.zero_add
def jq6:=@List.forIn_nil
def jq7:=@List.take_zero
namespace L2
open PySem PySem.Spec PyProof.Rows
noncomputable abbrev Key:=Sum Int Str
noncomputable def Vz:Key->Value->Bool
 | .inl k,v=>Value.isInt k v
 | .inr x,v=>Value.isStrOf x v
noncomputable def ADy(w:World):Key->Int
 | .inl k=>hashInt k
 | .inr x=>hashStr w x
theorem Ef:∀{k:Key} {v:Value},Vz k v=true->(∃i t,k=Sum.inl i/\v=Value.int i t)\/(∃x t,k=Sum.inr x/\v=Value.str x t)
 | .inl i,v,h=>by
  obtain⟨t,e⟩:=Value.isInt_shape (k:=i) (v:=v) h;exact .inl ⟨i,t,rfl,e⟩
 | .inr x,v,h=>by
  obtain⟨t,e⟩:=Value.isStrOf_shape (x:=x) (v:=v) h;exact .inr ⟨x,t,rfl,e⟩
theorem jq(i:Int)(t:Tok):Vz (.inl i) (.int i t)=true:=by simp[Vz,Value.isInt]
theorem jo(x:Str)(t:Tok):Vz (.inr x) (.str x t)=true:=by simp[Vz,Value.isStrOf]
theorem AAq(a b:Int):decide ((Sum.inl a:Key)=Sum.inl b)=(a==b):=by
 by_cases e:a=b
 ·subst e;simp
 ·have h:¬(Sum.inl a:Key)=Sum.inl b:=fun q=>e (Sum.inl.inj q);rw[decide_eq_false h];exact(beq_eq_false_iff_ne.mpr e).symm
theorem AAn(a b:Str):decide ((Sum.inr a:Key)=Sum.inr b)=decide (a=b):=by
 by_cases e:a=b
 ·subst e;simp
 ·have h:¬(Sum.inr a:Key)=Sum.inr b:=fun q=>e (Sum.inr.inj q);rw[decide_eq_false h,decide_eq_false e]
theorem AAp(a:Int)(b:Str):decide ((Sum.inl a:Key)=Sum.inr b)=false:=decide_eq_false (fun q=>nomatch q)
theorem AAo(a:Str)(b:Int):decide ((Sum.inr a:Key)=Sum.inl b)=false:=decide_eq_false (fun q=>nomatch q)
noncomputable def Et(prog:Program)(w:World):PySem.KeyKind prog w Key where
 is:=Vz
 hash:=ADy w
 inj:=fun v a b ha hb=>by
  rcases Ef ha with ⟨i,t,rfl,rfl⟩ | ⟨x,t,rfl,rfl⟩
  ·rcases Ef hb with ⟨j,u,rfl,e⟩ | ⟨y,u,rfl,e⟩
   ·injection e with e1 _;rw[e1]
   ·exact nomatch e
  ·rcases Ef hb with ⟨j,u,rfl,e⟩ | ⟨y,u,rfl,e⟩
   ·exact nomatch e
   ·injection e with e1 _;rw[e1]
 byValue:=fun k v h=>by
  rcases Ef h with ⟨i,t,rfl,rfl⟩ | ⟨x,t,rfl,rfl⟩<;>rfl
 pyHash:=fun hv h=>by
  rcases Ef hv with ⟨i,t,rfl,rfl⟩ | ⟨x,t,rfl,rfl⟩
  ·exact wpAny_pyHash_int h
  ·exact wpAny_pyHash_str h
 eqBool:=fun hu hv h=>by
  rcases Ef hu with ⟨i,t,rfl,rfl⟩ | ⟨x,t,rfl,rfl⟩
  ·rcases Ef hv with ⟨j,u,rfl,rfl⟩ | ⟨y,u,rfl,rfl⟩
   ·rw[AAq] at h;exact wpAny_eqBool_int h
   ·rw[AAp] at h;exact SeqAt.EqAt.int_str i t y u _ _ _ _ h
  ·rcases Ef hv with ⟨j,u,rfl,rfl⟩ | ⟨y,u,rfl,rfl⟩
   ·rw[AAo] at h;exact SeqAt.EqAt.str_int x t j u _ _ _ _ h
   ·rw[AAn] at h;exact wpAny_eqBool_str h
 «strs»:=fun k x t v h=>by
  rcases Ef h with ⟨i,u,rfl,e⟩ | ⟨y,u,rfl,e⟩
  ·exact nomatch e
  ·injection e with e1 _;subst e1;cases v<;>rfl
theorem Zk(prog:Program)(w:World)(i:Int)(t:Tok):(Et prog w).is (.inl i) (.int i t)=true:=jq i t
theorem J5(prog:Program)(w:World)(x:Str)(t:Tok):(Et prog w).is (.inr x) (.str x t)=true:=jo x t
inductive V where
 | non | bl (b:Bool) | int (i:Int) | str (x:Str) | byt (b:Array UInt8) | flt (b:UInt64) | ref (a:Addr) | ty (n:String)
 deriving DecidableEq
def RelV:V->Value->Prop
 | .non,u=>u=Value.none
 | .bl b,u=>u=Value.bool b
 | .int i,u=>∃t,u=Value.int i t
 | .str x,u=>∃t,u=Value.str x t
 | .byt b,u=>∃t,u=Value.bytes b t
 | .flt b,u=>∃t,u=Value.float b t
 | .ref a,u=>u=Value.ref a
 | .ty n,u=>u=Value.type n
abbrev Vals:List V->List Value->Prop:=Paired RelV
variable{us:List Value}
theorem Vals.length{xs:List V}(r:Vals xs us):xs.length=us.length:=Paired.length r
theorem Vals.get:∀{xs:List V} {us:List Value} {i:Nat} {x:V},Vals xs us->xs[i]?=some x->∃u,us[i]?=some u/\RelV x u
 | _,_,_,_,.nil,e=>by simp at e
 | _,_,0,_,.cons r _,e=>by simp at e;subst e;exact⟨_,rfl,r⟩
 | _,_,i+1,x,.cons _ t,e=>by
  obtain⟨u,h1,h2⟩:=Vals.get (i:=i) (x:=x) t (by simpa using e);exact⟨u,by simpa using h1,h2⟩
variable{u:Value}
theorem Vals.set{x:V}(r:RelV x u):∀{xs:List V} {us:List Value} (i:Nat),Vals xs us->Vals (xs.set i x) (us.set i u)
 | _,_,_,.nil=>.nil
 | _,_,0,.cons _ t=>.cons r t
 | _,_,i+1,.cons q t=>.cons q (Vals.set r i t)
theorem Vals.append:∀{xs ys:List V} {us ws:List Value},Vals xs us->Vals ys ws->Vals (xs++ys) (us++ws)
 | _,_,_,_,.nil,s=>s
 | _,_,_,_,.cons r t,s=>.cons r (Vals.append t s)
theorem Vals.take:∀{xs:List V} {us:List Value} (n:Nat),Vals xs us->Vals (xs.take n) (us.take n)
 | _,_,0,_=>.nil
 | _,_,_+1,.nil=>.nil
 | _,_,n+1,.cons r t=>.cons r (Vals.take n t)
theorem Vals.drop:∀{xs:List V} {us:List Value} (n:Nat),Vals xs us->Vals (xs.drop n) (us.drop n)
 | _,_,0,r=>r
 | _,_,_+1,.nil=>.nil
 | _,_,n+1,.cons _ t=>Vals.drop n t
def Jk:Option V->Option Value->Prop
 | some v,some u=>RelV v u
 | none,none=>True
 | _,_=>False
def KV{κ:Type}:List (κ×V)->List (κ×Value)->Prop:=Paired fun(p:κ×V) (q:κ×Value)=>p.1=q.1/\RelV p.2 q.2
noncomputable def kV:Key->V
 | .inl i=>.int i
 | .inr x=>.str x
inductive HO where
 | lst (xs:List V)
 | tup (xs:List V)
 | dK (kvs:List (Key×V)) | dT (kvs:List (List Key×V))
 | set (S:Int->Bool) (n:Nat)
 | ins (C dx:Addr) (fs:List (Str×V))
 | own (x:Addr)
 | xd (fs:List (Str×V))
 | met (f x:Addr)
 | rng (lo hi:Int)
 | frz (o:Obj) (u:HO)
 | tbl (ps:Array Value)
 | ext (φ:Heap->Prop)
noncomputable abbrev Hp:=Addr->Option HO
noncomputable def upd(H:Hp)(a:Addr)(o:HO):Hp:=fun b=>if b=a then some o else H b
variable{H:Hp}{a:Addr}
theorem Am{o:HO}:upd H a o a=some o:=by unfold upd;rw[xy rfl]
theorem BK{b:Addr}{o:HO}(h:b≠a):upd H a o b=H b:=by unfold upd;rw[xp h]
theorem tE{o u:HO}:upd (upd H a o) a u=upd H a u:=by
 funext b;unfold upd;split<;>rfl
theorem Hj{b:Addr}{o u:HO}(h:H a=some o)(h':H b=some u)(d:o≠u):a≠b:=by
 intro e;subst e;rw[h] at h';exact d (ub h')
theorem Bu{b:Addr}{o:HO}(h:H a=some o)(h':H b=none):a≠b:=by
 intro e;subst e;rw[h] at h';cases h'
section
variable(P:Program)(w:World)
def Er(H:Hp)(h:Heap)(a:Addr):HO->Prop
 | .lst xs=>xs.length<=sizeLine/\∃(its:List Value) (n:Nat),Vals xs its/\h.get? a=some { cls:=.type "list",data:=.seq its.toArray n }
 | .tup xs=>xs.length<=sizeLine/\∃its:List Value,Vals xs its/\IsTup h a its.toArray
 | .dK kvs=>kvs.length<=sizeLine/\(a==sysModules)=false/\∃vs,KV kvs vs/\h.DictOf (Et P w) a vs
 | .dT kvs=>kvs.length<=sizeLine/\(a==sysModules)=false/\∃xs:List (List Key×Addr×Value),
  Paired (fun (p:List Key×V) (q:List Key×Addr×Value)=>p.1=q.1/\H q.2.1=some (.tup (p.1.map kV))/\RelV p.2 q.2.2) kvs xs/\
  ∃o es ep,h.get? a=some o/\o.ExactDict/\o.data=.dict es ep/\es.toList=xs.map (entryOfKey (tupleKind (Et P w)))/\(xs.map (·.1)).Nodup
 | .set S n=>h.SetOf (intKind P w) a S n
 | .ins C dx fs=>H dx=some (.own a)/\fs.length<=1000/\dx≠a/\h.get? a=some (PySem.W.instObj C dx)/\
  ∃mA,h.Ns1 dx mA/\(∀f,Jk (fs.lookup f) (mA f))/\PySem.Within mA (fs.map (·.1))
 | .own _=>∃o,h.get? a=some o
 | .xd fs=>∃mA,h.Ns1 a mA/\∀f,Jk (fs.lookup f) (mA f)
 | .rng lo hi=>∃t u v,h.get? a=some { cls:=.type "range",data:=.fields #[.int lo t,.int hi u,.int 1 v] }
 | .frz o u=>h.get? a=some o/\Er H h a u
 | .tbl ps=>h.get? a=some { cls:=.none,data:=.fields ps }
 | .met f x=>h.get? a=some (PySem.W.methodObj (.ref f) (.ref x))
 | .ext φ=>φ h/\(∃o,h.get? a=some o)/\∀h1 h2:Heap,φ h1->(∀o,h1.get? a=some o->h2.get? a=some o)->φ h2
def HOk(H:Hp)(h:Heap):Prop:=∀a o,H a=some o->Er P w H h a o
end
section
variable{P:Program}{w:World}{H H':Hp}{h h':Heap}{a:Addr}{o:HO}
theorem Er.lt(x:Er P w H h a o):a<h.objs.size:=by
 cases o with
 | lst xs=>obtain⟨_,_,_,_,e⟩:=x;exact xi e
 | tup xs=>obtain⟨_,_,_,p⟩:=x;exact p.lt
 | dK kvs=>obtain⟨_,_,_,_,o,_,_,e,_⟩:=x;exact xi e
 | dT kvs=>obtain⟨_,_,_,_,o,_,_,e,_⟩:=x;exact xi e
 | set S n=>obtain⟨o,_,_,_,e,_⟩:=x;exact xi e
 | ins C dx fs=>obtain⟨_,_,_,e,_⟩:=x;exact xi e
 | own y=>obtain⟨_,e⟩:=x;exact xi e
 | xd fs=>obtain⟨_,⟨_,_,_,e,_⟩,_⟩:=x;exact xi e
 | rng lo hi=>obtain⟨_,_,_,e⟩:=x;exact xi e
 | frz ob u=>obtain⟨e,_⟩:=x;exact xi e
 | tbl ps=>exact xi (show h.get? a=some _ from x)
 | met f y=>exact xi (show h.get? a=some _ from x)
 | ext φ=>obtain⟨_,⟨_,e⟩,_⟩:=x;exact xi e
theorem Paired.mapP{α β:Type}{F G:α->β->Prop}:∀{l₁:List α} {l₂:List β},Paired F l₁ l₂->(∀a b,F a b->G a b)->Paired G l₁ l₂
 | _,_,.nil,_=>.nil
 | _,_,.cons r t,f=>.cons (f _ _ r) (Paired.mapP t f)
theorem Er.stay(x:Er P w H h a o)(k:∀b u,(b=a\/H b=some (.own a))->h.get? b=some u->h'.get? b=some u)
 (ho:∀b,H b=some (.own a)->H' b=some (.own a))(ht:∀b xs,H b=some (.tup xs)->H' b=some (.tup xs)):Er P w H' h' a o:=by
 induction o with
 | lst xs=>obtain⟨z,its,n,r,e⟩:=x;exact⟨z,its,n,r,k _ _ (.inl rfl) e⟩
 | tup xs=>obtain⟨z,its,r,ob,e,c⟩:=x;exact⟨z,its,r,ob,k _ _ (.inl rfl) e,c⟩
 | dK kvs=>obtain⟨z,y,vs,r,ob,es,ep,e,c⟩:=x;exact⟨z,y,vs,r,ob,es,ep,k _ _ (.inl rfl) e,c⟩
 | dT kvs=>
  obtain⟨z,y,xs,r,ob,es,ep,e,c⟩:=x;exact⟨z,y,xs,Paired.mapP r fun p q z=>⟨z.1,ht _ _ z.2.1,z.2.2⟩,ob,es,ep,k _ _ (.inl rfl) e,c⟩
 | set S n=>obtain⟨ob,es,ep,t,e,c⟩:=x;exact⟨ob,es,ep,t,k _ _ (.inl rfl) e,c⟩
 | ins C dx fs=>
  obtain⟨d,z,ne,e,mA,⟨od,es,ep,e2,c⟩,r⟩:=x;exact⟨ho _ d,z,ne,k _ _ (.inl rfl) e,mA,⟨od,es,ep,k _ _ (.inr d) e2,c⟩,r⟩
 | own y=>obtain⟨ob,e⟩:=x;exact⟨ob,k _ _ (.inl rfl) e⟩
 | xd fs=>obtain⟨mA,⟨od,es,ep,e,c⟩,r⟩:=x;exact⟨mA,⟨od,es,ep,k _ _ (.inl rfl) e,c⟩,r⟩
 | rng lo hi=>obtain⟨t,u,v,e⟩:=x;exact⟨t,u,v,k _ _ (.inl rfl) e⟩
 | frz ob u ih=>obtain⟨e,q⟩:=x;exact⟨k _ _ (.inl rfl) e,ih q⟩
 | tbl ps=>
  have e:h.get? a=some { cls:=.none,data:=.fields ps }:=x;show h'.get? a=some { cls:=.none,data:=.fields ps };exact k a _ (.inl rfl) e
 | met f y=>
  have e:h.get? a=some (PySem.W.methodObj (.ref f) (.ref y)):=x;show h'.get? a=some (PySem.W.methodObj (.ref f) (.ref y));exact k a _ (.inl rfl) e
 | ext φ=>obtain⟨p,⟨o,e⟩,st⟩:=x;exact⟨st _ _ p fun o q=>k _ _ (.inl rfl) q,⟨o,k _ _ (.inl rfl) e⟩,st⟩
theorem HOk.lt(x:HOk P w H h)(e:H a=some o):a<h.objs.size:=(x a o e).lt
theorem HOk.fresh(x:HOk P w H h)(e:h.objs.size<=a):H a=none:=by
 cases q:H a with
 | none=>rfl
 | some u=>exact absurd (xk (x.lt q) e) (jg4 _)
theorem HOk.kept(x:HOk P w H h)(k:∀b u,h.get? b=some u->h'.get? b=some u):HOk P w H h':=fun a o e=>
 (x a o e).stay (fun b u _ q=>k b u q) (fun _ q=>q) fun _ _ q=>q
theorem HOk.laid(x:HOk P w H h)(k:∀b u,h.get? b=some u->h'.get? b=some u)(hp:h.objs.size<=a)(new:Er P w (upd H a o) h' a o):HOk P w (upd H a o) h':=fun b u e=>by
 have hn:=x.fresh hp;by_cases hb:b=a
 ·subst hb;rw[Am] at e;cases e;exact new
 ·rw[BK hb] at e;exact(x b u e).stay (fun c v _ q=>k c v q) (fun c q=>by rw[BK (Bu q hn)];exact q) fun c xs q=>by rw[BK (Bu q hn)];exact q
end
def Rd(H:Hp)(a:Addr)(u:HO):Prop:=H a=some u\/∃o,H a=some (.frz o u)
theorem Rd.ok{P:Program}{w:World}{h:Heap}{u:HO}(r:Rd H a u)(x:HOk P w H h):Er P w H h a u:=by
 rcases r with r | ⟨o,r⟩
 ·exact x a u r
 ·obtain⟨_,q⟩:=x a _ r;exact q
def Mut:Option HO->Prop
 | some (.lst _)=>True
 | some (.dK _)=>True
 | some (.dT _)=>True
 | some (.set _ _)=>True
 | some (.ins _ _ _)=>True
 | some (.ext _)=>True
 | _=>False
section
variable{P:Program}{w:World}{H:Hp}{h h':Heap}{x e:Addr}{o':HO}
theorem HOk.write(ok:HOk P w H h)(mu:Mut (H x))(he:e=x\/H e=some (.own x))(k:∀b u,b≠e->h.get? b=some u->h'.get? b=some u)(heo:∃u,h'.get? e=some u)
 (new:Er P w (upd H x o') h' x o'):HOk P w (upd H x o') h':=fun b u q=>by
 have nown:∀c y,H c=some (.own y)->c≠x:=fun c y r z=>by subst z;rw[r] at mu;exact mu
 have ntup:∀c xs,H c=some (.tup xs)->c≠x:=fun c xs r z=>by subst z;rw[r] at mu;exact mu
 by_cases hb:b=x
 ·subst hb;rw[Am] at q;cases q;exact new
 ·rw[BK hb] at q;by_cases hbe:b=e
  ·have q':H b=some (.own x):=by
    rcases he with z | z
    ·exact absurd (hbe.trans z) hb
    ·rw[hbe];exact z
   rw[q] at q';cases q';obtain⟨v,hv⟩:=heo;exact⟨v,by rw[hbe];exact hv⟩
  ·refine(ok b u q).stay (fun c v hc r=>k c v ?_ r) (fun c r=>by rw[BK (nown c b r)];exact r) fun c xs r=>by rw[BK (ntup c xs r)];exact r
   rcases hc with rfl | hc
   ·exact hbe
   ·rintro rfl;rcases he with z | z
    ·exact nown c b hc z
    ·rw[hc] at z;cases z;exact hb rfl
end
structure Un(fs ex:List Addr)(H H':Hp)(h h':Heap):Prop where
 keep:∀b o,h.get? b=some o->H b=none->b∉fs->b∉ex->h'.get? b=some o
 slot:∀b o,h.get? b=some o->H b=none->b∈fs->b∉ex->∃sl,h'.get? b=some { o with slots:=sl }
 free:∀b o,h.get? b=some o->H b=none->b∉ex->H' b=none
 there:∀b o,h.get? b=some o->b∉ex->∃o',h'.get? b=some o'
 tups:∀b xs,H b=some (.tup xs)->H' b=some (.tup xs)
 frzs:∀b o u,H b=some (.frz o u)->H' b=some (.frz o u)
 tbls:∀b ps,H b=some (.tbl ps)->∃more,H' b=some (.tbl (ps++more))
section
variable{fs fs' ex ex':List Addr}{H H1 H2:Hp}{h h1 h2 h':Heap}{a x e:Addr}{o:HO}
theorem Un.any(u:Un fs ex H H1 h h1){b:Addr}{ob:Obj}(q:h.get? b=some ob)(n:H b=none)(hx:b∉ex):∃sl,h1.get? b=some { ob with slots:=sl }:=by
 by_cases hb:b∈fs
 ·exact u.slot b ob q n hb hx
 ·exact⟨ob.slots,u.keep b ob q n hb hx⟩
theorem Un.kept(k:∀b u,h.get? b=some u->h'.get? b=some u):Un fs ex H H h h':=
 ⟨fun b ob q _ _ _=>k b ob q,fun b ob q _ _ _=>⟨ob.slots,k b ob q⟩,fun _ _ _ n _=>n,fun b ob q _=>⟨ob,k b ob q⟩,fun _ _ q=>q,fun _ _ _ q=>q,fun _ ps q=>⟨#[],by rw[q];simp⟩⟩
theorem Un.refl:Un fs ex H H h h:=Un.kept fun _ _ q=>q
theorem Un.laid(k:∀b u,h.get? b=some u->h'.get? b=some u)(hp:h.objs.size<=a)(hn:H a=none):Un fs ex H (upd H a o) h h' where
 keep:=fun b u q _ _ _=>k b u q
 slot:=fun b u q _ _ _=>⟨u.slots,k b u q⟩
 free:=fun b u q n _=>by rw[BK (ku (xk (xi q) hp))];exact n
 there:=fun b u q _=>⟨u,k b u q⟩
 tups:=fun b xs q=>by rw[BK (Bu q hn)];exact q
 frzs:=fun b u xs q=>by rw[BK (Bu q hn)];exact q
 tbls:=fun b ps q=>⟨#[],by rw[BK (Bu q hn),q];simp⟩
theorem Un.write(mu:Mut (H x))(he:e=x\/H e=some (.own x))(k:∀b u,b≠e->h.get? b=some u->h'.get? b=some u)(heo:∃u,h'.get? e=some u):Un fs ex H (upd H x o) h h':=by
 have hx:∀b,H b=none->b≠x:=fun b n z=>by subst z;rw[n] at mu;exact mu
 have hb:∀b,H b=none->b≠e:=fun b n z=>by
  subst z;rcases he with r | r
  ·exact hx b n r
  ·rw[n] at r;cases r
 have hm:∀b u,H b=some u->¬Mut (some u)->b≠x:=fun b u q nm z=>by subst z;rw[q] at mu;exact nm mu
 refine⟨fun b u q n _ _=>k b u (hb b n) q,fun b u q n _ _=>⟨u.slots,k b u (hb b n) q⟩,fun b u q n _=>by rw[BK (hx b n)];exact n,fun b u q _=>?_,
  fun b xs q=>by rw[BK (hm b _ q fun z=>z)];exact q,fun b u xs q=>by rw[BK (hm b _ q fun z=>z)];exact q,fun b ps q=>⟨#[],by rw[BK (hm b _ q fun z=>z),q];simp⟩⟩
 by_cases hbe:b=e
 ·subst hbe;exact heo
 ·exact⟨u,k b u hbe q⟩
end
noncomputable def trk(h:Heap)(H:Hp):List Addr:=(List.range h.objs.size).filter fun a=>(H a).isSome
noncomputable def X5(h:Heap)(H:Hp):Heap:=PySem.W.hideAll h (trk h H)
theorem jy(h:Heap)(H:Hp):(X5 h H).objs.size=h.objs.size:=PySem.W.hideAll_size _ _
theorem qQ{h:Heap}{b:Addr}{o:Obj}(e:h.get? b=some o)(n:H b=none):(X5 h H).get? b=some o:=
 PySem.W.hideAll_get _ e fun hm=>by
  have q:(H b).isSome=true:=(List.mem_filter.mp hm).2;rw[n] at q;simp at q
theorem u6{h:Heap}{b:Addr}{o:Obj}(e:(X5 h H).get? b=some o):h.get? b=some o/\H b=none:=by
 have e':h.get? b=some o:=PySem.W.of_hideAll (trk h H) e;refine⟨e',?_⟩;cases q:H b with
 | none=>rfl
 | some x=>
  have hm:b∈trk h H:=List.mem_filter.mpr ⟨jj2.mpr (xi e'),by simp[q]⟩;have z:(X5 h H).get? b=none:=PySem.W.hideAll_none (trk h H) hm;rw[z] at e;cases e
noncomputable def wM(g h:Heap)(L:Addr):List (Addr×Obj):=(List.range h.objs.size).filterMap fun a=>if a=L\/(g.get? a).isSome=true then none else (h.get? a).map fun o=>(a,o)
noncomputable def rest(g h:Heap)(L d:Addr):List (Addr×Obj):=(wM g h L).filter fun p=>decide (p.1≠d)
structure Mod(K:Fr)(mg:Str->Option Value)(base:Heap):Prop where
 kin:K.In base
 glob:base.Ns mainGlobals mg
 blt:∃mb,base.Ns builtinsNs mb/\∀x:Str,x≠"__name__"->mb x=bootBuiltins x
 nolimit:base.NoLimit
structure Cx where
 prog:Program
 w:World
 K:Fr
 mg:Str->Option Value
 base:Heap
 A:Around
 N:List Str
 s₀:Shared
 H₀:Hp
 env:Env
 outer:List Env
 stack:List Env
 ex:List Addr
 fn:Str->Bool
 calm:Bool
 pn:List (Addr×Obj)
 xe:Value->Shared->Prop
noncomputable def frs(l:List Env):List Addr:=l.filterMap (·.frame)
noncomputable abbrev Cx.fs(X:Cx):List Addr:=frs X.outer
def Vis(sc:Scope)(x:Str):Prop:=sc.names.lookup x=some .local\/sc.names.lookup x=some .cell\/sc.names.lookup x=some .free
def Loc(sc:Scope)(x:Str):Prop:=sc.names.lookup x=some .local\/sc.names.lookup x=some .cell
def Look(env:Env)(h:Heap)(m:Str->Option Value)(x:Str)(u:Value):Prop:=
 (env.kindOf x=some .local/\m x=some u)\/((env.kindOf x=some .cell\/env.kindOf x=some .free)/\∃c,env.cells.lookup x=some c/\h.IsCell c (some u))
structure Cx.Ok(X:Cx):Prop where
 mod:Mod X.K X.mg X.base
 kind:X.env.scope.kind=.function
 glob:X.env.globals=mainGlobals
 blt:X.env.builtins=builtinsNs
 above:X.s₀.heap.objs.size<=X.env.locals
 inj:∀x y c,X.env.cells.lookup x=some c->X.env.cells.lookup y=some c->x=y
 has:∀x,(X.env.kindOf x=some .cell\/X.env.kindOf x=some .free)->∃c,X.env.cells.lookup x=some c
 cab:∀x c,X.fn x=true->X.env.cells.lookup x=some c->X.s₀.heap.objs.size<=c
 hd:X.calm=true->X.A.handled=none
 frames:X.A.frames=some X.stack
 stk:X.stack=X.outer\/(X.stack=X.env::X.outer/\X.env.frame=some X.env.locals)
 exf:∀b∈X.ex,b≠X.env.locals/\∀x c,X.env.cells.lookup x=some c->c≠b
 bs:∀b o,X.base.get? b=some o->X.s₀.heap.get? b=some o/\X.H₀ b=none
 bsz:X.base.objs.size<=X.s₀.heap.objs.size
 noex:∀b o,X.base.get? b=some o->b∉X.ex
 exfs:∀b∈X.ex,b∉X.fs
 funs:X.s₀.heap.FunFrames X.base X.outer
 frf:∀b∈X.fs,X.H₀ b=none
structure Inv(X:Cx)(pins:List (Addr×Obj))(Z:List (Option V))(H:Hp)(s:Shared):Prop where
 ok:X.Ok
 os:s.os=X.s₀.os
 bare:AllBare s.gens
 base:Un X.fs X.ex X.H₀ H X.s₀.heap s.heap
 loc:∃m,s.heap.Ns X.env.locals m/\∀(i:Nat) (x:Str) (v:V),X.N[i]?=some x->Z[i]?=some (some v)->Vis X.env.scope x->∃u,RelV v u/\Look X.env s.heap m x u
 cell:∀x c,X.env.cells.lookup x=some c->∃v,s.heap.IsCell c v
 free:H X.env.locals=none
 freeC:∀x c,X.env.cells.lookup x=some c->H c=none
 pin:∀p∈X.pn++pins,s.heap.get? p.1=some p.2/\H p.1=none/\p.1≠X.env.locals/\p.1∉X.fs/\∀v,p.2.data≠.cell v
 hok:HOk X.prog X.w H s.heap
 len:Z.length=X.N.length
variable{x:Str}{t':Nat}{A:Around}
section
variable{X:Cx}{pins:List (Addr×Obj)}{Z:List (Option V)}{H H':Hp}{s:Shared}{h':Heap}
theorem Cx.Ok.nofr(ok:X.Ok){b:Addr}{o:Obj}(e:X.base.get? b=some o):b∉X.fs:=fun hb=>by
 have:=(ok.funs.mem hb).1;rw[e] at this;cases this
theorem Inv.bs(I:Inv X pins Z H s):∀b o,X.base.get? b=some o->s.heap.get? b=some o/\H b=none:=fun b o e=>
 ⟨I.base.keep b o (I.ok.bs b o e).1 (I.ok.bs b o e).2 (I.ok.nofr e) (I.ok.noex b o e),I.base.free b o (I.ok.bs b o e).1 (I.ok.bs b o e).2 (I.ok.noex b o e)⟩
theorem Inv.bk(I:Inv X pins Z H s):∀b o,X.base.get? b=some o->s.heap.get? b=some o:=fun b o e=>(I.bs b o e).1
theorem Inv.mod(I:Inv X pins Z H s):Mod X.K X.mg X.base:=I.ok.mod
theorem Inv.kIn(I:Inv X pins Z H s):X.K.In s.heap:=I.ok.mod.kin.keeps I.bk
theorem Inv.lt(I:Inv X pins Z H s):X.env.locals<s.heap.objs.size:=let ⟨_,hn,_⟩:=I.loc;hn.lt
theorem Inv.sz(I:Inv X pins Z H s):X.s₀.heap.objs.size<=s.heap.objs.size:=zv I.ok.above (Nat.le_of_lt I.lt)
theorem Inv.nofs(I:Inv X pins Z H s){a:Addr}(h:s.heap.objs.size<=a):a∉X.fs:=fun hb=>by
 obtain⟨_,o,ho,_⟩:=I.ok.funs.mem hb;exact absurd (xk (xi ho) (zv I.sz h)) (jg4 _)
theorem Inv.cne(I:Inv X pins Z H s):∀x c,X.env.cells.lookup x=some c->c≠X.env.locals:=fun x c e z=>by
 obtain⟨v,o,ho,hd⟩:=I.cell x c e;obtain⟨m,⟨o',es,ep,ho',hd',_⟩,_⟩:=I.loc;rw[z,ho'] at ho;cases ho;rw[hd'] at hd;cases hd
theorem Inv.funs(I:Inv X pins Z H s):s.heap.FunFrames X.base X.outer:=by
 have all:∀(l:List Env),(∀b∈frs l,b∈X.fs)->X.s₀.heap.FunFrames X.base l->s.heap.FunFrames X.base l:=by
  intro l
  induction l with
  | nil=>intro _ _;trivial
  | cons env r ih=>
   intro hs hl;obtain⟨hk,⟨L,o,hf,hn,ho,hd⟩,hr⟩:=hl;have hL:L∈X.fs:=hs L (by unfold frs;rw[jp0,hf];exact qc);obtain⟨sl,e⟩:=I.base.slot L o ho (I.ok.frf L hL) hL fun z=>I.ok.exfs L z hL;exact⟨hk,⟨L,_,hf,hn,e,hd⟩,ih (fun b hb=>hs b (by unfold frs;rw[jp0,hf];exact qk _ hb)) hr⟩
 exact all X.outer (fun _ hb=>hb) I.ok.funs
theorem Inv.stack(I:Inv X pins Z H s):s.heap.FunFrames X.base X.stack:=by
 rcases I.ok.stk with e | ⟨e,hf⟩
 ·rw[e];exact I.funs
 ·rw[e];obtain⟨m,hn,_⟩:=I.loc;refine .cons (by rw[I.ok.kind];decide) hf hn ?_ I.funs;exact Heap.get?_none_of_le (zv I.ok.bsz I.ok.above)
theorem Inv.stkSub(I:Inv X pins Z H s):∀b∈frs X.stack,b∈X.env.locals::X.fs:=fun b hb=>by
 rcases I.ok.stk with e | ⟨e,hf⟩
 ·rw[e] at hb;exact qk _ hb
 ·rw[e] at hb;unfold frs at hb;rw[jp0,hf] at hb;exact hb
theorem Inv.stkFree(I:Inv X pins Z H s):∀b∈frs X.stack,H b=none:=fun b hb=>by
 rcases zo.mp (I.stkSub b hb) with e | hb
 ·rw[e];exact I.free
 ·obtain⟨_,o,ho,_⟩:=I.ok.funs.mem hb;exact I.base.free b o ho (I.ok.frf b hb) fun z=>I.ok.exfs b z hb
theorem Inv.step{g':Array GenState}{d':Drawn}{ch:List Addr}(I:Inv X pins Z H s)
 (hch:∀b∈ch,(b∈X.ex\/X.s₀.heap.objs.size<=b)/\b≠X.env.locals/\(∀x c,X.env.cells.lookup x=some c->c≠b)/\∀p∈X.pn++pins,p.1≠b)
 (keep:∀b o,b≠X.env.locals->b∉X.fs->b∉ch->s.heap.get? b=some o->H b=none->h'.get? b=some o)
 (slot:∀b o,b≠X.env.locals->b∈X.fs->b∉ch->s.heap.get? b=some o->H b=none->∃sl,h'.get? b=some { o with slots:=sl })(free:∀b o,b∉ch->s.heap.get? b=some o->H b=none->H' b=none)
 (there:∀b o,b∉ch->s.heap.get? b=some o->∃o',h'.get? b=some o')
 (tups:∀b xs,H b=some (.tup xs)->H' b=some (.tup xs))(frzs:∀b o u,H b=some (.frz o u)->H' b=some (.frz o u))(tbls:∀b ps,H b=some (.tbl ps)->∃more,H' b=some (.tbl (ps++more)))
 (ns:∀m,s.heap.Ns X.env.locals m->h'.Ns X.env.locals m)(hok:HOk X.prog X.w H' h')(hg:AllBare g'):
 Inv X pins Z H' { s with heap:=h',gens:=g',drawn:=d',toks:=t' }:=by
 have neL:∀b o,X.s₀.heap.get? b=some o->b≠X.env.locals:=fun b o e=>ku (xk (xi e) I.ok.above);have neC:∀b o,X.s₀.heap.get? b=some o->b∉X.ex->b∉ch:=fun b o e hx hb=>by
  rcases(hch b hb).1 with z | z
  ·exact hx z
  ·exact absurd (xk (xi e) z) (jg4 _)
 have cellK:∀x c,X.env.cells.lookup x=some c->∀v,s.heap.IsCell c v->h'.IsCell c v:=fun x c e v ⟨o,ho,hd⟩=>by
  have nch:c∉ch:=fun z=>(hch c z).2.2.1 x c e rfl;by_cases hc:c∈X.fs
  ·obtain⟨sl,q⟩:=slot c o (I.cne x c e) hc nch ho (I.freeC x c e);exact⟨_,q,hd⟩
  ·exact⟨o,keep c o (I.cne x c e) hc nch ho (I.freeC x c e),hd⟩
 refine⟨I.ok,I.os,hg,⟨fun b o e n hb hx=>?_,fun b o e n hb hx=>?_,fun b o e n hx=>?_,fun b o e hx=>?_,fun b xs e=>tups b xs (I.base.tups b xs e),fun b o xs e=>frzs b o xs (I.base.frzs b o xs e),fun b ps e=>?_⟩,?_,fun x c e=>?_,?_,fun x c e=>?_,fun p hp=>?_,hok,I.len⟩
 ·exact keep b o (neL b o e) hb (neC b o e hx) (I.base.keep b o e n hb hx) (I.base.free b o e n hx)
 ·obtain⟨sl,e1⟩:=I.base.slot b o e n hb hx;obtain⟨sl',e2⟩:=slot b _ (neL b o e) hb (neC b o e hx) e1 (I.base.free b o e n hx);exact⟨sl',e2⟩
 ·obtain⟨o',e1⟩:=I.base.there b o e hx;exact free b o' (neC b o e hx) e1 (I.base.free b o e n hx)
 ·obtain⟨o',e1⟩:=I.base.there b o e hx;exact there b o' (neC b o e hx) e1
 ·obtain⟨m1,e1⟩:=I.base.tbls b ps e;obtain⟨m2,e2⟩:=tbls b _ e1;exact⟨m1++m2,by rw[e2,Array.append_assoc]⟩
 ·obtain⟨m,hn,hl⟩:=I.loc;refine⟨m,ns m hn,fun i x v e1 e2 e3=>?_⟩;obtain⟨u,r,l⟩:=hl i x v e1 e2 e3;refine⟨u,r,?_⟩;rcases l with l | ⟨k,c,e,z⟩
  ·exact .inl l
  ·exact .inr ⟨k,c,e,cellK x c e _ z⟩
 ·obtain⟨v,z⟩:=I.cell x c e;exact⟨v,cellK x c e v z⟩
 ·obtain⟨m,⟨o,_,_,ho,_⟩,_⟩:=I.loc;exact free _ o (fun z=>(hch _ z).2.1 rfl) ho I.free
 ·obtain⟨v,o,ho,hd⟩:=I.cell x c e;exact free c o (fun z=>(hch c z).2.2.1 x c e rfl) ho (I.freeC x c e)
 ·obtain⟨e,n,ne,nf,d⟩:=I.pin p hp;have nch:p.1∉ch:=fun z=>(hch p.1 z).2.2.2 p hp rfl;exact⟨keep p.1 p.2 ne nf nch e n,free p.1 p.2 nch e n,ne,nf,d⟩
theorem Inv.un(I:Inv X pins Z H s)(u:Un X.fs [] H H' s.heap h')(hok:HOk X.prog X.w H' h'):Inv X pins Z H' { s with heap:=h',toks:=t' }:=by
 obtain⟨m,⟨o,es,ep,ho,r⟩,_⟩:=id I.loc;obtain⟨sl,hL⟩:=u.any ho I.free (by simp);exact I.step (g':=s.gens) (d':=s.drawn) (ch:=[]) (fun _ z=>nomatch z) (fun b o _ hb _ e n=>u.keep b o e n hb (by simp)) (fun b o _ hb _ e n=>u.slot b o e n hb (by simp)) (fun b o _ e n=>u.free b o e n (by simp)) (fun b o _ e=>u.there b o e (by simp)) u.tups u.frzs u.tbls (fun m' hm=>by
  obtain⟨o',es',ep',ho',r'⟩:=hm;rw[ho] at ho';cases ho';exact⟨_,es',ep',hL,r'⟩) hok I.bare
theorem Inv.call{g':Array GenState}{d':Drawn}{ch:List Addr}(I:Inv X pins Z H s)(u:Un (frs X.stack) ch H H' s.heap h')(hok:HOk X.prog X.w H' h')(hg:AllBare g')
 (hch:∀b∈ch,(b∈X.ex\/X.s₀.heap.objs.size<=b)/\b≠X.env.locals/\(∀x c,X.env.cells.lookup x=some c->c≠b)/\∀p∈X.pn++pins,p.1≠b):
 Inv X pins Z H' { s with heap:=h',gens:=g',drawn:=d',toks:=t' }:=by
 obtain⟨m,⟨o,es,ep,ho,r⟩,_⟩:=id I.loc;obtain⟨sl,hL⟩:=u.any ho I.free fun z=>(hch _ z).2.1 rfl;exact I.step (ch:=ch) hch (fun b o hL hb hc e n=>u.keep b o e n (fun z=>(zo.mp (I.stkSub b z)).elim hL hb) hc) (fun b o _ _ hc e n=>u.any e n hc) (fun b o hc e n=>u.free b o e n hc) (fun b o hc e=>u.there b o e hc) u.tups u.frzs u.tbls (fun m' hm=>by
  obtain⟨o',es',ep',ho',r'⟩:=hm;rw[ho] at ho';cases ho';exact⟨_,es',ep',hL,r'⟩) hok hg
theorem Inv.turned{it:Addr}(I:Inv X pins Z H s)(k:∀b o,b≠it->s.heap.get? b=some o->h'.get? b=some o)(hn:H it=none)(hL:it≠X.env.locals)
 (h1:it∈X.ex\/X.s₀.heap.objs.size<=it)(h2:∀x c,X.env.cells.lookup x=some c->c≠it)(h3:∀p∈X.pn++pins,p.1≠it):Inv X pins Z H { s with heap:=h',toks:=t' }:=by
 have nit:∀b u,H b=some u->b≠it:=fun b u e z=>by rw[z,hn] at e;cases e
 refine I.step (g':=s.gens) (d':=s.drawn) (ch:=[it]) (fun b hb=>?_) (fun b o _ _ hc e _=>k b o (fun z=>hc (by simp[z])) e) (fun b o _ _ hc e _=>⟨o.slots,k b o (fun z=>hc (by simp[z])) e⟩) (fun _ _ _ _ n=>n)
  (fun b o hc e=>⟨o,k b o (fun z=>hc (by simp[z])) e⟩) (fun _ _ e=>e) (fun _ _ _ e=>e) (fun b ps e=>⟨#[],by rw[e];simp⟩) (fun m hm=>?_) (fun b u e=>?_) I.bare
 ·have e:b=it:=by simpa using hb
  subst e;exact⟨h1,hL,h2,h3⟩
 ·obtain⟨o,es,ep,ho,r⟩:=hm;exact⟨o,es,ep,k _ o (Ne.symm hL) ho,r⟩
 ·refine(I.hok b u e).stay (fun c v hc q=>k c v ?_ q) (fun _ q=>q) fun _ _ q=>q;rcases hc with z | z
  ·rw[z];exact nit b u e
  ·exact nit c _ z
theorem Inv.tok(I:Inv X pins Z H s)(t:Nat):Inv X pins Z H { s with toks:=t }:=I.un (h':=s.heap) (t':=t) Un.refl I.hok
theorem Inv.kept(I:Inv X pins Z H s)(k:∀b u,s.heap.get? b=some u->h'.get? b=some u):Inv X pins Z H { s with heap:=h',toks:=t' }:=I.un (Un.kept k) (I.hok.kept k)
theorem Inv.laid{o:HO}(I:Inv X pins Z H s)(k:∀b u,s.heap.get? b=some u->h'.get? b=some u)(hp:s.heap.objs.size<=a)(new:Er X.prog X.w (upd H a o) h' a o):
 Inv X pins Z (upd H a o) { s with heap:=h',toks:=t' }:=I.un (Un.laid k hp (I.hok.fresh hp)) (I.hok.laid k hp new)
theorem Inv.write{x e:Addr}{o:HO}(I:Inv X pins Z H s)(mu:Mut (H x))(he:e=x\/H e=some (.own x))(k:∀b u,b≠e->s.heap.get? b=some u->h'.get? b=some u)(heo:∃u,h'.get? e=some u)
 (new:Er X.prog X.w (upd H x o) h' x o):Inv X pins Z (upd H x o) { s with heap:=h',toks:=t' }:=I.un (Un.write mu he k heo) (I.hok.write mu he k heo new)
theorem Inv.pins_of{pins':List (Addr×Obj)}(I:Inv X pins Z H s)(h:∀p∈pins',s.heap.get? p.1=some p.2/\H p.1=none/\p.1≠X.env.locals/\p.1∉X.fs/\∀v,p.2.data≠.cell v):Inv X pins' Z H s:=
 ⟨I.ok,I.os,I.bare,I.base,I.loc,I.cell,I.free,I.freeC,fun p hp=>(yi.mp hp).elim (fun z=>I.pin p (jb1 _ z)) (h p),I.hok,I.len⟩
theorem Zj{N:List Str}(hN:N.Nodup){i j:Nat}{x:Str}(a:N[i]?=some x)(b:N[j]?=some x):i=j:=by
 obtain⟨h1,e1⟩:=qv.mp a;obtain⟨h2,e2⟩:=qv.mp b;exact(List.getElem_inj hN).mp (e1.trans e2.symm)
theorem NZ{M:Model}{E:Value->Shared->Prop}{i:Nat}{v:V}{Q:Unit->Shared->Prop}(I:Inv X pins Z H s)(hN:X.N.Nodup)(hi:X.N[i]?=some x)(hx:Loc X.env.scope x)(r:RelV v u)
 (h:∀s',Inv X pins (Z.set i (some v)) H s'->(∃a,Heap.SameBut a s.heap s'.heap/\(a=X.env.locals\/X.env.cells.lookup x=some a))->Q () s')(hf:X.fn x=true\/X.env.scope.names.lookup x=some .local:=by first | exact .inl rfl | exact .inr rfl | assumption):wpAny M A (storeName X.env x u) Q E s:=by
 obtain⟨m,hn,hl⟩:=id I.loc;have hcls:(X.env.scope.kind==.class||(X.env.scope.kind==.module&&X.env.locals != X.env.globals))=false:=by rw[I.ok.kind];rfl
 have hiσ:i<Z.length:=by rw[I.len];exact(qv.mp hi).1
 have cne:=I.cne;have tracked:∀{a:Addr} {h':Heap},(∃o,s.heap.get? a=some o/\H a=none)->Heap.SameBut a s.heap h'->HOk X.prog X.w H h':=fun{a h'} ha hs b ob e=>by
  obtain⟨_,_,hfree⟩:=ha;refine(I.hok b ob e).stay (fun c w' hc q=>(hs.2 c ?_).trans q) (fun _ q=>q) fun _ _ q=>q;rintro rfl;rcases hc with rfl | hc
  ·rw[hfree] at e;cases e
  ·rw[hfree] at hc;cases hc
 rcases hx with hk | hk
 ·refine wpAny_storeName_local hk hn (fun h' hn' hs=>?_) hcls;obtain⟨oL,_,_,hoL,_⟩:=id hn;refine h _ ⟨I.ok,I.os,I.bare,⟨fun b o e n hb hx=>?_,fun b o e n hb hx=>?_,I.base.free,fun b o e hx=>?_,I.base.tups,I.base.frzs,I.base.tbls⟩,⟨_,hn',fun j y v' e1 e2 e3=>?_⟩,fun y c e=>?_,I.free,I.freeC,fun p hp=>?_,tracked ⟨oL,hoL,I.free⟩ hs,by simpa using I.len⟩ ⟨_,hs,.inl rfl⟩
  ·exact(hs.2 b (ku (xk (xi e) I.ok.above))).trans (I.base.keep b o e n hb hx)
  ·obtain⟨sl,e1⟩:=I.base.slot b o e n hb hx;exact⟨sl,(hs.2 b (ku (xk (xi e) I.ok.above))).trans e1⟩
  ·obtain⟨o',e1⟩:=I.base.there b o e hx;exact⟨o',(hs.2 b (ku (xk (xi e) I.ok.above))).trans e1⟩
  ·by_cases hj:j=i
   ·subst hj;rw[hi] at e1;cases e1;rw[List.getElem?_set_self hiσ] at e2;cases e2;exact⟨u,r,.inl ⟨hk,by simp⟩⟩
   ·rw[List.getElem?_set_ne (Ne.symm hj)] at e2;obtain⟨u',r',q⟩:=hl j y v' e1 e2 e3;refine⟨u',r',?_⟩;rcases q with ⟨k,e⟩ | ⟨k,c,e,z⟩
    ·refine .inl ⟨k,?_⟩;have:y≠x:=fun e=>hj (Zj hN e1 (e ▸ hi));simp[this,e]
    ·exact .inr ⟨k,c,e,z.sameBut hs (cne y c e)⟩
  ·obtain⟨w',z⟩:=I.cell y c e;exact⟨w',z.sameBut hs (cne y c e)⟩
  ·obtain⟨e,n,ne,nf,d⟩:=I.pin p hp;exact⟨(hs.2 p.1 ne).trans e,n,ne,nf,d⟩
 ·have hfn:X.fn x=true:=by
   rcases hf with z | z
   ·exact z
   ·rw[z] at hk;cases hk
  obtain⟨c,hc⟩:=I.ok.has x (.inl hk);obtain⟨w',z⟩:=I.cell x c hc;refine wpAny_storeName_cell I.ok.kind hk hc z (fun h' hc' hs=>?_);obtain⟨oc,hoc,hocd⟩:=id z;refine h { s with heap:=h' } ⟨I.ok,I.os,I.bare,⟨fun b o e n hb hx=>?_,fun b o e n hb hx=>?_,I.base.free,fun b o e hx=>?_,I.base.tups,I.base.frzs,I.base.tbls⟩,⟨m,hn.sameBut hs (Ne.symm (cne x c hc)),fun j y v' e1 e2 e3=>?_⟩,fun y c' e=>?_,I.free,I.freeC,fun p hp=>?_,tracked ⟨oc,hoc,I.freeC x c hc⟩ hs,by simpa using I.len⟩ ⟨c,hs,.inr hc⟩
  ·exact(hs.2 b (ku (xk (xi e) (I.ok.cab x c hfn hc)))).trans (I.base.keep b o e n hb hx)
  ·obtain⟨sl,e1⟩:=I.base.slot b o e n hb hx;exact⟨sl,(hs.2 b (ku (xk (xi e) (I.ok.cab x c hfn hc)))).trans e1⟩
  ·obtain⟨o',e1⟩:=I.base.there b o e hx;exact⟨o',(hs.2 b (ku (xk (xi e) (I.ok.cab x c hfn hc)))).trans e1⟩
  ·by_cases hj:j=i
   ·subst hj;rw[hi] at e1;cases e1;rw[List.getElem?_set_self hiσ] at e2;cases e2;exact⟨u,r,.inr ⟨.inl hk,c,hc,hc'⟩⟩
   ·rw[List.getElem?_set_ne (Ne.symm hj)] at e2;obtain⟨u',r',q⟩:=hl j y v' e1 e2 e3;refine⟨u',r',?_⟩;rcases q with q | ⟨k,c',e,z'⟩
    ·exact .inl q
    ·refine .inr ⟨k,c',e,z'.sameBut hs ?_⟩;rintro rfl;exact hj (Zj hN e1 (I.ok.inj _ _ _ e hc ▸ hi))
  ·by_cases hcc:c'=c
   ·subst hcc;exact⟨_,hc'⟩
   ·obtain⟨w2,z2⟩:=I.cell y c' e;exact⟨w2,z2.sameBut hs hcc⟩
  ·obtain⟨e,n,ne,nf,d⟩:=I.pin p hp;refine⟨(hs.2 p.1 ?_).trans e,n,ne,nf,d⟩;intro q;rw[q,hoc] at e;have q':oc=p.2:=ub e;exact d w' (by rw[<-q'];exact hocd)
theorem Li{M:Model}{E:Value->Shared->Prop}{i:Nat}{v:V}{Q:Unit->Shared->Prop}(I:Inv X pins Z H s)(hN:X.N.Nodup)(hi:X.N[i]?=some x)(hx:Loc X.env.scope x)(r:RelV v u)
 (h:∀s',Inv X pins (Z.set i (some v)) H s'->Q () s')(hf:X.fn x=true\/X.env.scope.names.lookup x=some .local:=by first | exact .inl rfl | exact .inr rfl | assumption):wpAny M A (storeName X.env x u) Q E s:=
 NZ I hN hi hx r (fun s' I' _=>h s' I') hf
theorem Inv.call'{s':Shared}{ch:List Addr}(I:Inv X pins Z H s)(ho:s'.os=s.os)(u:Un (frs X.stack) ch H H' s.heap s'.heap)(hok:HOk X.prog X.w H' s'.heap)(hg:AllBare s'.gens)
 (hch:∀b∈ch,(b∈X.ex\/X.s₀.heap.objs.size<=b)/\b≠X.env.locals/\(∀x c,X.env.cells.lookup x=some c->c≠b)/\∀p∈X.pn++pins,p.1≠b):Inv X pins Z H' s':=by
 obtain⟨h',g',d',t',o'⟩:=s';have e:o'=s.os:=ho;subst e;exact I.call (g':=g') (t':=t') (d':=d') u hok hg hch
end
noncomputable abbrev XK:=Value->Option Addr->Hp->Prop
noncomputable abbrev St:=List (Option V)
noncomputable abbrev VK:=V->Hp->Prop
noncomputable abbrev TE:=St->Hp->VK->Prop
noncomputable abbrev TT:=St->Hp->(Bool->Hp->Prop)->Prop
noncomputable abbrev TA:=St->Hp->(List V->Hp->Prop)->Prop
structure Ends where
 nx:St->Hp->Prop
 rt:VK
 bk:St->Hp->Prop:=fun _ _=>False
 ct:St->Hp->Prop:=fun _ _=>False
noncomputable abbrev TS:=Ends->St->Hp->Prop
def EP(X:Cx)(pins:List (Addr×Obj))(Z:St)(Q:VK)(u:Value)(s':Shared):Prop:=∃v H',Inv X pins Z H' s'/\RelV v u/\Q v H'
def TP(X:Cx)(pins:List (Addr×Obj))(Z:St)(Q:Bool->Hp->Prop)(b:Bool)(s':Shared):Prop:=∃H',Inv X pins Z H' s'/\Q b H'
def AP(X:Cx)(pins:List (Addr×Obj))(Z:St)(Q:List V->Hp->Prop)(us:List Value)(s':Shared):Prop:=∃vs H',Inv X pins Z H' s'/\Vals vs us/\Q vs H'
def SP(X:Cx)(pins:List (Addr×Obj))(D:Ends)(f:Flow)(s':Shared):Prop:=
 match f with
 | .next=>∃Z' H',Inv X pins Z' H' s'/\D.nx Z' H'
 | .brk=>∃Z' H',Inv X pins Z' H' s'/\D.bk Z' H'
 | .cont=>∃Z' H',Inv X pins Z' H' s'/\D.ct Z' H'
 | .ret u=>∃v Z' H',Inv X pins Z' H' s'/\RelV v u/\D.rt v H'
def PE(X:Cx)(e:Expr)(t:TE):Prop:=
 ∀ ⦃pins:List (Addr×Obj)⦄ (s:Shared) (Z:St) (H:Hp) (Q:VK),Inv X pins Z H s->t Z H Q->wpAny (model X.prog X.w) X.A (eval e X.env) (EP X pins Z Q) X.xe s
def PT(X:Cx)(e:Expr)(t:TT):Prop:=
 ∀ ⦃pins:List (Addr×Obj)⦄ (s:Shared) (Z:St) (H:Hp) (Q:Bool->Hp->Prop),Inv X pins Z H s->t Z H Q->wpAny (model X.prog X.w) X.A (isTrue e X.env (eval e X.env)) (TP X pins Z Q) X.xe s
def PW(X:Cx)(e:Expr)(t:TT):Prop:=
 ∀ ⦃whole:Sem Value⦄ (pins:List (Addr×Obj)) (s:Shared) (Z:St) (H:Hp) (Q:Bool->Hp->Prop),Inv X pins Z H s->t Z H Q->wpAny (model X.prog X.w) X.A (isTrue e X.env whole) (TP X pins Z Q) X.xe s
theorem PW.pt{X:Cx}{e:Expr}{t:TT}(h:PW X e t):PT X e t:=fun pins=>@h _ pins
def PA(X:Cx)(es:List Expr)(t:TA):Prop:=
 ∀ ⦃pos:Pos⦄ (pins:List (Addr×Obj)) (s:Shared) (Z:St) (H:Hp) (Q:List V->Hp->Prop),Inv X pins Z H s->t Z H Q->wpAny (model X.prog X.w) X.A (spliced (backTo pos (starEach es X.env))) (AP X pins Z Q) X.xe s
def PS(X:Cx)(st:Stmt)(t:TS):Prop:=
 ∀ ⦃pins:List (Addr×Obj)⦄ (s:Shared) (Z:St) (H:Hp) (D:Ends),Inv X pins Z H s->t D Z H->wpAny (model X.prog X.w) X.A (exec st X.env) (SP X pins D) X.xe s
def PSs(X:Cx)(st:List Stmt)(t:TS):Prop:=
 ∀ ⦃pins:List (Addr×Obj)⦄ (s:Shared) (Z:St) (H:Hp) (D:Ends),Inv X pins Z H s->t D Z H->wpAny (model X.prog X.w) X.A (execs st X.env) (SP X pins D) X.xe s
theorem thn{α:Type}{t:Sem α}{Q Q':α->Shared->Prop}{M:Model}{E:Value->Shared->Prop}{s:Shared}(h:wpAny M A t Q E s)(hQ:∀a s,Q a s->Q' a s):wpAny M A t Q' E s:=ja9 h hQ fun _ _ x=>x
variable{Z:St}{pos:Pos}{pins:List (Addr×Obj)}
section
variable{X:Cx}
def ADi:Option (Option V)->(V->Prop)->Prop
 | some (some v),k=>k v
 | _,_=>False
def Gp(i:Nat):TE:=fun Z H Q=>ADi Z[i]? fun v=>Q v H
theorem tL{i:Nat}{Q:VK}(h:Gp i Z H Q):∃v,Z[i]?=some (some v)/\Q v H:=by
 unfold Gp at h
 match e:Z[i]?,h with
 | some (some v),h=>exact⟨v,rfl,h⟩
theorem J0{i:Nat}{Q:VK}{v:V}(e:Z[i]?=some (some v))(h:Q v H):Gp i Z H Q:=by
 unfold Gp;rw[e];exact h
noncomputable abbrev Vw(T G:Prop):=(T->G)->T->G
def tC(v:V):TE:=fun _ H Q=>Q v H
theorem o7{i:Nat}(hN:X.N[i]?=some x)(hv:Vis X.env.scope x)(hd:(x==("__debug__":Str))=false:=by decide)(hcd:(x==("__classdict__":Str))=false:=by decide):PE X (.Name x pos) (Gp i):=by
 intro pins s Z H Q I h;obtain⟨v,e,h⟩:=tL h;obtain⟨m,hn,hl⟩:=I.loc;obtain⟨u,r,l⟩:=hl i x v hN e hv;have fin:EP X pins Z Q u s:=⟨v,H,I,r,h⟩;rcases l with ⟨hk,hm⟩ | ⟨hk,c,hc,hcell⟩
 ·exact wpAny_Name (wpAny_loadName_local I.ok.kind hk hn hm fin) hd
 ·rcases hk with hk | hk
  ·exact wpAny_Name (wpAny_loadName_cell I.ok.kind hk hc hcell fin) hd
  ·exact wpAny_Name (wpAny_loadName_free I.ok.kind hk hc hcell fin hcd) hd
theorem Ae{i j pos}:PE X (.Constant (.int i) j pos) (tC (.int i)):=fun _ _ _ H _ I h=>wpAny_Constant_int ⟨.int i,H,I.tok _,⟨_,rfl⟩,h⟩
theorem Ky{b j pos}:PE X (.Constant (.bool b) j pos) (tC (.bl b)):=fun _ _ _ H _ I h=>Constant_bool ⟨.bl b,H,I,rfl,h⟩
theorem G4{j pos}:PE X (.Constant .none j pos) (tC .non):=fun _ _ _ H _ I h=>Constant_none ⟨.non,H,I,rfl,h⟩
theorem Ah{x j pos}:PE X (.Constant (.str x) j pos) (tC (.str x)):=fun _ _ _ H _ I h=>Calls.Constant_str ⟨.str x,H,I.tok _,⟨_,rfl⟩,h⟩
def Gl(X:Cx)(x:Str):Prop:=X.env.kindOf x=some .globalImplicit
theorem Ml{E:Value->Shared->Prop}{s:Shared}{Q:Value->Shared->Prop}(I:Inv X pins Z H s)(hg:Gl X x)(hm:X.mg x=some u)(h:Q u s)
 (hd:(x==("__debug__":Str))=false:=by decide):wpAny (model X.prog X.w) X.A (eval (.Name x pos) X.env) Q E s:=
 Calls.Name_function_global I.ok.kind hg (Calls.loadGlobal_global (by rw[I.ok.glob];exact I.mod.glob.keeps I.bk) hm h) hd
theorem JW{E:Value->Shared->Prop}{s:Shared}{Q:Value->Shared->Prop}(I:Inv X pins Z H s)(hg:Gl X x)(hm:X.mg x=none)(hv:bootBuiltins x=some u)(h:Q u s)
 (hn:x≠"__name__":=by decide)(hd:(x==("__debug__":Str))=false:=by decide):wpAny (model X.prog X.w) X.A (eval (.Name x pos) X.env) Q E s:=by
 obtain⟨mb,h1,h2⟩:=I.mod.blt;exact Calls.Name_function_global I.ok.kind hg (Calls.loadGlobal_builtin (by rw[I.ok.glob];exact I.mod.glob.keeps I.bk) hm (by rw[I.ok.blt];exact h1.keeps I.bk) ((h2 x hn).trans hv) h) hd
theorem CP{v:V}(hg:Gl X x)(hm:X.mg x=some u)(r:RelV v u)(hd:(x==("__debug__":Str))=false:=by decide):PE X (.Name x pos) (tC v):=
 fun _ _ _ H _ I h=>Ml I hg hm ⟨v,H,I,r,h⟩ hd
theorem Xj{v:V}(hg:Gl X x)(hm:X.mg x=none)(hv:bootBuiltins x=some u)(r:RelV v u)(hn:x≠"__name__":=by decide)(hd:(x==("__debug__":Str))=false:=by decide):PE X (.Name x pos) (tC v):=
 fun _ _ _ H _ I h=>JW I hg hm hv ⟨v,H,I,r,h⟩ hn hd
variable{a b:Expr}{ta tb:TE}{pos:Pos}
def PC(X:Cx)(op:CmpOp)(a b:Expr)(t:TE):Prop:=
 ∀(pins:List (Addr×Obj)) (s:Shared) (Z:St) (H:Hp) (Q:VK),Inv X pins Z H s->t Z H Q->
  wpAny (model X.prog X.w) X.A (eval a X.env) (fun v s₁=>wpAny (model X.prog X.w) X.A (eval b X.env) (fun u s₂=>wpAny (model X.prog X.w) X.A (compareOp op v u) (EP X pins Z Q) X.xe s₂) X.xe s₁) X.xe s
def tB(t:TE):TT:=fun Z H Q=>t Z H fun x H1=>∃c,x=.bl c/\Q c H1
theorem Xe{op:CmpOp}{t:TE}(h:PC X op a b t)(h1:behindInMarks op b=false:=by first | exact nobehind _ nofun nofun | rfl):PT X (.Compare a [op] [b] pos) (tB t):=by
 intro pins s Z H Q I hw;refine wpAny_isTrue_Compare1 (thn (h pins s Z H _ I hw) fun v s1 h1=>thn h1 fun u s2 h2=>thn h2 fun c s3 hZ=>?_) h1;obtain⟨x,H1,I1,r1,q1⟩:=hZ;obtain⟨d,rfl,q⟩:=q1;cases r1;exact jc7 ⟨H1,I1,q⟩
theorem El{e:Expr}{t:TE}(h:PE X e t)(he:∀whole,isTrue e X.env whole=(do let v <-whole;standAt e.pos;holding [v] (truthy v)):=by intro _;rfl):PT X e (tB t):=by
 intro pins s Z H Q I hw;refine isTrue_plain (thn (h s Z H _ I hw) fun v s1 hZ=>?_) (he _);obtain⟨x,H1,I1,r1,q1⟩:=hZ;obtain⟨d,rfl,q⟩:=q1;cases r1;exact jc7 ⟨H1,I1,q⟩
variable{tA tB':TT}{rest:List Expr}
def ABq(t u:TT):TT:=fun Z H Q=>t Z H fun c H1=>if c=true then u Z H1 Q else Q false H1
def tOr(t u:TT):TT:=fun Z H Q=>t Z H fun c H1=>if c=true then Q true H1 else u Z H1 Q
def ABk(t:TT):TT:=fun Z H Q=>t Z H fun c H1=>Q (!c) H1
theorem Ho(ha:PT X a tA):PW X (.BoolOp .And [a] pos) tA:=by
 intro wh pins s Z H Q I h;refine isTrue_and (thn (ha s Z H Q I h) fun c s1 e=>?_);cases c with
 | true=>exact isTrue_and_nil e
 | false=>exact e
theorem GK(ha:PT X a tA):PW X (.BoolOp .Or [a] pos) tA:=by
 intro wh pins s Z H Q I h;refine isTrue_or (thn (ha s Z H Q I h) fun c s1 e=>?_);cases c with
 | false=>exact isTrue_or_nil e
 | true=>exact e
theorem Il(ha:PT X a tA)(hb:PW X (.BoolOp .And (b::rest) pos) tB'):PW X (.BoolOp .And (a::b::rest) pos) (ABq tA tB'):=by
 intro wh pins s Z H Q I h;refine isTrue_and (thn (ha s Z H _ I h) fun c s1 hZ=>?_);obtain⟨H1,I1,q1⟩:=hZ;cases c with
 | true=>exact hb (whole:=wh) pins s1 Z H1 Q I1 q1
 | false=>exact⟨H1,I1,q1⟩
theorem Hh(ha:PT X a tA)(hb:PW X (.BoolOp .Or (b::rest) pos) tB'):PW X (.BoolOp .Or (a::b::rest) pos) (tOr tA tB'):=by
 intro wh pins s Z H Q I h;refine isTrue_or (thn (ha s Z H _ I h) fun c s1 hZ=>?_);obtain⟨H1,I1,q1⟩:=hZ;cases c with
 | true=>exact⟨H1,I1,q1⟩
 | false=>exact hb (whole:=wh) pins s1 Z H1 Q I1 q1
theorem G3(ha:PT X a tA):PT X (.UnaryOp .Not a pos) (ABk tA):=by
 intro pins s Z H Q I h;exact isTrue_not (ha s Z H (fun c H1=>Q (!c) H1) I h)
def xH(ta tb:TE):TE:=fun Z H Q=>ta Z H fun x H1=>∃c,x=.bl c/\if c=true then tb Z H1 Q else Q (.bl false) H1
def ABj(ta tb:TE):TE:=fun Z H Q=>ta Z H fun x H1=>∃c,x=.bl c/\if c=true then Q (.bl true) H1 else tb Z H1 Q
def w5(ta:TE):TE:=fun Z H Q=>ta Z H fun x H1=>∃c,x=.bl c/\Q (.bl (!c)) H1
theorem SN{op}{t:TE}(h:PE X a t):PE X (.BoolOp op [a] pos) t:=fun pins s Z H Q I hw=>BoolOp_one (h s Z H Q I hw)
theorem Sg(ha:PE X a ta)(hb:PE X (.BoolOp .And (b::rest) pos) tb):PE X (.BoolOp .And (a::b::rest) pos) (xH ta tb):=by
 intro pins s Z H Q I h;refine BoolOp_and (thn (ha s Z H _ I h) fun v s1 hZ=>?_);obtain⟨x,H1,I1,r1,q1⟩:=hZ;obtain⟨c,rfl,q1⟩:=q1;cases r1;refine jc7 ?_;cases c with
 | true=>exact hb s1 Z H1 Q I1 q1
 | false=>exact⟨.bl false,H1,I1,rfl,q1⟩
theorem ACk(ha:PE X a ta)(hb:PE X (.BoolOp .Or (b::rest) pos) tb):PE X (.BoolOp .Or (a::b::rest) pos) (ABj ta tb):=by
 intro pins s Z H Q I h;refine BoolOp_or (thn (ha s Z H _ I h) fun v s1 hZ=>?_);obtain⟨x,H1,I1,r1,q1⟩:=hZ;obtain⟨c,rfl,q1⟩:=q1;cases r1;refine jc7 ?_;cases c with
 | false=>exact hb s1 Z H1 Q I1 q1
 | true=>exact⟨.bl true,H1,I1,rfl,q1⟩
theorem o8(ha:PE X a ta):PE X (.UnaryOp .Not a pos) (w5 ta):=by
 intro pins s Z H Q I h;refine UnaryOp_ (thn (ha s Z H _ I h) fun v s1 hZ=>?_);obtain⟨x,H1,I1,r1,q1⟩:=hZ;obtain⟨c,rfl,q1⟩:=q1;cases r1;exact not_of (jc7 ⟨.bl (!c),H1,I1,rfl,q1⟩)
def tIf(t:TT)(ta tb:TE):TE:=fun Z H Q=>t Z H fun c H1=>if c=true then ta Z H1 Q else tb Z H1 Q
theorem Dv{c:Expr}(hc:PT X c tA)(ha:PE X a ta)(hb:PE X b tb):PE X (.IfExp c a b pos) (tIf tA ta tb):=by
 intro pins s Z H Q I h;refine wpAny_IfExp (thn (hc s Z H _ I h) fun d s1 hZ=>?_);obtain⟨H1,I1,q1⟩:=hZ;cases d with
 | true=>exact ha s1 Z H1 Q I1 q1
 | false=>exact hb s1 Z H1 Q I1 q1
end
def SqL(K:Fr)(H:Hp)(a:Addr)(xs:List V):Prop:=
 Rd H a (.lst xs)\/
  ∃(o:Obj) (its:Array Value) (n:Nat),K.lookup a=some o/\o.cls=.type "list"/\o.dict=none/\o.data=.seq its n/\its.size<=sizeLine/\Vals xs its.toList
def SqT(K:Fr)(H:Hp)(a:Addr)(xs:List V):Prop:=
 Rd H a (.tup xs)\/
  ∃(o:Obj) (its:Array Value) (n:Nat),K.lookup a=some o/\o.cls=.type "tuple"/\o.data=.seq its n/\its.size<=sizeLine/\Vals xs its.toList
noncomputable def AEO:Value->Option V
 | .none=>some .non
 | .bool b=>some (.bl b)
 | .int i _=>some (.int i)
 | .str x _=>some (.str x)
 | .bytes b _=>some (.byt b)
 | .float b _=>some (.flt b)
 | .ref a=>some (.ref a)
 | .type n=>some (.ty n)
 | _=>none
theorem RelV.abs{x:V}(r:RelV x u):AEO u=some x:=by
 cases x with
 | non=>cases r;rfl
 | bl _=>cases r;rfl
 | int _=>obtain⟨t,rfl⟩:=r;rfl
 | str _=>obtain⟨t,rfl⟩:=r;rfl
 | byt _=>obtain⟨t,rfl⟩:=r;rfl
 | flt _=>obtain⟨t,rfl⟩:=r;rfl
 | ref _=>cases r;rfl
 | ty _=>cases r;rfl
theorem RelV.inj{x y:V}(r:RelV x u)(q:RelV y u):x=y:=ub (r.abs.symm.trans q.abs)
theorem Vals.inj:∀{xs ys:List V} {us:List Value},Vals xs us->Vals ys us->xs=ys
 | _,_,_,.nil,.nil=>rfl
 | _,_,_,.cons r t,.cons r' t'=>by rw[r.inj r',Vals.inj t t']
variable{K:Fr}
section
variable{X:Cx}{pins:List (Addr×Obj)}{Z:St}{H:Hp}{s:Shared}{a:Addr}{xs ys:List V}
theorem SqL.of(h:H a=some (.lst xs)):SqL K H a xs:=.inl (.inl h)
theorem SqT.of(h:H a=some (.tup xs)):SqT K H a xs:=.inl (.inl h)
theorem Inv.list(I:Inv X pins Z H s)(h:SqL X.K H a xs):∃its:List Value,Vals xs its/\PlainL s.heap a its.toArray/\xs.length<=sizeLine:=by
 rcases h with h | ⟨o,its,n,hk,hc,hd,hs,hz,r⟩
 ·obtain⟨z,its,n,r,e⟩:=h.ok I.hok;exact⟨its,r,⟨_,n,e,rfl,rfl,rfl⟩,z⟩
 ·refine⟨its.toList,r,⟨o,n,I.kIn a o hk,hc,hd,by simpa using hs⟩,?_⟩;have e:=r.length;simp only[Qb] at e;lia
theorem Inv.tuple(I:Inv X pins Z H s)(h:SqT X.K H a xs):∃its:List Value,Vals xs its/\IsTup s.heap a its.toArray/\xs.length<=sizeLine:=by
 rcases h with h | ⟨o,its,n,hk,hc,hs,hz,r⟩
 ·obtain⟨z,its,r,p⟩:=h.ok I.hok;exact⟨its,r,p,z⟩
 ·refine⟨its.toList,r,⟨o,I.kIn a o hk,hc,n,by simpa using hs⟩,?_⟩;have e:=r.length;simp only[Qb] at e;lia
theorem Inv.list_inj(I:Inv X pins Z H s)(h:SqL X.K H a xs)(h':SqL X.K H a ys):xs=ys:=by
 obtain⟨its,r,⟨o,n,e,_,_,d⟩,_⟩:=I.list h;obtain⟨its',r',⟨o',n',e',_,_,d'⟩,_⟩:=I.list h';rw[e] at e';cases e';rw[d] at d';injection d' with d1 _;have:its=its':=by simpa using yk Array.toList d1
 subst this;exact r.inj r'
theorem Inv.tuple_inj(I:Inv X pins Z H s)(h:SqT X.K H a xs)(h':SqT X.K H a ys):xs=ys:=by
 obtain⟨its,r,⟨o,e,_,n,d⟩,_⟩:=I.tuple h;obtain⟨its',r',⟨o',e',_,n',d'⟩,_⟩:=I.tuple h';rw[e] at e';cases e';rw[d] at d';injection d' with d1 _;have:its=its':=by simpa using yk Array.toList d1
 subst this;exact r.inj r'
end
noncomputable abbrev Cx.wish(X:Cx)(E:Value->Shared->Prop):Cx:={ X with xe:=E }
noncomputable abbrev Cx.nox(X:Cx):Cx:=X.wish fun _ _=>False
theorem Cx.Ok.wish{X:Cx}(ok:X.Ok)(E:Value->Shared->Prop):(X.wish E).Ok:=
 ⟨ok.mod,ok.kind,ok.glob,ok.blt,ok.above,ok.inj,ok.has,ok.cab,ok.hd,ok.frames,ok.stk,ok.exf,ok.bs,ok.bsz,ok.noex,ok.exfs,ok.funs,ok.frf⟩
theorem Cx.Ok.unwish{X:Cx}{E:Value->Shared->Prop}(ok:(X.wish E).Ok):X.Ok:=
 ⟨ok.mod,ok.kind,ok.glob,ok.blt,ok.above,ok.inj,ok.has,ok.cab,ok.hd,ok.frames,ok.stk,ok.exf,ok.bs,ok.bsz,ok.noex,ok.exfs,ok.funs,ok.frf⟩
section
variable{X:Cx}{pins:List (Addr×Obj)}{Z:St}{H:Hp}{s:Shared}{E:Value->Shared->Prop}
theorem Inv.wish(I:Inv X pins Z H s)(E:Value->Shared->Prop):Inv (X.wish E) pins Z H s:=⟨I.ok.wish E,I.os,I.bare,I.base,I.loc,I.cell,I.free,I.freeC,I.pin,I.hok,I.len⟩
theorem Inv.unwish(I:Inv (X.wish E) pins Z H s):Inv X pins Z H s:=⟨I.ok.unwish,I.os,I.bare,I.base,I.loc,I.cell,I.free,I.freeC,I.pin,I.hok,I.len⟩
theorem SP.unwish{D:Ends}{f:Flow}{s':Shared}(h:SP (X.wish E) pins D f s'):SP X pins D f s':=by
 cases f with
 | next=>obtain⟨Z',H',I,q⟩:=h;exact⟨Z',H',I.unwish,q⟩
 | brk=>obtain⟨Z',H',I,q⟩:=h;exact⟨Z',H',I.unwish,q⟩
 | cont=>obtain⟨Z',H',I,q⟩:=h;exact⟨Z',H',I.unwish,q⟩
 | ret u=>obtain⟨v,Z',H',I,r,q⟩:=h;exact⟨v,Z',H',I.unwish,r,q⟩
theorem PSs.nox{st:List Stmt}{t:TS}(h:PSs X.nox st t):PSs X st t:=fun pins s Z H D I hw=>
 ja9 (h s Z H D (I.wish _) hw) (fun _ _ q=>q.unwish) fun _ _ z=>False.elim z
end
section
variable{X:Cx}{st:Stmt}{rest:List Stmt}{t u:TS}{e:Expr}{te:TE}{pos:Pos}
def xF:TS:=fun D Z H=>D.nx Z H
def tO(t u:TS):TS:=fun D Z H=>t { D with nx:=u D } Z H
theorem Ao:PSs X [] xF:=fun _ _ Z H _ I h=>wpAny_execs_nil ⟨Z,H,I,h⟩
theorem Ac(h1:PS X st t)(h2:PSs X rest u):PSs X (st::rest) (tO t u):=by
 intro pins s Z H D I h;refine wpAny_execs_cons (thn (h1 s Z H { D with nx:=u D } I h) fun f s1 q=>?_);cases f with
 | next=>
  obtain⟨Z',H',I',q⟩:=q;exact h2 s1 Z' H' D I' q
 | ret v=>exact q
 | brk=>exact q
 | cont=>exact q
theorem Ad(h1:PS X st t):PSs X [st] t:=by
 intro pins s Z H D I h;refine wpAny_execs_cons (thn (h1 s Z H D I h) fun f s1 q=>?_);cases f with
 | next=>exact wpAny_execs_nil q
 | ret v=>exact q
 | brk=>exact q
 | cont=>exact q
theorem Inv.quiet{s:Shared}(I:Inv X pins Z H s):interactive X.env=false:=by simp[interactive,I.ok.kind]
def mO(te:TE):TS:=fun D Z H=>te Z H fun _ H1=>D.nx Z H1
theorem Bh(he:PE X e te)(hs:‹swapsWith e none pos.line X.env=pure false›):PS X (.Expr e pos) (mO te):=by
 intro pins s Z H D I h;exact wpAny_Expr_any (thn (he s Z H _ I h) fun v s1 ⟨x,H1,I1,r1,q1⟩=>⟨Z,H1,I1,q1⟩) I.quiet hs
def yV(te:TE):TS:=fun D Z H=>te Z H D.rt
theorem Al(he:PE X e te):PS X (.Return (some e) pos) (yV te):=by
 intro pins s Z H D I h;exact wpAny_Return_some (thn (he s Z H _ I h) fun v s1 ⟨x,H1,I1,r1,q1⟩=>⟨x,Z,H1,I1,r1,q1⟩)
def ABm(c:TT)(t u:TS):TS:=fun D Z H=>c Z H fun b H1=>if b=true then t D Z H1 else u D Z H1
theorem Ax{c:Expr}{a b:List Stmt}{tc:TT}(hc:PT X c tc)(ha:PSs X a t)(hb:PSs X b u):PS X (.If c a b pos) (ABm tc t u):=by
 intro pins s Z H D I h;refine wpAny_If (thn (hc s Z H _ I h) fun d s1 hZ=>?_);obtain⟨H1,I1,q1⟩:=hZ;cases d with
 | true=>exact ha s1 Z H1 D I1 q1
 | false=>exact hb s1 Z H1 D I1 q1
def yW:TS:=fun _ _ _=>False
theorem BZ:PS X st yW:=fun _ _ _ _ _ _ h=>h.elim
end
noncomputable abbrev TG:=V->St->Hp->(St->Hp->Prop)->Prop
noncomputable abbrev TGs:=List V->St->Hp->(St->Hp->Prop)->Prop
def PG(X:Cx)(target:Expr)(t:TG):Prop:=
 ∀ ⦃pins:List (Addr×Obj)⦄ (s:Shared) (Z:St) (H:Hp) (v:V) (u:Value) (Q:St->Hp->Prop),Inv X pins Z H s->RelV v u->t v Z H Q->
  wpAny (model X.prog X.w) X.A (assign target X.env u) (fun _ s'=>∃Z' H',Inv X pins Z' H' s'/\Q Z' H') X.xe s
def PGs(X:Cx)(ts:List Expr)(t:TGs):Prop:=
 ∀ ⦃pins:List (Addr×Obj)⦄ (s:Shared) (Z:St) (H:Hp) (vs:List V) (us:List Value) (Q:St->Hp->Prop),Inv X pins Z H s->Vals vs us->t vs Z H Q->
  wpAny (model X.prog X.w) X.A (assignInOrder ((assignEach ts X.env).map (·.2)) us) (fun _ s'=>∃Z' H',Inv X pins Z' H' s'/\Q Z' H') X.xe s
noncomputable abbrev ABX:=V->V->V->Hp->(Hp->Prop)->Prop
def ADW(X:Cx)(t:ABX):Prop:=
 ∀(pins:List (Addr×Obj)) (s:Shared) (Z:St) (H:Hp) (o i v:V) (ov iv u:Value) (Q:Hp->Prop),Inv X pins Z H s->RelV o ov->RelV i iv->RelV v u->t o i v H Q->
  wpAny (model X.prog X.w) X.A (setItem ov iv u) (fun _ s'=>∃H',Inv X pins Z H' s'/\Q H') X.xe s
section
variable{X:Cx}{pos:Pos}
def Hk(i:Nat):TG:=fun v Z H Q=>Q (Z.set i (some v)) H
theorem CQ{i:Nat}(hN:X.N.Nodup)(hi:X.N[i]?=some x)(hx:Loc X.env.scope x)(hf:X.fn x=true\/X.env.scope.names.lookup x=some .local:=by first | exact .inl rfl | exact .inr rfl | assumption):PG X (.Name x pos) (Hk i):=by
 intro pins s Z H v u Q I r h;exact wpAny_assign_Name (Li I hN hi hx r (fun s' I'=>⟨_,H,I',h⟩) hf)
def vW:TGs:=fun vs Z H Q=>vs=[]/\Q Z H
def V4(t:TG)(u:TGs):TGs:=fun vs Z H Q=>∃v r,vs=v::r/\t v Z H fun Z' H'=>u r Z' H' Q
theorem HF:PGs X [] vW:=by
 intro pins s Z H vs us Q I r h;obtain⟨e,h⟩:=h;subst e;cases r;exact assignInOrder_nil ⟨Z,H,I,h⟩
theorem Cp{e:Expr}{es:List Expr}{t:TG}{u:TGs}(h1:PG X e t)(h2:PGs X es u)
 (hs:‹(assignEach (e::es) X.env).map (·.2)=assign e X.env::(assignEach es X.env).map (·.2)›):PGs X (e::es) (V4 t u):=by
 intro pins s Z H vs us Q I r h;obtain⟨v,vr,e1,h⟩:=h;subst e1;cases r with
 | cons r rr=>
  rw[hs];refine assignInOrder_cons (thn (h1 s Z H _ _ _ I r h) fun _ s1 hZ=>?_);obtain⟨σ1,H1,I1,q1⟩:=hZ;exact h2 s1 σ1 H1 _ _ Q I1 rr q1
def qU(K:Fr)(n:Nat)(t:TGs):TG:=fun v Z H Q=>∃a xs,v=.ref a/\SqT K H a xs/\xs.length=n/\t xs Z H Q
theorem JR{es:List Expr}{k:Nat}{t:TGs}{n:Nat}(hc:X.calm=true)(h:PGs X es t)
 (hn:‹(assignEach es X.env).length=n›)(hst:‹(assignEach es X.env).findIdx? (·.1)=none›):PG X (.Tuple es k pos) (qU X.K n t):=by
 intro pins s Z H v u Q I r hw;obtain⟨a,xs,e1,hq,hl,hw⟩:=hw;subst e1;cases r;obtain⟨its,rv,ht,hz⟩:=I.tuple hq;refine assign_Tuple_tuple (I.ok.hd hc) ht (by simp[hn,<-hl,rv.length]) hst fun h' hx=>?_;have I1:Inv X pins Z H { s with heap:=h' }:=I.kept (t':=s.toks) fun b o e=>hx b o (ku (xi e)) e;exact h _ Z H xs _ Q I1 (by simpa using rv) hw
def ADH(to ti:TE)(t:ABX):TG:=fun v Z H Q=>to Z H fun o H1=>ti Z H1 fun i H2=>t o i v H2 fun H3=>Q Z H3
theorem o6{o i:Expr}{to ti:TE}{t:ABX}(ho:PE X o to)(hi:PE X i ti)(hs:ADW X t)
 (ha:∀v,assign (.Subscript o i pos) X.env v=(do
  let ov <-holding [v] (eval o X.env)
  let iv <-holding [v,ov] (eval i X.env)
  standAt pos
  holding [v,ov,iv] (setItem ov iv v)
  release [v,ov,iv] []):=by intro _;rfl):PG X (.Subscript o i pos) (ADH to ti t):=by
 intro pins s Z H v u Q I r h;rw[ha];refine js (wpAny_holding (thn (ho s Z H _ I h) fun ov s1 hZ=>?_));obtain⟨x,H1,I1,r1,q1⟩:=hZ;refine js (wpAny_holding (thn (hi s1 Z H1 _ I1 q1) fun iv s2 hZ=>?_));obtain⟨y,H2,I2,r2,q2⟩:=hZ;refine js (jo8 (js (wpAny_holding (thn (hs pins s2 Z H2 x y v ov iv u _ I2 r1 r2 r q2) fun _ s3 hZ=>?_))));obtain⟨H3,I3,q3⟩:=hZ;exact wpAny_release ⟨Z,H3,I3,q3⟩
def bI(te:TE)(g:TG):TS:=fun D Z H=>te Z H fun x H1=>g x Z H1 D.nx
theorem Im{tg e:Expr}{te:TE}{g:TG}(he:PE X e te)(hg:PG X tg g)(hs:‹swapsWithSole [tg] e pos.line X.env=pure false›)(hw:‹swappedStores [tg] e X.env=pure none›)
 (h1:‹(assignEach [tg] X.env).map (·.2)=[assign tg X.env]›):PS X (.Assign [tg] e pos) (bI te g):=by
 intro pins s Z H D I h;refine wpAny_Assign_stores (thn (he s Z H _ I h) fun v s1 hZ=>?_) hs hw;obtain⟨x,H1,I1,r1,q1⟩:=hZ;rw[h1];exact thn (hg s1 Z H1 x v _ I1 r1 q1) fun _ s2 q=>q
theorem Aj(i:Nat){x:Str}{e:Expr}{te:TE}{pos':Pos}(he:PE X e te)(hN:X.N.Nodup:=by assumption)(hi:X.N[i]?=some x:=by exact rfl)(hx:Loc X.env.scope x:=by walk_at"o")(hs:‹swapsWith e (some (.Name x pos')) pos.line X.env=pure false›)(hf:X.fn x=true\/X.env.scope.names.lookup x=some .local:=by first | exact .inl rfl | exact .inr rfl | assumption):
 PS X (.Assign [.Name x pos'] e pos) (bI te (Hk i)):=by
 intro pins s Z H D I h;refine wpAny_Assign_Name (thn (he s Z H _ I h) fun v s1 hZ=>?_) hs;obtain⟨y,H1,I1,r1,q1⟩:=hZ;exact Li I1 hN hi hx r1 (fun s2 I2=>⟨_,H1,I2,q1⟩) hf
def ABi(i j:Nat)(ta:TA):TS:=fun D Z H=>ta Z H fun vs H1=>∃v w,vs=[v,w]/\D.nx ((Z.set i (some v)).set j (some w)) H1
theorem zy{i j:Nat}{y:Str}{a b:Expr}{ta:TA}{px py pt:Pos}{kt k2 pt2}(hc:X.calm=true)(hN:X.N.Nodup)(hi:X.N[i]?=some x)(hj:X.N[j]?=some y)(hij:i≠j)
 (hx:X.env.scope.names.lookup x=some .local)(hy:X.env.scope.names.lookup y=some .local)(ha:PA X [a,b] ta)
 (hw:swappedStores [.Tuple [.Name x px,.Name y py] kt pt] (.Tuple [a,b] k2 pt2) X.env=pure (some [x,y]))
 (hs:‹swapsWithSole [.Tuple [.Name x px,.Name y py] kt pt] (.Tuple [a,b] k2 pt2) pos.line X.env=pure false›):
 PS X (.Assign [.Tuple [.Name x px,.Name y py] kt pt] (.Tuple [a,b] k2 pt2) pos) (ABi i j ta):=by
 intro pins s Z H D I h;rw[exec_Assign_arm];refine js (jo8 ?_);rw[hs];refine js (ya ?_);rw[xp nofun];refine js (Tuple_ (thn (ha pins s Z H _ I h) fun us s1 hZ=>?_));obtain⟨vs,H1,I1,r1,q1⟩:=hZ;obtain⟨v,w,e1,q1⟩:=q1;subst e1;obtain⟨u1,u2,rfl,rv,rw'⟩:∃u1 u2,us=[u1,u2]/\RelV v u1/\RelV w u2:=by
  cases r1 with
  | cons p q=>
   cases q with
   | cons p' q'=>
    cases q';exact⟨_,_,rfl,p,p'⟩
 refine jn3 ?_ (by show 2<=sizeLine;decide);have I2:Inv X pins Z H1 { s1 with heap:=s1.heap.push { cls:=.type "tuple",data:=.seq [u1,u2].toArray } }:=I1.kept (t':=s1.toks) fun b o e=>qf _ e;rw[hw];refine js (ya ?_);show wpAny (model X.prog X.w) X.A (do rule "assign.swapped-stores";let items <-unpackItems (.ref s1.heap.objs.size) 2 none;assignInOrder [fun v=>bindName X.env y v,fun v=>bindName X.env x v] items.reverse;pure Flow.next) _ _ _
 refine js (wpAny_rule (js (unpackItems_tuple (items:= #[u1,u2]) (I.ok.hd hc) (IsTup.new s1.heap _) fun h' hx'=>?_)));have I3:=I2.kept (h':=h') (t':=s1.toks) fun b o e=>hx' b o (ku (xi e)) e;show wpAny _ _ (assignInOrder [fun v=>bindName X.env y v,fun v=>bindName X.env x v] [u2,u1] >>= fun _=>pure Flow.next) _ _ _
 refine js (assignInOrder_cons (wpAny_bindName (Li I3 hN hj (.inl hy) rw' (fun s2 I4=>?_) (.inr hy))));refine assignInOrder_cons (wpAny_bindName (Li I4 hN hi (.inl hx) rv (fun s3 I5=>assignInOrder_nil (ya ?_)) (.inr hx)));rw[List.set_comm _ _ (Ne.symm hij)] at I5;exact⟨_,H1,I5,q1⟩
end
section
variable{X:Cx}{pos:Pos}
def yU(c:TT)(tb:TS):TS:=fun D Z H=>∃W:Nat->St->Hp->Prop,(∃m,W m Z H)/\∀m Z H,W m Z H->
 c Z H fun b H1=>if b=true then ∃N:St->Hp->Prop,(∀Z' H',N Z' H'->∃m',m'<m/\W m' Z' H')/\tb { D with nx:=N,ct:=N,bk:=D.nx } Z H1 else D.nx Z H1
theorem Ht{c:Expr}{body:List Stmt}{tc:TT}{tb:TS}(hp:PassesOwn (model X.prog X.w) X.A X.env X.xe)(hc:PT X c tc)(hb:PSs X body tb):PS X (.While c body [] pos) (yU tc tb):=by
 intro pins s Z H D I h;obtain⟨W,⟨m0,w0⟩,turn⟩:=h;refine wpAny_While (codeAny_whileLoop (fun n s'=>∃Z' H',Inv X pins Z' H' s'/\W n Z' H') ?_ m0 ⟨Z,H,I,w0⟩);rintro n s1 ⟨σ1,H1,I1,w1⟩;refine jh6 hp (thn (hc s1 σ1 H1 _ I1 (turn n σ1 H1 w1)) fun b s2 hZ=>?_);obtain⟨H2,I2,q2⟩:=hZ;cases b with
 | true=>
  obtain⟨N,hN,q2⟩:=q2;rw[xy rfl];refine jh6 hp (thn (hb s2 σ1 H2 _ I2 q2) fun f s3 q3=>?_);cases f with
  | next=>
   obtain⟨σ3,H3,I3,n3⟩:=q3;obtain⟨m',hm,w3⟩:=hN σ3 H3 n3;exact⟨m',hm,σ3,H3,I3,w3⟩
  | cont=>
   obtain⟨σ3,H3,I3,n3⟩:=q3;obtain⟨m',hm,w3⟩:=hN σ3 H3 n3;exact⟨m',hm,σ3,H3,I3,w3⟩
  | brk=>exact q3
  | ret v=>exact q3
 | false=>
  rw[xp zi];exact wpAny_execs_nil ⟨σ1,H2,I2,q2⟩
end
structure It where
 go:Nat->Hp->Prop
 yld:Nat->Hp->V->Hp->Prop
 stop:Nat->Hp->Prop
def Kh(X:Cx)(pins:List (Addr×Obj))(H:Hp)(b:Addr):Prop:=
 H b=none/\b≠X.env.locals/\b∉X.fs/\(b∈X.ex\/X.s₀.heap.objs.size<=b)/\(∀x c,X.env.cells.lookup x=some c->c≠b)/\∀p∈X.pn++pins,p.1≠b
theorem Inv.fpOk{X:Cx}{H':Hp}{s:Shared}{b:Addr}(I:Inv X pins Z H s)(hb:s.heap.objs.size<=b)(hn:H' b=none):Kh X pins H' b:=by
 refine⟨hn,Nat.ne_of_gt (xk I.lt hb),I.nofs hb,.inr (zv I.sz hb),fun x c e z=>?_,fun p hp z=>?_⟩
 ·obtain⟨v,q⟩:=I.cell x c e;exact absurd (xk q.lt (by rw[z];exact hb)) (jg4 _)
 ·exact absurd (xk (xi (I.pin p hp).1) (by rw[z];exact hb)) (jg4 _)
structure Turn(P:Program)(w:World)(K:Fr)(tg:Expr)(J:It)(fp:List Addr)(it:Addr)(tn:Nat->Heap->Prop):Prop where
 mem:it∈fp
 obj:∀i h,tn i h->∀b∈fp,∃o,h.get? b=some o/\∀v,o.data≠.cell v
 keep:∀i h h',tn i h->(∀b∈fp,∀o,h.get? b=some o->h'.get? b=some o)->tn i h'
 item:∀(X:Cx),X.prog=P->X.w=w->X.K=K->X.calm=true->∀(i:Nat) (pins:List (Addr×Obj)) (s:Shared) (Z:St) (H:Hp) (E:Value->Shared->Prop),Inv X pins Z H s->(∀b∈fp,Kh X pins H b)->tn i s.heap->J.go i H->
  wpAny (model P w) X.A (pyNext (.ref it)) (fun r s1=>∃u,r=some u/\
   wpAny (model P w) X.A (letOwnedTupleGo tg (.ref it) u) (fun _ s2=>∃x H',Inv X pins Z H' s2/\RelV x u/\J.yld i H x H'/\tn (i+1) s2.heap/\∀b∈fp,H' b=none) E s1) E s
 done:∀(X:Cx),X.prog=P->X.w=w->X.K=K->X.calm=true->∀(i:Nat) (pins:List (Addr×Obj)) (s:Shared) (Z:St) (H:Hp) (E:Value->Shared->Prop),Inv X pins Z H s->(∀b∈fp,Kh X pins H b)->tn i s.heap->J.stop i H->
  wpAny (model P w) X.A (pyNext (.ref it)) (fun r s1=>r=none/\Inv X pins Z H s1) E s
 self:∀(A:Around) (i:Nat) (s:Shared) (Q:Value->Shared->Prop) (E:Value->Shared->Prop),tn i s.heap->Q (.ref it) s->wpAny (model P w) A (pyIter (.ref it)) Q E s
noncomputable abbrev TI:=St->Hp->(It->Hp->Prop)->Prop
def PIE(X:Cx)(pins:List (Addr×Obj))(Z:St)(tg:Expr)(R:It->Hp->Prop)(itv:Value)(s2:Shared):Prop:=
 ∃(it:Addr) (fp:List Addr) (tn:Nat->Heap->Prop) (J:It) (H':Hp),itv=.ref it/\Inv X pins Z H' s2/\Turn X.prog X.w X.K tg J fp it tn/\tn 0 s2.heap/\(∀b∈fp,Kh X pins H' b)/\R J H'
def PI(X:Cx)(tg iter:Expr)(wi:TI):Prop:=
 ∀ ⦃pins:List (Addr×Obj)⦄ (s:Shared) (Z:St) (H:Hp) (R:It->Hp->Prop),Inv X pins Z H s->wi Z H R->
  wpAny (model X.prog X.w) X.A (eval iter X.env) (fun v s1=>wpAny (model X.prog X.w) X.A (pyIter v) (PIE X pins Z tg R) X.xe s1) X.xe s
theorem Zr{M:Model}{E:Value->Shared->Prop}{s:Shared}{tg:Expr}{it:Addr}{o:Obj}{n:String}{vs:Array Value}{Q:Unit->Shared->Prop}(ho:s.heap.get? it=some o)(hc:o.cls=.type n)(hd:o.data=.fields vs)
 (hn:["enumerate","zip","dict_itemiterator","dict_reverseitemiterator","odict_iterator","itertools.zip_longest","itertools.pairwise"].contains n=false)(hQ:Q () s):wpAny M A (letOwnedTupleGo tg (.ref it) u) Q E s:=by
 unfold letOwnedTupleGo;cases tg<;>first
  | exact ya hQ
  | (cases u<;>first
   | exact ya hQ
   | (refine js (wpAny_load ho ?_)
      rw[hc,hd];show wpAny M A (if (["enumerate","zip","dict_itemiterator","dict_reverseitemiterator","odict_iterator","itertools.zip_longest","itertools.pairwise"].contains n&&vs[0]?==some (rawInt _))=true then _ else _) Q E s;rw[xp (by intro h;rw[hn,Bool.false_and] at h;cases h)];exact ya hQ))
noncomputable def Itl(K:Fr)(a:Addr):It:=
 ⟨fun i H=>∃xs x,SqL K H a xs/\xs[i]?=some x,fun i H x H'=>H'=H/\∀xs,SqL K H a xs->xs[i]?=some x,fun i H=>∃xs,SqL K H a xs/\xs.length<=i⟩
noncomputable def Itt(K:Fr)(a:Addr):It:=
 ⟨fun i H=>∃xs x,SqT K H a xs/\xs[i]?=some x,fun i H x H'=>H'=H/\∀xs,SqT K H a xs->xs[i]?=some x,fun i H=>∃xs,SqT K H a xs/\xs.length<=i⟩
noncomputable def Itr(lo:Int)(n:Nat):It:=⟨fun i _=>i<n,fun i H x H'=>H'=H/\x=.int (lo+i),fun i _=>n<=i⟩
theorem iW{P:Program}{w:World}{tg:Expr}(a it:Addr):Turn P w K tg (Itl K a) [it] it (fun i h=>h.IsListIter it a i) where
 mem:=by simp
 obj:=fun i h st b hb=>by
  have e:b=it:=by simpa using hb
  subst e;obtain⟨o,e,c,d⟩:=st;exact⟨o,e,fun v z=>by rw[d] at z;cases z⟩
 keep:=fun i h h' st k=>st.at fun o e=>k it (by simp) o e
 item:=by
  intro X hP hw hK hc i pins s Z H E I hf st hg;subst hP hw hK;obtain⟨xs,x,hq,hx⟩:=hg;obtain⟨its,rv,p,hz⟩:=I.list hq;obtain⟨u,hu,ru⟩:=rv.get hx;obtain⟨f0,f1,f2,f3,f4,f5⟩:=hf it (by simp);refine wpAny_pyNext_list_item st p.isList (x:=u) (by simpa using hu) fun h' st' sb=>?_;have I1:Inv X pins Z H { s with heap:=h' }:=I.turned (t':=s.toks) (fun b o hb e=>(sb.2 b hb).trans e) f0 f1 f3 f4 f5;obtain⟨o,e,c,d⟩:=id st';exact⟨u,rfl,Zr (s:={ s with heap:=h' }) e c d nofun ⟨x,H,I1,ru,⟨rfl,fun ys hy=>by rw[I.list_inj hy hq];exact hx⟩,st',fun b hb=>(hf b hb).1⟩⟩
 done:=by
  intro X hP hw hK hc i pins s Z H E I hf st hg;subst hP hw hK;obtain⟨xs,hq,hx⟩:=hg;obtain⟨its,rv,p,hz⟩:=I.list hq;obtain⟨f0,f1,f2,f3,f4,f5⟩:=hf it (by simp);have hl:=rv.length;exact wpAny_pyNext_list_end (I.ok.hd hc) st p.isList (by simp;lia) fun h' eb=>⟨rfl,I.turned (t':=s.toks) (fun b o hb e=>eb b o hb e) f0 f1 f3 f4 f5⟩
 self:=fun _ _ _ _ _ st h=>wpAny_pyIter_listiter st h
theorem az{P:Program}{w:World}{tg:Expr}(a it:Addr):Turn P w K tg (Itt K a) [it] it (fun i h=>h.IsTupleIter it a i) where
 mem:=by simp
 obj:=fun i h st b hb=>by
  have e:b=it:=by simpa using hb
  subst e;obtain⟨o,e,c,d⟩:=st;exact⟨o,e,fun v z=>by rw[d] at z;cases z⟩
 keep:=fun i h h' st k=>st.at fun o e=>k it (by simp) o e
 item:=by
  intro X hP hw hK hc i pins s Z H E I hf st hg;subst hP hw hK;obtain⟨xs,x,hq,hx⟩:=hg;obtain⟨its,rv,p,hz⟩:=I.tuple hq;obtain⟨u,hu,ru⟩:=rv.get hx;obtain⟨f0,f1,f2,f3,f4,f5⟩:=hf it (by simp);refine wpAny_pyNext_tuple_item st (show s.heap.IsTuple a its.toArray from p) (x:=u) (by simpa using hu) fun h' st' sb=>?_;have I1:Inv X pins Z H { s with heap:=h' }:=I.turned (t':=s.toks) (fun b o hb e=>(sb.2 b hb).trans e) f0 f1 f3 f4 f5;obtain⟨o,e,c,d⟩:=id st';exact⟨u,rfl,Zr (s:={ s with heap:=h' }) e c d nofun ⟨x,H,I1,ru,⟨rfl,fun ys hy=>by rw[I.tuple_inj hy hq];exact hx⟩,st',fun b hb=>(hf b hb).1⟩⟩
 done:=by
  intro X hP hw hK hc i pins s Z H E I hf st hg;subst hP hw hK;obtain⟨xs,hq,hx⟩:=hg;obtain⟨its,rv,p,hz⟩:=I.tuple hq;obtain⟨f0,f1,f2,f3,f4,f5⟩:=hf it (by simp);have hl:=rv.length;exact wpAny_pyNext_tuple_end (I.ok.hd hc) st (show s.heap.IsTuple a its.toArray from p) (by simp;lia) fun h' eb=>⟨rfl,I.turned (t':=s.toks) (fun b o hb e=>eb b o hb e) f0 f1 f3 f4 f5⟩
 self:=fun _ _ _ _ _ st h=>wpAny_pyIter_tupleiter st h
theorem bC{P:Program}{w:World}{tg:Expr}(it:Addr)(lo:Int)(n:Nat):Turn P w K tg (Itr lo n) [it] it (fun i h=>IsRangeIter h it (lo+(i:Nat)*1) ((n:Int)-(i:Nat)) 1) where
 mem:=by simp
 obj:=fun i h st b hb=>by
  have e:b=it:=by simpa using hb
  subst e;exact⟨_,st,fun v z=>by
   have z':Data.fields _=Data.cell v:=z;cases z'⟩
 keep:=fun i h h' st k=>k it (by simp) _ st
 item:=by
  intro X hP hw hK hc i pins s Z H E I hf st hg;subst hP hw hK;obtain⟨f0,f1,f2,f3,f4,f5⟩:=hf it (by simp);have W:=Walks.range (prog:=X.prog) (w:=X.w) (I.ok.hd hc) it lo 1 n;refine W.item i s _ _ hg st fun v h' tk hv st' kk=>?_;obtain⟨t,rfl⟩:=hv;have I1:Inv X pins Z H { s with heap:=h',toks:=tk }:=I.turned (fun b o hb e=>kk b o (by simpa using hb) e) f0 f1 f3 f4 f5;refine⟨_,rfl,Zr (s:={ s with heap:=h',toks:=tk }) (n:="range_iterator") st' rfl rfl nofun ⟨.int (lo+i),H,I1,⟨t,?_⟩,⟨rfl,rfl⟩,st',fun b hb=>(hf b hb).1⟩⟩;rw[jc9]
 done:=by
  intro X hP hw hK hc i pins s Z H E I hf st hg;subst hP hw hK;obtain⟨f0,f1,f2,f3,f4,f5⟩:=hf it (by simp);exact wpAny_pyNext_range_end (I.ok.hd hc) st (by have:n<=i:=hg;lia) fun h' eb=>⟨rfl,I.turned (t':=s.toks) (fun b o hb e=>eb b o hb e) f0 f1 f3 f4 f5⟩
 self:=fun _ _ _ _ _ st h=>wpAny_pyIter_rangeiter st h
section
variable{X:Cx}{tg:Expr}
def xu(K:Fr)(tl:TE):TI:=fun Z H R=>tl Z H fun x H1=>∃a,x=.ref a/\(∃xs,SqL K H1 a xs)/\R (Itl K a) H1
def vR(K:Fr)(tl:TE):TI:=fun Z H R=>tl Z H fun x H1=>∃a,x=.ref a/\(∃xs,SqT K H1 a xs)/\R (Itt K a) H1
theorem Gu{l:Expr}{tl:TE}(hl:PE X l tl):PI X tg l (xu X.K tl):=by
 intro pins s Z H R I h;refine thn (hl s Z H _ I h) fun v s1 hZ=>?_;obtain⟨x,H1,I1,r1,q1⟩:=hZ;obtain⟨a,e,⟨xs,hq⟩,q⟩:=q1;subst e;cases r1;obtain⟨its,rv,p,hz⟩:=I1.list hq;refine wpAny_pyIter_list p.isList ?_;refine⟨s1.heap.objs.size,[s1.heap.objs.size],_,_,H1,rfl,I1.kept (t':=s1.toks) fun b o e=>qf _ e,iW a _,⟨_,xb _ rfl,rfl,rfl⟩,fun b hb=>?_,q⟩;have e:b=s1.heap.objs.size:=by simpa using hb
 subst e;exact I1.fpOk (qq _) (I1.hok.fresh (qq _))
theorem SM{l:Expr}{tl:TE}(hl:PE X l tl):PI X tg l (vR X.K tl):=by
 intro pins s Z H R I h;refine thn (hl s Z H _ I h) fun v s1 hZ=>?_;obtain⟨x,H1,I1,r1,q1⟩:=hZ;obtain⟨a,e,⟨xs,hq⟩,q⟩:=q1;subst e;cases r1;obtain⟨its,rv,p,hz⟩:=I1.tuple hq;refine wpAny_pyIter_tuple (show s1.heap.IsTuple a its.toArray from p) ?_;refine⟨s1.heap.objs.size,[s1.heap.objs.size],_,_,H1,rfl,I1.kept (t':=s1.toks) fun b o e=>qf _ e,az a _,⟨_,xb _ rfl,rfl,rfl⟩,fun b hb=>?_,q⟩;have e:b=s1.heap.objs.size:=by simpa using hb
 subst e;exact I1.fpOk (qq _) (I1.hok.fresh (qq _))
theorem Za{s:Shared}{R:It->Hp->Prop}{E:Value->Shared->Prop}{lo hi:Int}{t u v:Tok}{tk:Nat}(I:Inv X pins Z H s)(h1: -(2^62)<=lo)(h2:lo<2^62)(h3: -(2^62)<=hi)(h4:hi<2^62)
 (q:R (Itr lo (hi-lo).toNat) H):wpAny (model X.prog X.w) X.A (pyIter (.ref s.heap.objs.size)) (PIE X pins Z tg R) E { s with heap:=s.heap.push { cls:=.type "range",data:=.fields #[.int lo t,.int hi u,.int 1 v] },toks:=tk }:=by
 refine wpAny_pyIter_range (IsRange.new ..) (small_one h1 h2 h3 h4) ?_;have I1:Inv X pins Z H { s with heap:=s.heap.push { cls:=.type "range",data:=.fields #[.int lo t,.int hi u,.int 1 v] },toks:=tk }:=I.kept fun b o e=>qf _ e;refine⟨(s.heap.push { cls:=.type "range",data:=.fields #[.int lo t,.int hi u,.int 1 v] }).objs.size,[(s.heap.push { cls:=.type "range",data:=.fields #[.int lo t,.int hi u,.int 1 v] }).objs.size],_,_,H,rfl,
  I1.kept (t':=tk) fun b o e=>qf _ e,bC _ lo (hi-lo).toNat,?_,fun b hb=>?_,q⟩
 ·have e1:lo+((0:Nat):Int)*1=lo:=by simp
  have e2:(((hi-lo).toNat:Nat):Int)-((0:Nat):Int)=Builtin.Range.rangeSize lo hi 1:=by rw[rangeSize_one];split<;>lia
  show IsRangeIter _ _ (lo+((0:Nat):Int)*1) ((((hi-lo).toNat:Nat):Int)-((0:Nat):Int)) 1;rw[e1,e2];exact xb _ rfl
 ·have e:b=(s.heap.push { cls:=.type "range",data:=.fields #[.int lo t,.int hi u,.int 1 v] }).objs.size:=by simpa using hb
  subst e;exact I1.fpOk (qq _) (I1.hok.fresh (qq _))
def xq(ta:TA):TI:=fun Z H R=>ta Z H fun vs H1=>∃j:Int,vs=[.int j]/\ -(2^62)<=j/\j<2^62/\R (Itr 0 j.toNat) H1
def xn(ta:TA):TI:=fun Z H R=>ta Z H fun vs H1=>∃i j:Int,vs=[.int i,.int j]/\(-(2^62)<=i/\i<2^62/\ -(2^62)<=j/\j<2^62)/\R (Itr i (j-i).toNat) H1
theorem Km{a:Expr}{ta:TA}{p:Pos}(hg:Gl X "range")(hm:X.mg "range"=none)(ha:PA X [a] ta)(hs:‹starEach [a] X.env=[(false,eval a X.env)]›):PI X tg (.Call (.Name "range" p) [a] [] pos) (xq ta):=by
 intro pins s Z H R I h;refine Call_ (JW I hg hm boot_range (Zs (thn (ha (pos:=pos) pins s Z H _ I h) fun us s1 hZ=>?_) hs rfl));obtain⟨vs,H1,I1,r1,q1⟩:=hZ;obtain⟨j,e,q1,q2,q⟩:=q1;subst e;cases r1 with
 | cons r rr=>
  cases rr;obtain⟨t,rfl⟩:=r;exact call_range_1 (Za I1 ⋯ ⋯ q1 q2 (by simpa using q))
theorem Nz{a b:Expr}{ta:TA}{p:Pos}(hg:Gl X "range")(hm:X.mg "range"=none)(ha:PA X [a,b] ta)(hs:‹starEach [a,b] X.env=[(false,eval a X.env),(false,eval b X.env)]›)(hs2:‹starEach [b] X.env=[(false,eval b X.env)]›):
 PI X tg (.Call (.Name "range" p) [a,b] [] pos) (xn ta):=by
 intro pins s Z H R I h;refine Call_ (JW I hg hm boot_range (Zs (thn (ha (pos:=pos) pins s Z H _ I h) fun us s1 ⟨vs,H1,I1,r1,q1⟩=>?_) (by rw[hs,hs2]) (by rw[hs2];rfl)));obtain⟨i,j,e,⟨q1,q2,q3,q4⟩,q⟩:=q1;subst e;cases r1 with
 | cons r rr=>
  cases rr with
  | cons r' rr=>
   cases rr;obtain⟨t,rfl⟩:=r;obtain⟨t',rfl⟩:=r';exact call_range_2 (Za I1 q1 q2 q3 q4 q)
def ABn(wi:TI)(g:TG)(tb:TS):TS:=fun D Z H=>wi Z H fun J H1=>∃W:Nat->Nat->St->Hp->Prop,(∃m,W 0 m Z H1)/\∀i m Z H,W i m Z H->
 (J.stop i H/\D.nx Z H)\/(J.go i H/\∃N:St->Hp->Prop,(∀Z' H',N Z' H'->∃m',m'<m/\W (i+1) m' Z' H')/\∀x H',J.yld i H x H'->g x Z H' fun σ2 H2=>tb { D with nx:=N,ct:=N,bk:=D.nx } σ2 H2)
noncomputable def R9(fp:List Addr)(h:Heap):List (Addr×Obj):=fp.filterMap fun b=>(h.get? b).map fun o=>(b,o)
theorem JT{fp:List Addr}{h:Heap}{b:Addr}{o:Obj}(hb:b∈fp)(e:h.get? b=some o):(b,o)∈R9 fp h:=List.mem_filterMap.mpr ⟨b,hb,by rw[e];rfl⟩
theorem jZ{fp:List Addr}{h:Heap}{p:Addr×Obj}(hp:p∈R9 fp h):p.1∈fp/\h.get? p.1=some p.2:=by
 obtain⟨b,hb,e⟩:=List.mem_filterMap.mp hp;cases q:h.get? b with
 | none=>rw[q] at e;cases e
 | some o=>
  rw[q] at e;have e':(b,o)=p:=ub e;subst e';exact⟨hb,q⟩
theorem Inv.pinned{s:Shared}{fp:List Addr}(I:Inv X pins Z H s)(hf:∀b∈fp,Kh X pins H b)(ho:∀b∈fp,∃o,s.heap.get? b=some o/\∀v,o.data≠.cell v):Inv X (pins++R9 fp s.heap) Z H s:=
 I.pins_of fun p hp=>(yi.mp hp).elim (fun z=>I.pin p (yv _ z)) fun z=>by
  obtain⟨hb,e⟩:=jZ z;obtain⟨f0,f1,f2,_⟩:=hf p.1 hb;obtain⟨o,e',d⟩:=ho p.1 hb;rw[e] at e';cases e';exact⟨e,f0,f1,f2,d⟩
theorem Inv.unpinned{pl:List (Addr×Obj)}{s:Shared}(I:Inv X (pins++pl) Z H s):Inv X pins Z H s:=I.pins_of fun p hp=>I.pin p (yv _ (jb1 _ hp))
theorem Hu{iter:Expr}{body:List Stmt}{wi:TI}{g:TG}{tb:TS}(hp:PassesOwn (model X.prog X.w) X.A X.env X.xe)(hc:X.calm=true)(hi:PI X tg iter wi)(hg:PG X tg g)(hb:PSs X body tb)
 (hs:∀x,foldedSetIterable iter X.env x=pure x:=by intro _;rfl):PS X (.For tg iter body [] pos) (ABn wi g tb):=by
 intro pins s Z H D I h;refine wpAny_For (thn (hi s Z H _ I h) fun v s1 h1=>thn h1 fun itv s2 h2=>?_) hs;obtain⟨it,fp,tn,J,H2,e,I2,T,st2,f2,W,⟨m0,w0⟩,turn⟩:=h2;subst e;have stat:∀{H':Hp},(∀b∈fp,H' b=none)->∀b∈fp,Kh X pins H' b:=fun hn b hb=>⟨hn b hb,(f2 b hb).2⟩;refine codeAny_forLoop_any (fun n s'=>∃i Z' H',Inv X pins Z' H' s'/\tn i s'.heap/\(∀b∈fp,H' b=none)/\W i n Z' H') ?_ m0 ⟨0,Z,H2,I2,st2,fun b hb=>(f2 b hb).1,w0⟩;rintro n s3 ⟨i,σ3,H3,I3,st3,fr3,w3⟩;rcases turn i n σ3 H3 w3 with ⟨stop,qn⟩ | ⟨go,N,hN,step⟩
 ·refine jh6 hp (thn (T.done X rfl rfl rfl hc i pins s3 σ3 H3 X.xe I3 (stat fr3) st3 stop) fun r s4 ⟨hr,I4⟩=>?_);subst hr;exact wpAny_execs_nil ⟨σ3,H3,I4,qn⟩
 ·refine jh6 hp (thn (T.item X rfl rfl rfl hc i pins s3 σ3 H3 X.xe I3 (stat fr3) st3 go) fun r s4 ⟨u,hr,h4⟩=>?_);subst hr;refine jh6 hp (thn h4 fun _ s5 hZ=>?_);obtain⟨x,H5,I5,r5,y5,st5,fr5⟩:=hZ;have I5':=I5.pinned (stat fr5) (T.obj _ _ st5);refine jh6 hp (thn (hg s5 σ3 H5 x u _ I5' r5 (step x H5 y5)) fun _ s6 hZ=>?_);obtain⟨σ6,H6,I6,q6⟩:=hZ;refine jh6 hp (thn (hb s6 σ6 H6 _ I6 q6) fun f s7 q7=>?_);have again:∀{σ7:St} {H7:Hp},Inv X (pins++R9 fp s5.heap) σ7 H7 s7->N σ7 H7->∃m,m<n/\∃i Z' H',Inv X pins Z' H' s7/\tn i s7.heap/\(∀b∈fp,H' b=none)/\W i m Z' H':=fun{σ7 H7} I7 n7=>by
   obtain⟨m',hm,w7⟩:=hN σ7 H7 n7;refine⟨m',hm,i+1,σ7,H7,I7.unpinned,T.keep _ _ _ st5 fun b hb o e=>(I7.pin (b,o) (yv _ (yv _ (JT hb e)))).1,fun b hb=>?_,w7⟩;obtain⟨o,e,d⟩:=T.obj _ _ st5 b hb;exact(I7.pin (b,o) (yv _ (yv _ (JT hb e)))).2.1
  cases f with
  | next=>obtain⟨σ7,H7,I7,n7⟩:=q7;exact again I7 n7
  | cont=>obtain⟨σ7,H7,I7,n7⟩:=q7;exact again I7 n7
  | brk=>obtain⟨σ7,H7,I7,q7⟩:=q7;exact⟨σ7,H7,I7.unpinned,q7⟩
  | ret v=>obtain⟨x7,σ7,H7,I7,r7,q7⟩:=q7;exact⟨x7,σ7,H7,I7.unpinned,r7,q7⟩
end
theorem JF{xs:List V}{g:TG}{tb:TS}{D:Ends}(Pv:Nat->St->Hp->Prop)(h0:Pv 0 Z H)(hl:∀i Z H,i<=xs.length->Pv i Z H->SqL K H a xs)
 (hs:∀i x Z H,xs[i]?=some x->Pv i Z H->g x Z H fun σ2 H2=>tb { D with nx:=Pv (i+1),ct:=Pv (i+1),bk:=D.nx } σ2 H2)(hd:∀Z H,Pv xs.length Z H->D.nx Z H):
 ∃W:Nat->Nat->St->Hp->Prop,(∃m,W 0 m Z H)/\∀i m Z H,W i m Z H->
  ((Itl K a).stop i H/\D.nx Z H)\/((Itl K a).go i H/\∃N:St->Hp->Prop,(∀Z' H',N Z' H'->∃m',m'<m/\W (i+1) m' Z' H')/\∀x H',(Itl K a).yld i H x H'->g x Z H' fun σ2 H2=>tb { D with nx:=N,ct:=N,bk:=D.nx } σ2 H2):=by
 refine⟨fun i m Z H=>m=xs.length-i/\i<=xs.length/\Pv i Z H,⟨xs.length,by simp,ke _,h0⟩,?_⟩;rintro i m Z H ⟨rfl,hi,p⟩;have q:=hl i Z H hi p;by_cases hlt:i<xs.length
 ·refine .inr ⟨⟨xs,xs[i],q,by simp[hlt]⟩,Pv (i+1),fun Z' H' p'=>⟨xs.length-(i+1),⋯,rfl,hlt,p'⟩,fun x H' y=>?_⟩;obtain⟨e,y⟩:=y;subst e;exact hs i x Z _ (y xs q) p
 ·have e:i=xs.length:=⋯
  subst e;exact .inl ⟨⟨xs,q,qq _⟩,hd Z H p⟩
theorem vX{xs:List V}{g:TG}{tb:TS}{D:Ends}(Pv:Nat->St->Hp->Prop)(h0:Pv 0 Z H)(hl:∀i Z H,i<=xs.length->Pv i Z H->SqT K H a xs)
 (hs:∀i x Z H,xs[i]?=some x->Pv i Z H->g x Z H fun σ2 H2=>tb { D with nx:=Pv (i+1),ct:=Pv (i+1),bk:=D.nx } σ2 H2)(hd:∀Z H,Pv xs.length Z H->D.nx Z H):
 ∃W:Nat->Nat->St->Hp->Prop,(∃m,W 0 m Z H)/\∀i m Z H,W i m Z H->
  ((Itt K a).stop i H/\D.nx Z H)\/((Itt K a).go i H/\∃N:St->Hp->Prop,(∀Z' H',N Z' H'->∃m',m'<m/\W (i+1) m' Z' H')/\∀x H',(Itt K a).yld i H x H'->g x Z H' fun σ2 H2=>tb { D with nx:=N,ct:=N,bk:=D.nx } σ2 H2):=by
 refine⟨fun i m Z H=>m=xs.length-i/\i<=xs.length/\Pv i Z H,⟨xs.length,by simp,ke _,h0⟩,?_⟩;rintro i m Z H ⟨rfl,hi,p⟩;have q:=hl i Z H hi p;by_cases hlt:i<xs.length
 ·refine .inr ⟨⟨xs,xs[i],q,by simp[hlt]⟩,Pv (i+1),fun Z' H' p'=>⟨xs.length-(i+1),⋯,rfl,hlt,p'⟩,fun x H' y=>?_⟩;obtain⟨e,y⟩:=y;subst e;exact hs i x Z _ (y xs q) p
 ·have e:i=xs.length:=⋯
  subst e;exact .inl ⟨⟨xs,q,qq _⟩,hd Z H p⟩
theorem V6{lo:Int}{n:Nat}{g:TG}{tb:TS}{D:Ends}(Pv:Nat->St->Hp->Prop)(h0:Pv 0 Z H)
 (hs:∀i Z H,i<n->Pv i Z H->g (.int (lo+i)) Z H fun σ2 H2=>tb { D with nx:=Pv (i+1),ct:=Pv (i+1),bk:=D.nx } σ2 H2)(hd:∀Z H,Pv n Z H->D.nx Z H):
 ∃W:Nat->Nat->St->Hp->Prop,(∃m,W 0 m Z H)/\∀i m Z H,W i m Z H->
  ((Itr lo n).stop i H/\D.nx Z H)\/((Itr lo n).go i H/\∃N:St->Hp->Prop,(∀Z' H',N Z' H'->∃m',m'<m/\W (i+1) m' Z' H')/\∀x H',(Itr lo n).yld i H x H'->g x Z H' fun σ2 H2=>tb { D with nx:=N,ct:=N,bk:=D.nx } σ2 H2):=by
 refine⟨fun i m Z H=>m=n-i/\i<=n/\Pv i Z H,⟨n,by simp,ke _,h0⟩,?_⟩;rintro i m Z H ⟨rfl,hi,p⟩;by_cases hlt:i<n
 ·refine .inr ⟨hlt,Pv (i+1),fun Z' H' p'=>⟨n-(i+1),⋯,rfl,hlt,p'⟩,fun x H' y=>?_⟩;obtain⟨e,y⟩:=y;subst e y;exact hs i Z _ hlt p
 ·have e:i=n:=⋯
  subst e;exact .inl ⟨qq _,hd Z H p⟩
noncomputable abbrev R2:=V->V->Hp->VK->Prop
def OpR(X:Cx)(f:Value->Value->Sem Value)(r:R2):Prop:=
 ∀(pins:List (Addr×Obj)) (s:Shared) (Z:St) (H:Hp) (x y:V) (v u:Value) (Q:VK),Inv X pins Z H s->RelV x v->RelV y u->r x y H Q->
  wpAny (model X.prog X.w) X.A (f v u) (EP X pins Z Q) X.xe s
def UnR(X:Cx)(f:Value->Sem Value)(r:V->Hp->VK->Prop):Prop:=
 ∀(pins:List (Addr×Obj)) (s:Shared) (Z:St) (H:Hp) (x:V) (v:Value) (Q:VK),Inv X pins Z H s->RelV x v->r x H Q->
  wpAny (model X.prog X.w) X.A (f v) (EP X pins Z Q) X.xe s
def IV(X:Cx)(f:Value)(r:List V->Hp->VK->Prop):Prop:=
 ∀(pins:List (Addr×Obj)) (s:Shared) (Z:St) (H:Hp) (xs:List V) (us:List Value) (Q:VK),Inv X pins Z H s->Vals xs us->r xs H Q->
  wpAny (model X.prog X.w) X.A (call f us) (EP X pins Z Q) X.xe s
def AEU(X:Cx)(r:V->Hp->(Bool->Hp->Prop)->Prop):Prop:=
 ∀(pins:List (Addr×Obj)) (s:Shared) (Z:St) (H:Hp) (x:V) (v:Value) (Q:Bool->Hp->Prop),Inv X pins Z H s->RelV x v->r x H Q->
  wpAny (model X.prog X.w) X.A (truthy v) (TP X pins Z Q) X.xe s
def tOp(r:R2)(ta tb:TE):TE:=fun Z H Q=>ta Z H fun x H1=>tb Z H1 fun y H2=>r x y H2 Q
def tUn(r:V->Hp->VK->Prop)(ta:TE):TE:=fun Z H Q=>ta Z H fun x H1=>r x H1 Q
def rI(C:Int->Int->Prop)(g:Int->Int->V):R2:=fun x y H Q=>∃i j,x=.int i/\y=.int j/\C i j/\Q (g i j) H
def rI0(g:Int->Int->V):R2:=fun x y H Q=>∃i j,x=.int i/\y=.int j/\Q (g i j) H
def rU(g:Int->V):V->Hp->VK->Prop:=fun x H Q=>∃i,x=.int i/\Q (g i) H
section
variable{X:Cx}{a b c:Expr}{ta tb tc:TE}{pos:Pos}
theorem ABQ(ha:PE X a ta)(hb:PE X b tb){pins:List (Addr×Obj)}{s:Shared}{Z:St}{H:Hp}{R:V->V->Hp->Prop}(I:Inv X pins Z H s)
 (h:ta Z H fun x H1=>tb Z H1 fun y H2=>R x y H2){Q:Value->Shared->Prop}{f:Value->Value->Sem Value}
 (hf:∀v u s2 x y H2,Inv X pins Z H2 s2->RelV x v->RelV y u->R x y H2->wpAny (model X.prog X.w) X.A (f v u) Q X.xe s2):
 wpAny (model X.prog X.w) X.A (eval a X.env) (fun v s₁=>wpAny (model X.prog X.w) X.A (eval b X.env) (fun u s₂=>wpAny (model X.prog X.w) X.A (f v u) Q X.xe s₂) X.xe s₁) X.xe s:=by
 refine thn (ha s Z H _ I h) fun v s1 hZ=>?_;obtain⟨x,H1,I1,r1,q1⟩:=hZ;refine thn (hb s1 Z H1 _ I1 q1) fun u s2 hZ=>?_;obtain⟨y,H2,I2,r2,q2⟩:=hZ;exact hf v u s2 x y H2 I2 r1 r2 q2
theorem Af{op:Operator}{r:R2}(ho:OpR X (binaryOp op) r)(ha:PE X a ta)(hb:PE X b tb):PE X (.BinOp a op b pos) (tOp r ta tb):=by
 intro pins s Z H Q I h;exact wpAny_BinOp (ABQ ha hb I h fun v u s2 x y H2 I2 rx ry q=>ho pins s2 Z H2 x y v u Q I2 rx ry q)
theorem HQ{op:UnaryOp}{r:V->Hp->VK->Prop}(ho:UnR X (unaryOp op) r)(ha:PE X a ta):PE X (.UnaryOp op a pos) (tUn r ta):=by
 intro pins s Z H Q I h;exact UnaryOp_ (thn (ha s Z H _ I h) fun v s1 ⟨x,H1,I1,r1,q1⟩=>ho pins s1 Z H1 x v Q I1 r1 q1)
theorem opI{f:Value->Value->Sem Value}{C:Int->Int->Prop}{g:Int->Int->Int}
 (rule:∀(i j:Int) (t u:Tok) (s:Shared) (Q:Value->Shared->Prop) (E:Value->Shared->Prop),C i j->Q (.int (g i j) s.toks) { s with toks:=s.toks+1 }->wpAny (model X.prog X.w) X.A (f (.int i t) (.int j u)) Q E s):
 OpR X f (rI C fun i j=>.int (g i j)):=by
 intro pins s Z H x y v u Q I rx ry h;obtain⟨i,j,rfl,rfl,hc,q⟩:=h;obtain⟨t,rfl⟩:=rx;obtain⟨t',rfl⟩:=ry;exact rule i j t t' s _ _ hc ⟨.int (g i j),H,I.tok _,⟨_,rfl⟩,q⟩
theorem pM{f:Value->Value->Sem Value}{g:Int->Int->Int}
 (rule:∀(i j:Int) (t u:Tok) (s:Shared) (Q:Value->Shared->Prop) (E:Value->Shared->Prop),Q (.int (g i j) s.toks) { s with toks:=s.toks+1 }->wpAny (model X.prog X.w) X.A (f (.int i t) (.int j u)) Q E s):
 OpR X f (rI0 fun i j=>.int (g i j)):=by
 intro pins s Z H x y v u Q I rx ry h;obtain⟨i,j,rfl,rfl,q⟩:=h;obtain⟨t,rfl⟩:=rx;obtain⟨t',rfl⟩:=ry;exact rule i j t t' s _ _ ⟨.int (g i j),H,I.tok _,⟨_,rfl⟩,q⟩
theorem uy{f:Value->Value->Sem Value}{g:Int->Int->Bool}
 (rule:∀(i j:Int) (t u:Tok) (s:Shared) (Q:Value->Shared->Prop) (E:Value->Shared->Prop),Q (.bool (g i j)) s->wpAny (model X.prog X.w) X.A (f (.int i t) (.int j u)) Q E s):
 OpR X f (rI0 fun i j=>.bl (g i j)):=by
 intro pins s Z H x y v u Q I rx ry h;obtain⟨i,j,rfl,rfl,q⟩:=h;obtain⟨t,rfl⟩:=rx;obtain⟨t',rfl⟩:=ry;exact rule i j t t' s _ _ ⟨.bl (g i j),H,I,rfl,q⟩
def ADa(i j:Int):Prop:=0<=j/\j<=1000000/\i.natAbs<2^64
theorem au(k:Nat):(0:Int)<=2^k:=by
 rw[two_pow_cast];exact jm0 _
theorem Bm:OpR X (binaryOp .Add) (rI0 fun i j=>.int (i+j)):=pM fun _ _ _ _ _ _ _ q=>add_int q
theorem Dh:OpR X (binaryOp .Sub) (rI0 fun i j=>.int (i-j)):=pM fun _ _ _ _ _ _ _ q=>sub_int q
theorem Be:OpR X (binaryOp .Mod) (rI (fun _ j=>0<j) fun i j=>.int (i%j)):=opI fun i j _ _ _ _ _ hc q=>by
 have h1:(0:Int)<j:=hc;exact mod_int' ⋯ (by rw[Int.fmod_eq_emod_of_nonneg i ⋯];exact q)
theorem LK:OpR X (binaryOp .Pow) (rI ADa fun i j=>.int (i^j.toNat)):=opI fun _ _ _ _ _ _ _ hc q=>pow_int_small hc.1 hc.2.1 hc.2.2 q
theorem LC:OpR X (binaryOp .RShift) (rI (fun _ j=>0<=j) fun i j=>.int (i/2^j.toNat)):=opI fun i j _ _ _ _ _ hc q=>
 rshift_int hc (by rw[Int.fdiv_eq_ediv_of_nonneg i (au _)];exact q)
theorem Hv:OpR X (binaryOp .BitAnd) (rI0 fun i j=>.int (Builtin.bitAnd i j)):=pM fun _ _ _ _ _ _ _ q=>and_int q
theorem Vs:OpR X (binaryOp .BitOr) (rI0 fun i j=>.int (Builtin.bitOr i j)):=pM fun _ _ _ _ _ _ _ q=>or_int q
theorem pK:OpR X (binaryOp .BitXor) (rI0 fun i j=>.int (Builtin.bitXor i j)):=pM fun _ _ _ _ _ _ _ q=>xor_int q
theorem unI{f:Value->Sem Value}{g:Int->Int}
 (rule:∀(i:Int) (t:Tok) (s:Shared) (Q:Value->Shared->Prop) (E:Value->Shared->Prop),Q (.int (g i) s.toks) { s with toks:=s.toks+1 }->wpAny (model X.prog X.w) X.A (f (.int i t)) Q E s):
 UnR X f (rU fun i=>.int (g i)):=by
 intro pins s Z H x v Q I rx h;obtain⟨i,rfl,q⟩:=h;obtain⟨t,rfl⟩:=rx;exact rule i t s _ _ ⟨.int (g i),H,I.tok _,⟨_,rfl⟩,q⟩
theorem Ft:UnR X (unaryOp .USub) (rU fun i=>.int (-i)):=unI fun _ _ _ _ _ q=>neg_int q
end
noncomputable def uT:V->V->Bool
 | .non,.non=>true | .non,.int _=>true | .int _,.non=>true | .non,.bl _=>true | .bl _,.non=>true | .non,.str _=>true | .str _,.non=>true
 | .int _,.int _=>true | .bl _,.bl _=>true | .str _,.str _=>true | .byt _,.byt _=>true
 | .int _,.str _=>true | .str _,.int _=>true | .bl _,.str _=>true | .str _,.bl _=>true
 | _,_=>false
def rEq:R2:=fun x y H Q=>uT x y=true/\Q (.bl (decide (x=y))) H
def rNe:R2:=fun x y H Q=>uT x y=true/\Q (.bl (!decide (x=y))) H
theorem gh{i j:Int}:decide (V.int i=V.int j)=(i==j):=by
 rw[Qr];simp
theorem qw{i j:Bool}:decide (V.bl i=V.bl j)=(i==j):=by
 rw[Qr];simp
theorem gf{i j:Str}:decide (V.str i=V.str j)=(i==j):=by
 rw[Qr];simp
theorem gj{i j:Array UInt8}:decide (V.byt i=V.byt j)=(i.toList==j.toList):=by
 rw[Qr];cases i;cases j;simp
section
variable{X:Cx}{a b c:Expr}{ta tb tc:TE}{pos:Pos}
theorem Cj{s:Shared}{Q:VK}{k k':Bool}(I:Inv X pins Z H s)(q:Q (.bl k) H)(e:k=k'):EP X pins Z Q (.bool k') s:=by
 subst e;exact⟨.bl k,H,I,rfl,q⟩
theorem BW:OpR X (compareOp .Eq) rEq:=by
 intro pins s Z H x y v u Q I rx ry h;obtain⟨hs,q⟩:=h;cases x with
 | non=>
  cases rx;cases y with
  | non=>cases ry;exact PySem.EqNone.eq_none_none (Cj I q (by simp))
  | bl j=>cases ry;exact PySem.EqNone.eq_none_bool (Cj I q (by simp))
  | int j=>obtain⟨t',rfl⟩:=ry;exact PySem.EqNone.eq_none_int (Cj I q (by simp))
  | str j=>obtain⟨t',rfl⟩:=ry;exact PySem.EqNone.eq_none_str (Cj I q (by simp))
  | _=>exact absurd (show false=true from hs) zi
 | bl i=>
  cases rx;cases y with
  | non=>cases ry;exact PySem.EqNone.eq_bool_none (Cj I q (by simp))
  | bl j=>cases ry;exact eq_bool (Cj I q qw)
  | str j=>obtain⟨t',rfl⟩:=ry;exact PySem.EqMixed.eq_bool_str (Cj I q (by simp))
  | _=>exact absurd (show false=true from hs) zi
 | int i=>
  obtain⟨t,rfl⟩:=rx;cases y with
  | non=>cases ry;exact PySem.EqNone.eq_int_none (Cj I q (by simp))
  | int j=>obtain⟨t',rfl⟩:=ry;exact eq_int (Cj I q gh)
  | str j=>obtain⟨t',rfl⟩:=ry;exact PySem.EqMixed.eq_int_str (Cj I q (by simp))
  | _=>exact absurd (show false=true from hs) zi
 | str i=>
  obtain⟨t,rfl⟩:=rx;cases y with
  | non=>cases ry;exact PySem.EqNone.eq_str_none (Cj I q (by simp))
  | bl j=>cases ry;exact PySem.EqMixed.eq_str_bool (Cj I q (by simp))
  | int j=>obtain⟨t',rfl⟩:=ry;exact PySem.EqMixed.eq_str_int (Cj I q (by simp))
  | str j=>obtain⟨t',rfl⟩:=ry;exact eq_str (Cj I q gf)
  | _=>exact absurd (show false=true from hs) zi
 | byt i=>
  obtain⟨t,rfl⟩:=rx;cases y with
  | byt j=>obtain⟨t',rfl⟩:=ry;exact PySem.W.eq_bytes (Cj I q gj)
  | _=>exact absurd (show false=true from hs) zi
 | _=>cases y<;>exact absurd (show false=true from hs) zi
theorem Gf:OpR X (compareOp .NotEq) rNe:=by
 intro pins s Z H x y v u Q I rx ry h;obtain⟨hs,q⟩:=h;cases x with
 | non=>
  cases rx;cases y with
  | non=>cases ry;exact PySem.EqNone.ne_none_none (Cj I q (by simp))
  | bl j=>cases ry;exact PySem.EqNone.ne_none_bool (Cj I q (by simp))
  | int j=>obtain⟨t',rfl⟩:=ry;exact PySem.EqNone.ne_none_int (Cj I q (by simp))
  | str j=>obtain⟨t',rfl⟩:=ry;exact PySem.EqNone.ne_none_str (Cj I q (by simp))
  | _=>exact absurd (show false=true from hs) zi
 | bl i=>
  cases rx;cases y with
  | non=>cases ry;exact PySem.EqNone.ne_bool_none (Cj I q (by simp))
  | bl j=>cases ry;exact ne_bool (Cj I q (yk not qw))
  | str j=>obtain⟨t',rfl⟩:=ry;exact PySem.EqMixed.ne_bool_str (Cj I q (by simp))
  | _=>exact absurd (show false=true from hs) zi
 | int i=>
  obtain⟨t,rfl⟩:=rx;cases y with
  | non=>cases ry;exact PySem.EqNone.ne_int_none (Cj I q (by simp))
  | int j=>obtain⟨t',rfl⟩:=ry;exact ne_int (Cj I q (yk not gh))
  | str j=>obtain⟨t',rfl⟩:=ry;exact PySem.EqMixed.ne_int_str (Cj I q (by simp))
  | _=>exact absurd (show false=true from hs) zi
 | str i=>
  obtain⟨t,rfl⟩:=rx;cases y with
  | non=>cases ry;exact PySem.EqNone.ne_str_none (Cj I q (by simp))
  | bl j=>cases ry;exact PySem.EqMixed.ne_str_bool (Cj I q (by simp))
  | int j=>obtain⟨t',rfl⟩:=ry;exact PySem.EqMixed.ne_str_int (Cj I q (by simp))
  | str j=>obtain⟨t',rfl⟩:=ry;exact ne_str (Cj I q (yk not gf))
  | _=>exact absurd (show false=true from hs) zi
 | byt i=>
  obtain⟨t,rfl⟩:=rx;cases y with
  | byt j=>obtain⟨t',rfl⟩:=ry;exact PySem.W.ne_bytes (Cj I q (yk not gj))
  | _=>exact absurd (show false=true from hs) zi
 | _=>cases y<;>exact absurd (show false=true from hs) zi
theorem FT:OpR X (compareOp .Lt) (rI0 fun i j=>.bl (decide (i<j))):=uy fun _ _ _ _ _ _ _ q=>lt_int q
theorem J1:OpR X (compareOp .LtE) (rI0 fun i j=>.bl (decide (i<=j))):=uy fun _ _ _ _ _ _ _ q=>le_int q
theorem GD:OpR X (compareOp .Gt) (rI0 fun i j=>.bl (decide (j<i))):=uy fun _ _ _ _ _ _ _ q=>gt_int q
theorem xV:OpR X (compareOp .GtE) (rI0 fun i j=>.bl (decide (j<=i))):=uy fun _ _ _ _ _ _ _ q=>ge_int q
theorem Vt:OpR X (compareOp .In) (fun x y H Q=>∃i j,x=.str i/\y=.str j/\Q (.bl (!(Builtin.Str.occurrences j i 0 j.length 1).isEmpty)) H):=by
 intro pins s Z H x y v u Q I rx ry h;obtain⟨i,j,rfl,rfl,q⟩:=h;obtain⟨t,rfl⟩:=rx;obtain⟨t',rfl⟩:=ry;exact in_str (Cj I q rfl)
theorem J2:OpR X (compareOp .Is) (fun x y H Q=>y=.non/\Q (.bl (decide (x=.non))) H):=by
 intro pins s Z H x y v u Q I rx ry h;obtain⟨rfl,q⟩:=h;cases ry;refine is_none_gen (Cj I q ?_);cases x<;>first
  | (cases rx;rfl)
  | (obtain ⟨t,rfl⟩:=rx;rfl)
theorem fu:OpR X (compareOp .IsNot) (fun x y H Q=>y=.non/\Q (.bl (!decide (x=.non))) H):=by
 intro pins s Z H x y v u Q I rx ry h;obtain⟨rfl,q⟩:=h;cases ry;refine isnot_none_gen (Cj I q ?_);cases x<;>first
  | (cases rx;rfl)
  | (obtain ⟨t,rfl⟩:=rx;rfl)
theorem An(b:Expr){op:CmpOp}(h:op≠.In:=by decide)(h2:op≠.NotIn:=by decide):behindInMarks op b=false:=by
 have e1:(op==CmpOp.In)=false:=by cases op<;>first | rfl | exact absurd rfl h
 have e2:(op==CmpOp.NotIn)=false:=by cases op<;>first | rfl | exact absurd rfl h2
 cases b<;>simp[behindInMarks,e1,e2]
theorem Ed{op:CmpOp}{r:R2}(ho:OpR X (compareOp op) r)(ha:PE X a ta)(hb:PE X b tb)(hm:behindInMarks op b=false):PE X (.Compare a [op] [b] pos) (tOp r ta tb):=by
 intro pins s Z H Q I h;exact wpAny_Compare1 (ABQ ha hb I h fun v u s2 x y H2 I2 rx ry q=>ho pins s2 Z H2 x y v u Q I2 rx ry q) hm
def ww(t:TE):TT:=fun Z H Q=>t Z H fun x H'=>∃k,x=.bl k/\Q k H'
theorem Ai{op:CmpOp}{r:R2}(ho:OpR X (compareOp op) r)(ha:PE X a ta)(hb:PE X b tb)(hm:behindInMarks op b=false):PT X (.Compare a [op] [b] pos) (ww (tOp r ta tb)):=by
 intro pins s Z H Q I h;refine wpAny_isTrue_Compare1 (thn (ha s Z H _ I h) fun v s1 ⟨x,H1,I1,r1,q1⟩=>thn (hb s1 Z H1 _ I1 q1) fun u s2 ⟨y,H2,I2,r2,q2⟩=>
  thn (ho pins s2 Z H2 x y v u _ I2 r1 r2 q2) fun c s3 ⟨z,H3,I3,r3,k,e,q3⟩=>?_) hm
 subst e;cases r3;exact jc7 ⟨H3,I3,q3⟩
def mU(r r':R2)(ta tb tc:TE):TE:=fun Z H Q=>ta Z H fun x H1=>tb Z H1 fun y H2=>r x y H2 fun z H3=>∃k,z=.bl k/\
 (if k=true then tc Z H3 fun w' H4=>r' y w' H4 Q else Q (.bl false) H3)
theorem MK{op op':CmpOp}{r r':R2}(ho:OpR X (compareOp op) r)(ho':OpR X (compareOp op') r')(ha:PE X a ta)(hb:PE X b tb)(hc:PE X c tc)
 (hm:lastMarks [op,op'] [b,c]=false:=by with_unfolding_all rfl):PE X (.Compare a [op,op'] [b,c] pos) (mU r r' ta tb tc):=by
 intro pins s Z H Q I h;refine Compare_chain (thn (ha s Z H _ I h) fun v s1 ⟨x,H1,I1,r1,q1⟩=>chain_link (thn (hb s1 Z H1 _ I1 q1) fun u s2 ⟨y,H2,I2,r2,q2⟩=>
  thn (ho pins s2 Z H2 x y v u _ I2 r1 r2 q2) fun d s3 ⟨z,H3,I3,r3,k,e,q3⟩=>?_)) hm
 subst e;cases r3;refine jc7 ?_;cases k with
 | false=>exact ite_ff ⟨.bl false,H3,I3,rfl,q3⟩
 | true=>exact ite_tt (chain_last (thn (hc s3 Z H3 _ I3 q3) fun w' s4 ⟨z',H4,I4,r4,q4⟩=>ho' pins s4 Z H4 y z' u w' Q I4 r2 r4 q4))
def AEQ(K:Fr)(x:V)(H:Hp)(k:Bool):Prop:=
 match x with
 | .non=>k=false
 | .bl b=>k=b
 | .int i=>k=(i != 0)
 | .str y=>y.length<=sizeLine/\k=((y.length:Int) != 0)
 | .byt y=>y.size<=sizeLine/\k=((y.size:Int) != 0)
 | .ref p=>(∃xs,SqL K H p xs/\k=!xs.isEmpty)\/(∃xs,SqT K H p xs/\k=!xs.isEmpty)\/∃kvs,H p=some (.dK kvs)/\k=!kvs.isEmpty
 | _=>False
theorem c7{κ:Type}{kvs:List (κ×V)}{vs:List (κ×Value)}(r:KV kvs vs):(!vs.isEmpty)=!kvs.isEmpty:=by
 cases r<;>rfl
theorem TX{xs:List V}{its:List Value}(r:Vals xs its):(!its.toArray.isEmpty)=!xs.isEmpty:=by
 cases r<;>simp
theorem LQ:(sizeLine:Nat)<2^63:=by rw[sizeLine_eq];decide
theorem yS:AEU X (fun x H Q=>∃k,AEQ X.K x H k/\Q k H):=by
 intro pins s Z H x v Q I rx h;obtain⟨k,e,q⟩:=h;have hl:=LQ;have hs:sizeLine=16777216:=sizeLine_eq;cases x with
 | non=>
  cases rx;have e':k=false:=e;subst e';exact truthy_none ⟨H,I,q⟩
 | bl b=>
  cases rx;have e':k=b:=e;subst e';exact jc7 ⟨H,I,q⟩
 | int i=>
  obtain⟨t,rfl⟩:=rx;have e':k=(i != 0):=e;subst e';exact PySem.P.truthy_int ⟨H,I,q⟩
 | str y=>
  obtain⟨t,rfl⟩:=rx;obtain⟨hy,e'⟩:y.length<=sizeLine/\k=((y.length:Int) != 0):=e;subst e';exact PySem.P.truthy_str ⋯ ⟨H,I.tok _,q⟩
 | byt y=>
  obtain⟨t,rfl⟩:=rx;obtain⟨hy,e'⟩:y.size<=sizeLine/\k=((y.size:Int) != 0):=e;subst e';exact PySem.W.truthy_bytes ⋯ ⟨H,I.tok _,q⟩
 | ref p=>
  cases rx;have e':(∃xs,SqL X.K H p xs/\k=!xs.isEmpty)\/(∃xs,SqT X.K H p xs/\k=!xs.isEmpty)\/∃kvs,H p=some (.dK kvs)/\k=!kvs.isEmpty:=e;rcases e' with ⟨xs,hx,e'⟩ | ⟨xs,hx,e'⟩ | ⟨kvs,hx,e'⟩
  ·subst e';obtain⟨its,r,pl,hz⟩:=I.list hx;have hlen:=r.length;exact wpAny_truthy_list pl.isList (by simp only[xh];lia) ⟨H,I.tok _,by rw[TX r];exact q⟩
  ·subst e';obtain⟨its,r,pl,hz⟩:=I.tuple hx;have hlen:=r.length;exact truthy_tuple pl (by simp only[xh];lia) ⟨H,I.tok _,by rw[TX r];exact q⟩
  ·subst e';obtain⟨hz,hS,vs,r,m⟩:kvs.length<=sizeLine/\(p==sysModules)=false/\∃vs,KV kvs vs/\s.heap.DictOf (Et X.prog X.w) p vs:=I.hok p _ hx;have hlen:kvs.length=vs.length:=Paired.length r;exact wpAny_truthy_dict hS m ⋯ ⟨H,I.tok _,by rw[c7 r];exact q⟩
 | _=>exact(show False from e).elim
theorem cP:OpR X (binaryOp .Add) (fun x y H Q=>∃i j,x=.str i/\y=.str j/\i.length+j.length<=sizeLine/\Q (.str (i++j)) H):=by
 intro pins s Z H x y v u Q I rx ry h;obtain⟨i,j,rfl,rfl,hz,q⟩:=h;obtain⟨t,rfl⟩:=rx;obtain⟨t',rfl⟩:=ry;exact add_str (fun t' tk=>⟨.str (i++j),H,I.tok _,⟨_,rfl⟩,q⟩) hz
theorem vals1{x:V}(r:Vals [x] us):∃u,us=[u]/\RelV x u:=by
 cases r with
 | cons r1 r2=>cases r2;exact⟨_,rfl,r1⟩
theorem vals2{x y:V}(r:Vals [x,y] us):∃u w',us=[u,w']/\RelV x u/\RelV y w':=by
 cases r with
 | cons r1 r2=>
  cases r2 with
  | cons r3 r4=>cases r4;exact⟨_,_,rfl,r1,r3⟩
theorem Z7:IV X (.builtin "abs") (fun xs H Q=>∃i,xs=[.int i]/\Q (.int (if i<0 then -i else i)) H):=by
 intro pins s Z H xs us Q I r h;obtain⟨i,rfl,q⟩:=h;obtain⟨u,rfl,t,rfl⟩:=vals1 r;exact call_abs_int fun u tk=>⟨.int (if i<0 then -i else i),H,I.tok _,⟨_,rfl⟩,q⟩
theorem Og:IV X (.type "int") (fun xs H Q=>(∃i,xs=[.int i]/\Q (.int i) H)\/∃k,xs=[.bl k]/\Q (.int (if k then 1 else 0)) H):=by
 intro pins s Z H xs us Q I r h;rcases h with ⟨i,rfl,q⟩ | ⟨k,rfl,q⟩
 ·obtain⟨u,rfl,t,rfl⟩:=vals1 r;exact call_int_int ⟨.int i,H,I,⟨_,rfl⟩,q⟩
 ·obtain⟨u,rfl,r1⟩:=vals1 r;cases r1;exact call_int_bool ⟨.int (if k then 1 else 0),H,I.tok _,⟨_,rfl⟩,q⟩
theorem BL:IV X (.type "str") (fun xs H Q=>∃i,xs=[.int i]/\i.natAbs.log2<1920/\Q (.str (toString i)) H):=by
 intro pins s Z H xs us Q I r h;obtain⟨i,rfl,hz,q⟩:=h;obtain⟨u,rfl,t,rfl⟩:=vals1 r;exact PySem.P.str_of_int hz ⟨.str _,H,I.tok _,⟨_,rfl⟩,q⟩
end
structure dj(h:Heap)(x dx C:Addr)(mA:Str->Option Value):Prop where
 obj:h.get? x=some (PySem.W.instObj C dx)
 ns:h.Ns1 dx mA
 ne:dx≠x
theorem jj{h:Heap}{dx:Addr}{mA:Str->Option Value}(n:h.Ns1 dx mA):∃od,h.get? dx=some od/\∀name,PySem.W.lookIn name od=some (mA name):=by
 obtain⟨o,es,ep,ho,hd,hk,_,hm⟩:=n;refine⟨o,ho,fun name=>?_⟩;have e:=hm name;unfold nsFind findBy at e;rw[<-Array.find?_toList] at e;unfold PySem.W.lookIn;rw[hd];dsimp only;split
 ·rename_i y q
  rw[q] at e;exact yk some e
 ·rename_i q
  rw[q] at e;have a:es.toList.any (·.refKey)=false:=by
   rw[List.any_eq_false];intro y hy;obtain⟨z,t,hkey⟩:=hk y (Array.mem_toList_iff.mp hy);simp[DictEntry.refKey,hkey]
  have a':¬es.toList.any (·.refKey)=true:=by rw[a];exact zi
  rw[xp a'];exact yk some e
theorem dj.look{h:Heap}{x dx C:Addr}{mA:Str->Option Value}(I:dj h x dx C mA):∃od,PySem.W.InstAt h x (PySem.W.instObj C dx) C (some od)/\∀name,PySem.W.lookIn name od=some (mA name):=
 let ⟨od,ho,hl⟩:=jj I.ns
 ⟨od,⟨I.obj,rfl,rfl,ho⟩,hl⟩
section
variable{prog:Program}{w:World}{A:Around}{E:Value->Shared->Prop}{s:Shared}{K:Fr}{x dx C f:Addr}{mA:Str->Option Value}{name:Str}{v:Value}
theorem vV{expr:Bool}{Q:Value->Shared->Prop}(X:K.In s.heap)(I:dj s.heap x dx C mA)(hg:PySem.W.plainGet K C name=true)(hh:PySem.W.hasDictIn K C=true)
 (ha:PySem.W.findIn K (.ref C) name=some none)(hv:mA name=some v)(hv':PySem.W.handedIn v=true)(h:Q v { s with toks:=s.toks+1 }):
 wpAny (model prog w) A (getAttr (.ref x) name expr) Q E s:=by
 obtain⟨od,J,hl⟩:=I.look;exact PySem.W.get_value X J (jq0 hg).1 (PySem.W.findObj_own hh ha rfl (by rw[hl,hv])) hv' h
theorem qT{pl:Sem Bool}{Q:Value×List Value->Shared->Prop}(X:K.In s.heap)(I:dj s.heap x dx C mA)(hg:PySem.W.plainGet K C name=true)
 (hf:PySem.W.findIn K (.ref C) name=some (some (.ref f)))(ht:PySem.W.isFn K (.ref f)=true)(hv:mA name=none)(h:Q (.ref f,[.ref x]) s):
 wpAny (model prog w) A (getMethod (.ref x) name pl) Q E s:=by
 obtain⟨od,J,hl⟩:=I.look;exact PySem.W.method_fn X J (jq0 hg).1 (jq0 hg).2 hf (jc6.mp ht) (by show(PySem.W.lookIn name od).map (·.isSome)=some false;rw[hl,hv];rfl) h
theorem uR{ns:List Str}{Q:Unit->Shared->Prop}(X:K.In s.heap)(I:dj s.heap x dx C mA)
 (hs:PySem.W.findIn K (.ref C) "__setattr__"=some (some (.builtin "object.__setattr__")))(hp:PySem.W.plainOver K C=true)(ht:PySem.W.takerIn K C name=some none)(hh:PySem.W.hasDictIn K C=true)
 (hw:PySem.Within mA ns)(hsz:ns.length<=sizeLine)
 (h:∀h',dj h' x dx C (fun y=>if y=name then some v else mA y)->Heap.SameBut dx s.heap h'->Q () { s with heap:=h',toks:=s.toks+2 }):
 wpAny (model prog w) A (setAttr (.ref x) name v) Q E s:=by
 obtain⟨od,J,hl⟩:=I.look;refine PySem.W.set_plain X J hs (PySem.W.osa_open (s:={ s with toks:=s.toks+1 }) (r:=none) X J hp ht fun b=>?_);obtain⟨cd,hc,hd'⟩:=PySem.W.any_some hh;have hx:s.heap.get? x=some ⟨.ref C,some dx,.plain,#[]⟩:=I.obj;refine js (ya (js (js (wpAny_loadPart hx (js (PySem.W.Looks.here (s:={ s with toks:=s.toks+1 }) (PySem.W.looks_clsIn X hc) ?_))))));rw[hd'];refine ya (a:=some dx) (js (ya (js ?_)));refine wpAny_nsSet1 (s:={ s with toks:=s.toks+1 }) I.ns fun h' hn2 hs2=>?_;obtain⟨oD,esD,epD,hoD,hdD,hcD⟩:=hn2.count (PySem.Within.cons name v hw);refine js (wpAny_lookBehind hoD (by rw[hdD];exact pastItsLine_dict (zv hcD (by rw[qr];lia))) ?_);exact ya (h _ ⟨(hs2.2 _ (Ne.symm I.ne)).trans I.obj,hn2,I.ne⟩ hs2)
theorem pW{R:Result->Shared->Prop}{vs:List Value}{kw:List (Str×Value)}(X:K.In s.heap)(hm:PySem.W.makesIn K C=true)
 (hi:PySem.W.findIn K (.ref C) "__init__"=some (some (.ref f)))(hf:PySem.W.typeIn K (.ref f)=some (.type "function"))
 (h:codeAny (model prog w) (A.under (.builtin "type.__call__" ⟨.ref C::vs,kw⟩)) (.call (.ref f) ⟨.ref (s.heap.objs.size+1)::vs,kw⟩) (PySem.W.InitBack (s.heap.objs.size+1) R)
  { s with heap:=(s.heap.push PySem.W.emptyDict).push (PySem.W.instObj C s.heap.objs.size) }):
 codeAny (model prog w) A (.call (.ref C) ⟨vs,kw⟩) R s:=by
 obtain⟨hh,g,d,t,os⟩:=s;exact PySem.W.make_core (PySem.W.makes_of X hm) (PySem.W.looks_findIn X hi) (fun self=>PySem.W.bind_fn X self hf) (.inl rfl) h
end
noncomputable def De(f:Str)(v:V):List (Str×V)->List (Str×V)
 | []=>[(f,v)]
 | (g,x)::r=>if g=f then (g,v)::r else (g,x)::De f v r
theorem O6(f g:Str)(v:V):∀fs:List (Str×V),(De f v fs).lookup g=if g=f then some v else fs.lookup g
 | []=>by
  show List.lookup g [(f,v)]=_;by_cases h:g=f
  ·have hb:(g==f)=true:=jc6.mpr h;simp only[List.lookup,hb,xy h]
  ·have hb:(g==f)=false:=beq_eq_false_iff_ne.mpr h;simp only[List.lookup,hb,xp h]
 | (k,x)::r=>by
  have ih:=O6 f g v r;rw[show De f v ((k,x)::r)=(if k=f then (k,v)::r else (k,x)::De f v r) from rfl];by_cases hk:k=f
  ·rw[xy hk];by_cases h:g=k
   ·have hb:(g==k)=true:=jc6.mpr h;simp only[List.lookup,hb,xy (h.trans hk)]
   ·have hb:(g==k)=false:=beq_eq_false_iff_ne.mpr h;simp only[List.lookup,hb,xp (fun e:g=f=>h (e.trans hk.symm))]
  ·rw[xp hk];by_cases h:g=k
   ·have hb:(g==k)=true:=jc6.mpr h;simp only[List.lookup,hb,xp (fun e:g=f=>hk (h.symm.trans e))]
   ·have hb:(g==k)=false:=beq_eq_false_iff_ne.mpr h;simp only[List.lookup,hb];exact ih
theorem Oc(f:Str)(v:V):∀fs:List (Str×V),f∈(De f v fs).map (·.1)/\∀g,g∈fs.map (·.1)->g∈(De f v fs).map (·.1)
 | []=>⟨by simp[De],fun g h=>by simp at h⟩
 | (k,x)::r=>by
  obtain⟨i1,i2⟩:=Oc f v r;rw[show De f v ((k,x)::r)=(if k=f then (k,v)::r else (k,x)::De f v r) from rfl];by_cases hk:k=f
  ·rw[xy hk];subst hk;exact⟨by simp,fun g h=>by simpa using h⟩
  ·rw[xp hk];refine⟨?_,fun g h=>?_⟩
   ·rw[zw];exact qk _ i1
   ·rw[zw] at h ⊢;rcases zo.mp h with e | e
    ·exact zo.mpr (.inl e)
    ·exact qk _ (i2 g e)
theorem O8(f:Str)(v:V):∀fs:List (Str×V),(De f v fs).length<=fs.length+1
 | []=>by simp[De]
 | (k,x)::r=>by
  have ih:=O8 f v r;rw[show De f v ((k,x)::r)=(if k=f then (k,v)::r else (k,x)::De f v r) from rfl];by_cases hk:k=f
  ·rw[xy hk,qr,qr];lia
  ·rw[xp hk,qr,qr];lia
theorem Jk.some_of{v:V}{o:Option Value}(r:Jk (some v) o):∃u,o=some u/\RelV v u:=by
 cases o with
 | none=>exact(show False from r).elim
 | some u=>exact⟨u,rfl,r⟩
theorem Jk.none_of{o:Option Value}(r:Jk none o):o=none:=by
 cases o with
 | none=>rfl
 | some u=>exact(show False from r).elim
theorem jz{v:V}(r:RelV v u):PySem.W.handedIn u=true:=by
 cases v with
 | non=>cases (show u=Value.none from r);rfl
 | bl b=>cases (show u=Value.bool b from r);rfl
 | int i=>obtain⟨t,e⟩:=(show ∃t,u=Value.int i t from r);cases e;rfl
 | str x=>obtain⟨t,e⟩:=(show ∃t,u=Value.str x t from r);cases e;rfl
 | byt b=>obtain⟨t,e⟩:=(show ∃t,u=Value.bytes b t from r);cases e;rfl
 | flt b=>obtain⟨t,e⟩:=(show ∃t,u=Value.float b t from r);cases e;rfl
 | ref a=>cases (show u=Value.ref a from r);rfl
 | ty n=>cases (show u=Value.type n from r);rfl
section
variable{P:Program}{w:World}{H H':Hp}{h h':Heap}{a C dx:Addr}{fs fs':List (Str×V)}
theorem Q5(hok:HOk P w H h)(e:H a=some (.ins C dx fs)):∃mA,dj h a dx C mA/\(∀f,Jk (fs.lookup f) (mA f))/\PySem.Within mA (fs.map (·.1))/\fs.length<=1000/\H dx=some (.own a):=by
 obtain⟨d,z,ne,ob,mA,n,r,q⟩:=(show Er P w H h a (.ins C dx fs) from hok a _ e);exact⟨mA,⟨ob,n,ne⟩,r,q,z,d⟩
end
structure Cls(K:Fr)(C:Addr):Prop where
 pg:PySem.W.plainGet K C Str.empty=true
 hd:PySem.W.hasDictIn K C=true
 po:PySem.W.plainOver K C=true
 sa:PySem.W.findIn K (.ref C) "__setattr__"=some (some (.builtin "object.__setattr__"))
theorem Cls.get{C:Addr}(c:Cls K C)(f:Str):PySem.W.plainGet K C f=true:=c.pg
def DX(K:Fr)(C:Addr)(f:Str):Prop:=PySem.W.findIn K (.ref C) f=some none
theorem DX.taker{C:Addr}{f:Str}(n:DX K C f):PySem.W.takerIn K C f=some none:=by
 unfold PySem.W.takerIn;rw[show PySem.W.findIn K (.ref C) f=some none from n];rfl
structure Meth(K:Fr)(C:Addr)(m:Str)(f:Addr):Prop where
 at_:PySem.W.findIn K (.ref C) m=some (some (.ref f))
 fn:PySem.W.isFn K (.ref f)=true
 kp:PySem.W.keepIn K (.ref f)=true
section
variable{X:Cx}{pins:List (Addr×Obj)}{Z:St}{H:Hp}{s:Shared}{a C dx:Addr}{fs:List (Str×V)}{f:Str}{v:V}{A:Around}{E:Value->Shared->Prop}
theorem dC{b:Bool}{Q:Value->Shared->Prop}(I:Inv X pins Z H s)(e:H a=some (.ins C dx fs))(c:Cls X.K C)(n:DX X.K C f)(l:fs.lookup f=some v)
 (h:∀u s',Inv X pins Z H s'->RelV v u->Q u s'):wpAny (model X.prog X.w) A (getAttr (.ref a) f b) Q E s:=by
 obtain⟨mA,O,r,_,_,_⟩:=Q5 I.hok e;obtain⟨u,hu,ru⟩:=Jk.some_of (v:=v) (o:=mA f) (by rw[<-l];exact r f);exact vV I.kIn O (c.get f) c.hd n hu (jz ru) (h u _ (I.tok _) ru)
theorem JZ{m:Str}{g:Addr}{pl:Sem Bool}{Q:Value×List Value->Shared->Prop}(I:Inv X pins Z H s)(e:H a=some (.ins C dx fs))(c:Cls X.K C)(k:Meth X.K C m g)(l:fs.lookup m=none)
 (h:Q (.ref g,[.ref a]) s):wpAny (model X.prog X.w) A (getMethod (.ref a) m pl) Q E s:=by
 obtain⟨mA,O,r,_,_,_⟩:=Q5 I.hok e;have hn:mA m=none:=Jk.none_of (by rw[<-l];exact r m);exact qT I.kIn O (c.get m) k.at_ k.fn hn h
theorem bK{y:V}{Q:Unit->Shared->Prop}(I:Inv X pins Z H s)(e:H a=some (.ins C dx fs))(c:Cls X.K C)(n:DX X.K C f)(hl:fs.length<1000)(ry:RelV y u)
 (h:∀s',Inv X pins Z (upd H a (.ins C dx (De f y fs))) s'->Q () s'):wpAny (model X.prog X.w) A (setAttr (.ref a) f u) Q E s:=by
 obtain⟨mA,O,r,wi,_,ho⟩:=Q5 I.hok e;have hz:(fs.map (·.1)).length<=sizeLine:=by rw[jp,sizeLine_eq];lia
 refine uR I.kIn O c.sa c.po n.taker c.hd wi hz fun h' O' sb=>h _ ?_;have hd:∃o,h'.get? dx=some o:=let ⟨o,_,_,e',_⟩:=O'.ns;⟨o,e'⟩;refine I.write (x:=a) (e:=dx) (by rw[e];exact True.intro) (.inr ho) (fun b q hb z=>(sb.2 b hb).trans z) hd ?_;refine⟨by rw[BK O.ne];exact ho,?_,O.ne,O'.obj,_,O'.ns,fun g=>?_,fun g hg=>?_⟩
 ·have:=O8 f y fs;lia
 ·show Jk ((De f y fs).lookup g) (if g=f then some u else mA g);rw[O6];by_cases q:g=f
  ·rw[xy q,xy q];exact ry
  ·rw[xp q,xp q];exact r g
 ·by_cases q:g=f
  ·rw[q];exact(Oc f y fs).1
  ·refine(Oc f y fs).2 g (wi g fun z=>hg ?_);show(if g=f then some u else mA g)=none;rw[xp q];exact z
theorem Inv.made(I:Inv X pins Z H s):Inv X pins Z (upd (upd H s.heap.objs.size (.own (s.heap.objs.size+1))) (s.heap.objs.size+1) (.ins C s.heap.objs.size []))
 { s with heap:=(s.heap.push PySem.W.emptyDict).push (PySem.W.instObj C s.heap.objs.size) }:=by
 have e1:(s.heap.push PySem.W.emptyDict).get? s.heap.objs.size=some PySem.W.emptyDict:=xb s.heap rfl;have e2:((s.heap.push PySem.W.emptyDict).push (PySem.W.instObj C s.heap.objs.size)).get? (s.heap.objs.size+1)=some (PySem.W.instObj C s.heap.objs.size):=by
  have:=xb (s.heap.push PySem.W.emptyDict) (o:=PySem.W.instObj C s.heap.objs.size) rfl
  rwa [jj0] at this
 have e3:(s.heap.push PySem.W.emptyDict).Ns s.heap.objs.size (fun _=>none):=⟨PySem.W.emptyDict,#[],_,e1,rfl,(fun e he=>absurd he (by simp)),fun _=>rfl⟩;have I1:=I.laid (a:=s.heap.objs.size) (o:=.own (s.heap.objs.size+1)) (h':=s.heap.push PySem.W.emptyDict) (t':=s.toks) (fun b u q=>qf _ q) (qq _) ⟨_,e1⟩;refine I1.laid (a:=s.heap.objs.size+1) (o:=.ins C s.heap.objs.size []) (t':=s.toks) (fun b u q=>qf _ q) (jq2 (jj0 _ _)) ?_;have ne:s.heap.objs.size≠s.heap.objs.size+1:=ku (jo5 _);refine⟨by rw[BK ne,Am],ke _,ne,e2,fun _=>none,(Heap.Ns1.of_empty e3).at fun o q=>qf _ q,fun _=>True.intro,fun y hy=>absurd rfl hy⟩
theorem wH{prog:Program}{w:World}{env:Env}{e:Expr}{f:Str}{s:Shared}{Q:Value->Shared->Prop}(hb:attributeBase e f env (eval e env)=eval e env)
 (h:wpAny (model prog w) A (eval e env) (fun o s₁=>wpAny (model prog w) A (getAttr o f true) Q E s₁) E s):wpAny (model prog w) A (eval (.Attribute e f pos) env) Q E s:=
 Attribute_any_ h (by rw[arm_eval_Attribute,hb])
end
def yZ(K:Fr)(ta:TE)(f:Str):TE:=fun Z H Q=>ta Z H fun x H1=>∃a C dx fs v,x=.ref a/\H1 a=some (.ins C dx fs)/\Cls K C/\DX K C f/\fs.lookup f=some v/\Q v H1
def ACW(K:Fr)(ta tv:TE)(f:Str):TS:=fun D Z H=>tv Z H fun y H1=>ta Z H1 fun x H2=>∃a C dx fs,x=.ref a/\H2 a=some (.ins C dx fs)/\Cls K C/\DX K C f/\fs.length<1000/\
 D.nx Z (upd H2 a (.ins C dx (De f y fs)))
section
variable{X:Cx}{o e value:Expr}{f:Str}{pos pos' tpos:Pos}{ta tv:TE}
theorem Br(he:PE X e ta)(hb:attributeBase e f X.env (eval e X.env)=eval e X.env):PE X (.Attribute e f pos) (yZ X.K ta f):=by
 intro pins s Z H Q I h;refine wH hb (thn (he s Z H _ I h) fun u s1 hZ=>?_);obtain⟨x,H1,I1,rx,a,C,dx,fs,v,ex,ea,c,n,l,q⟩:=hZ;subst ex;obtain rfl:u=Value.ref a:=rx;exact dC I1 ea c n l fun u' s2 I2 ru=>⟨v,H1,I2,ru,q⟩
theorem FW(ha:PE X o ta)(hv:PE X value tv)(hs:swapsWith value (some (.Attribute o f pos')) pos.line X.env=pure false):PS X (.Assign [.Attribute o f pos'] value pos) (ACW X.K ta tv f):=by
 intro pins s Z H D I h;refine plainObj_wpAny_Assign_Attribute (thn (hv s Z H _ I h) fun u s1 ⟨y,H1,I1,ry,q⟩=>thn (ha s1 Z H1 _ I1 q) fun ov s2 hZ=>?_) hs;obtain⟨x,H2,I2,rx,a,C,dx,fs,ex,ea,c,n,l,q2⟩:=hZ;subst ex;obtain rfl:ov=Value.ref a:=rx;exact bK I2 ea c n l ry fun s3 I3=>⟨Z,_,I3,q2⟩
end
section
variable{X:Cx}{pins:List (Addr×Obj)}{Z:St}{H:Hp}{s:Shared}{A:Around}{E:Value->Shared->Prop}{Q:Value->Shared->Prop}{c:Value}{b:Bool}
inductive M3(K:Fr)(H:Hp):V->Value->Prop where
 | non:M3 K H .non (.type "NoneType")
 | bl (x:Bool):M3 K H (.bl x) (.type "bool")
 | int (i:Int):M3 K H (.int i) (.type "int")
 | str (x:Str):M3 K H (.str x) (.type "str")
 | flt (x:UInt64):M3 K H (.flt x) (.type "float")
 | lst {a:Addr} {xs:List V} (e:H a=some (.lst xs)):M3 K H (.ref a) (.type "list")
 | frz {a:Addr} {o:Obj} {xs:List V} (e:H a=some (.frz o (.lst xs))):M3 K H (.ref a) (.type "list")
 | tup {a:Addr} {xs:List V} (e:H a=some (.tup xs)):M3 K H (.ref a) (.type "tuple")
 | dK {a:Addr} {kvs:List (Key×V)} (e:H a=some (.dK kvs)):M3 K H (.ref a) (.type "dict")
 | dT {a:Addr} {kvs:List (List Key×V)} (e:H a=some (.dT kvs)):M3 K H (.ref a) (.type "dict")
 | ins {a C dx:Addr} {fs:List (Str×V)} (e:H a=some (.ins C dx fs)) (cl:Cls K C) (ha:PySem.W.findIn K (.ref C) "__class__"=some (some (.builtin "object.__class__")))
  (hn:PySem.W.specialIn K (.builtin "object.__class__") "__get__"=some (some (.builtin "getset_descriptor.__get__"))) (htk:PySem.W.takesIn K (.builtin "object.__class__")=some true)
  (hm:PySem.W.mroIn K C (.type "object")=some true):M3 K H (.ref a) (.ref C)
theorem jt{x:V}{t:Value}(I:Inv X pins Z H s)(rx:RelV x u)(ty:M3 X.K H x t)(e:PySem.W.kitOne X.K t c=some b)(h:∀tk,Q (.bool b) { s with toks:=tk }):
 wpAny (model X.prog X.w) A (call (.builtin "isinstance") [u,c]) Q E s:=by
 cases ty with
 | non=>cases (show u=Value.none from rx);exact jb7 PySem.W.kitx_none I.kIn True.intro e (fun z=>nomatch z) h
 | bl y=>cases (show u=Value.bool y from rx);exact jb7 PySem.W.kitx_bool I.kIn True.intro e (fun z=>nomatch z) h
 | int i=>obtain⟨t,q⟩:=(show ∃t,u=Value.int i t from rx);cases q;exact jb7 PySem.W.kitx_int I.kIn True.intro e (fun z=>nomatch z) h
 | str y=>obtain⟨t,q⟩:=(show ∃t,u=Value.str y t from rx);cases q;exact jb7 PySem.W.kitx_str I.kIn True.intro e (fun z=>nomatch z) h
 | flt y=>obtain⟨t,q⟩:=(show ∃t,u=Value.float y t from rx);cases q;exact jb7 PySem.W.kitx_float I.kIn True.intro e (fun z=>nomatch z) h
 | @lst a xs ea=>
  cases (show u=Value.ref a from rx);obtain⟨_,_,n,_,h1⟩:=(show Er X.prog X.w H s.heap a (.lst xs) from I.hok a _ ea);exact jb7 PySem.W.kitx_list I.kIn ⟨_,h1,rfl⟩ e (fun z=>nomatch z) h
 | @frz a ob xs ea=>
  cases (show u=Value.ref a from rx);obtain⟨_,_,_,n,_,h1⟩:=(show Er X.prog X.w H s.heap a (.frz ob (.lst xs)) from I.hok a _ ea);exact jb7 PySem.W.kitx_list I.kIn ⟨_,h1,rfl⟩ e (fun z=>nomatch z) h
 | @tup a xs ea=>
  cases (show u=Value.ref a from rx);obtain⟨_,_,_,p⟩:=(show Er X.prog X.w H s.heap a (.tup xs) from I.hok a _ ea);obtain⟨o,h1,h2,_⟩:=p;exact jb7 PySem.W.kitx_tuple I.kIn ⟨o,h1,h2⟩ e (fun z=>nomatch z) h
 | @dK a kvs ea=>
  cases (show u=Value.ref a from rx);obtain⟨_,_,vs,_,p⟩:=(show Er X.prog X.w H s.heap a (.dK kvs) from I.hok a _ ea);obtain⟨o,es,ep,h1,h2,_⟩:=p;exact jb7 PySem.W.kitx_dict I.kIn ⟨o,h1,h2.1⟩ e (fun z=>nomatch z) h
 | @dT a kvs ea=>
  cases (show u=Value.ref a from rx);obtain⟨_,_,xs,_,o,es,ep,h1,h2,_⟩:=(show Er X.prog X.w H s.heap a (.dT kvs) from I.hok a _ ea);exact jb7 PySem.W.kitx_dict I.kIn ⟨o,h1,h2.1⟩ e (fun z=>nomatch z) h
 | @ins a C dx fs ea cl ha hn htk hm=>
  cases (show u=Value.ref a from rx);obtain⟨mA,O,_⟩:=Q5 I.hok ea;obtain⟨od,J,_⟩:=O.look;exact jb7 (PySem.W.kitx_own (cl.get _) cl.hd ha hn htk hm) I.kIn J e (fun z=>nomatch z) h
end
structure Ek(k:Nat)(A:Around):Prop where
 hd:A.handled=none
 dp:A.depth+3*k+5<recursionLimit
 un:A.units+16*k+200<cLine
 gd:A.guards=some []
theorem Ek.mono{j k:Nat}(r:Ek k A)(h:j<=k):Ek j A:=⟨r.hd,by have:=r.dp;lia,by have:=r.un;lia,r.gd⟩
theorem Ek.deeper{k:Nat}(r:Ek (k+1) A)(env:Env):Ek k (A.deeper env):=
 ⟨r.hd,by have:=r.dp;show A.depth+1+3*k+5<_;lia,by have:=r.un;show A.units+3+16*k+200<_;lia,r.gd⟩
theorem cY{C:Addr}{kw:List (Str×Value)}:(A.under (.builtin "type.__call__" ⟨.ref C::us,kw⟩)).depth=A.depth+1:=by
 first | rfl | simp[Around.under,Code.weight,Code.isCreation,Code.isGuard,Code.isCaller,Code.frames,Code.isFrame,guardIds]
theorem cX{C:Addr}{kw:List (Str×Value)}:(A.under (.builtin "type.__call__" ⟨.ref C::us,kw⟩)).units=A.units+1:=by
 first | rfl | simp[Around.under,Code.cUnits,Code.frames,Code.isFrame]
theorem Zm{C:Addr}{kw:List (Str×Value)}(h:A.guards=some []):(A.under (.builtin "type.__call__" ⟨.ref C::us,kw⟩)).guards=some []:=by
 have e:(Code.builtin "type.__call__" ⟨.ref C::us,kw⟩).guards=[]:=by
  unfold Code.guards;rw[xp (by show ¬guardIds.contains "type.__call__"=true;decide)]
 have e2:(A.under (.builtin "type.__call__" ⟨.ref C::us,kw⟩)).guards=pushGuards (Code.builtin "type.__call__" ⟨.ref C::us,kw⟩).guards A.guards:=rfl;rw[e2,e,h];rfl
theorem Ek.make{k:Nat}(r:Ek (k+1) A)(C:Addr)(us:List Value)(kw:List (Str×Value)):Ek k (A.under (.builtin "type.__call__" ⟨.ref C::us,kw⟩)):=
 ⟨r.hd,by have:=r.dp;rw[cY];lia,by have:=r.un;rw[cX];lia,Zm r.gd⟩
theorem Ek.depth{k:Nat}(r:Ek k A):A.depth<recursionLimit:=by have:=r.dp;lia
theorem Ek.units{k:Nat}(r:Ek k A):A.units+64<cLine:=by have:=r.un;lia
def Iz:TA:=fun _ H Q=>Q [] H
def Ex(ta:TE)(tr:TA):TA:=fun Z H Q=>ta Z H fun x H1=>tr Z H1 fun xs H2=>Q (x::xs) H2
section
variable{X:Cx}{e:Expr}{es:List Expr}{te:TE}{t:TA}{pos:Pos}
theorem Ab:PA X [] Iz:=fun _ _ _ _ H Q I h=>Calls.spliced_nil ⟨[],H,I,.nil,h⟩
theorem Aa(ha:PE X e te)(hr:PA X es t)(hs:‹starEach (e::es) X.env=(false,eval e X.env)::starEach es X.env›):PA X (e::es) (Ex te t):=by
 intro pos pins s Z H Q I h;rw[hs];show wpAny _ _ (spliced ((false,eval e X.env)::backTo pos (starEach es X.env))) _ _ s;refine Calls.spliced_cons (thn (ha s Z H _ I h) fun u s1 hZ=>?_);obtain⟨x,H1,I1,r1,q1⟩:=hZ;exact thn (hr (pos:=pos) pins s1 Z H1 _ I1 q1) fun us s2 ⟨xs,H2,I2,r2,q2⟩=>⟨x::xs,H2,I2,.cons r1 r2,q2⟩
def tM(t:TA):TE:=fun Z H Q=>t Z H fun xs H1=>xs.length<=sizeLine/\∀p,H1 p=none->Q (.ref p) (upd H1 p (.tup xs))
def yX(t:TA):TE:=fun Z H Q=>t Z H fun xs H1=>xs.length<=sizeLine/\∀p,H1 p=none->Q (.ref p) (upd H1 p (.lst xs))
theorem BJ{x1}(h:PA X es t):PE X (.Tuple es x1 pos) (tM t):=by
 intro pins s Z H Q I hq;refine wpAny_Tuple_spliced (thn (h (pos:=pos) pins s Z H _ I hq) fun us s1 ⟨xs,H1,I1,r,z,q⟩=>⟨by rw[<-r.length];exact z,?_⟩);have hf:H1 s1.heap.objs.size=none:=I1.hok.fresh (qq _);refine⟨.ref s1.heap.objs.size,upd H1 s1.heap.objs.size (.tup xs),I1.laid (t':=s1.toks) (fun b u e=>qf _ e) (qq _) ?_,rfl,q _ hf⟩;exact⟨z,us,r,⟨_,xb _ rfl,rfl,_,rfl⟩⟩
theorem Du(h:PA X es t):PE X (.List es pos) (yX t):=by
 intro pins s Z H Q I hq;refine wpAny_List_spliced (thn (h (pos:=pos) pins s Z H _ I hq) fun us s1 ⟨xs,H1,I1,r,z,q⟩=>⟨by rw[<-r.length];exact z,?_⟩);have hf:H1 s1.heap.objs.size=none:=I1.hok.fresh (qq _);refine⟨.ref s1.heap.objs.size,upd H1 s1.heap.objs.size (.lst xs),I1.laid (t':=s1.toks) (fun b u e=>qf _ e) (qq _) ?_,rfl,q _ hf⟩;exact⟨z,us,0,r,xb _ rfl⟩
end
noncomputable abbrev Sp:=List V->Hp->VK->XK->Prop
noncomputable abbrev CXT:=List Env->Hp->Shared->XK->Value->Shared->Prop
structure du(P:Program)(w:World)(K:Fr)(mg:Str->Option Value)(base:Heap)(A:Around)(outer:List Env)(s:Shared)(H:Hp):Prop where
 frames:A.frames=some outer
 mod:Mod K mg base
 bs:∀b o,base.get? b=some o->s.heap.get? b=some o/\H b=none
 bsz:base.objs.size<=s.heap.objs.size
 funs:s.heap.FunFrames base outer
 frf:∀b∈frs outer,H b=none
 hok:HOk P w H s.heap
 bare:AllBare s.gens
def CE(outer:List Env)(P:Program)(w:World)(H:Hp)(s:Shared)(Q:VK)(u:Value)(s':Shared):Prop:=
 ∃v H',s'.os=s.os/\AllBare s'.gens/\Un (frs outer) [] H H' s.heap s'.heap/\HOk P w H' s'.heap/\RelV v u/\Q v H'
def CR(CX:CXT)(outer:List Env)(P:Program)(w:World)(H:Hp)(s:Shared)(Q:VK)(E:XK)(r:Result)(s':Shared):Prop:=
 match r with
 | .ok (.ret u)=>CE outer P w H s Q u s'
 | .ok _=>False
 | .error e=>CX outer H s E e s'
structure FN(P:Program)(w:World)(K:Fr)(mg:Str->Option Value)(base:Heap)(CX:CXT)(k:Nat)(f:Addr)(fd:FuncData)(ps:List Str)(sp:Sp):Prop where
 len:∀vs H Q E,sp vs H Q E->vs.length=ps.length
 run:∀(A:Around) (outer:List Env) (s:Shared) (H:Hp) (args:Args) (us:List Value) (vs:List V) (Q:VK) (E:XK),Ek k A->du P w K mg base A outer s H->BindsTo s fd args (ps.zip us)->Vals vs us->sp vs H Q E->
  codeAny (model P w) A (.call (.ref f) args) (CR CX outer P w H s Q E) s
theorem du.make{P:Program}{w:World}{mg:Str->Option Value}{base:Heap}{outer:List Env}{s:Shared}(e:du P w K mg base A outer s H)(C:Addr)(us:List Value)(kw:List (Str×Value)):
 du P w K mg base (A.under (.builtin "type.__call__" ⟨.ref C::us,kw⟩)) outer s H:=⟨by first | exact e.frames | (simpa [Around.under,Code.envs,Code.isFrame,pushEnvs] using e.frames),e.mod,e.bs,e.bsz,e.funs,e.frf,e.hok,e.bare⟩
section
variable{X:Cx}{pins:List (Addr×Obj)}{Z:St}{H:Hp}{s s':Shared}
theorem Inv.env0(I:Inv X pins Z H s):du X.prog X.w X.K X.mg X.base X.A X.stack s H:=
 ⟨I.ok.frames,I.ok.mod,I.bs,zv I.ok.bsz I.sz,I.stack,I.stkFree,I.hok,I.bare⟩
theorem Inv.after{Q:VK}(I:Inv X pins Z H s)(h:CE X.stack X.prog X.w H s Q u s'):EP X pins Z Q u s':=by
 obtain⟨v,H',os,bare,un,hok,r,q⟩:=h;obtain⟨hh,g,d,t,os'⟩:=s';obtain rfl:os'=s.os:=os;exact⟨v,H',I.call (h':=hh) (g':=g) (d':=d) (t':=t) (ch:=[]) un hok bare (fun b z=>absurd z (by simp)),r,q⟩
end
def Jl(sp:Sp)(dvs:List V)(E:XK)(t:TA):TE:=fun Z H Q=>t Z H fun vs H1=>sp (vs++dvs) H1 Q E
def Ym(C:Addr)(m:Str)(sp:Sp)(dvs:List V)(E:XK)(ta:TE)(t:TA):TE:=fun Z H Q=>ta Z H fun x H1=>∃a dx fs,x=.ref a/\H1 a=some (.ins C dx fs)/\fs.lookup m=none/\
 t Z H1 fun vs H2=>sp (x::(vs++dvs)) H2 Q E
def Vk(C:Addr)(sp:Sp)(dvs:List V)(E:XK)(t:TA):TE:=fun Z H Q=>t Z H fun vs H1=>∀x dx,H1 x=none->H1 dx=none->dx≠x->
 sp (.ref x::(vs++dvs)) (upd (upd H1 dx (.own x)) x (.ins C dx [])) (fun v H2=>v=.non/\Q (.ref x) H2) E
def Binds(K:Fr)(fd:FuncData)(ps:List Str)(ds:List Value):Prop:=
 ∀(s:Shared) (us:List Value),K.In s.heap->(us++ds).length=ps.length->BindsTo s fd ⟨us,[]⟩ (ps.zip (us++ds))
theorem Binds.all{fd:FuncData}{ps:List Str}(h:∀us:List Value,us.length=ps.length->bindArgs fd ⟨us,[]⟩=pure (ps.zip us)):Binds K fd ps []:=fun s us _ hl=>by
 rw[yy] at hl ⊢;exact .of_eq (h us hl)
def Kf(CX:CXT)(X:Cx)(E:XK):Prop:=∀(pins:List (Addr×Obj)) (Z:St) (H:Hp) (s:Shared) (e:Value) (s':Shared),Inv X pins Z H s->CX X.stack H s E e s'->X.xe e s'
section
variable{X:Cx}{CX:CXT}{k:Nat}{f C:Addr}{fd:FuncData}{ps:List Str}{sp:Sp}{dvs:List V}{ds:List Value}{E:XK}{x m:Str}{p pos apos:Pos}{e o:Expr}{es:List Expr}{ta:TE}{t:TA}
theorem Nu{s:Shared}{Q:VK}{vs:List V}(F:FN X.prog X.w X.K X.mg X.base CX k f fd ps sp)(hr:Ek k X.A)(hb:Binds X.K fd ps ds)(hd:Vals dvs ds)(hx:Kf CX X E)
 (I:Inv X pins Z H s)(r:Vals vs us)(h:sp (vs++dvs) H Q E):wpAny (model X.prog X.w) X.A (call (.ref f) us) (EP X pins Z Q) X.xe s:=by
 have r2:Vals (vs++dvs) (us++ds):=r.append hd;have hl:(us++ds).length=ps.length:=by rw[<-r2.length];exact F.len _ _ _ _ h
 refine wpAny_call (jo1 (F.run X.A X.stack s H ⟨us,[]⟩ (us++ds) (vs++dvs) Q E hr I.env0 (hb s us I.kIn hl) r2 h) fun r s' hq=>?_);cases r with
 | error e=>exact hx pins Z H s e s' I hq
 | ok fl=>
  cases fl with
  | ret u=>exact I.after hq
  | next=>exact False.elim hq
  | brk=>exact False.elim hq
  | cont=>exact False.elim hq
theorem ut(F:FN X.prog X.w X.K X.mg X.base CX k f fd ps sp)(hr:Ek k X.A)(hg:Gl X x)(hm:X.mg x=some (.ref f))(hk:PySem.W.keepIn X.K (.ref f)=true)(hb:Binds X.K fd ps ds)(hd:Vals dvs ds)(hx:Kf CX X E)
 (ha:PA X (e::es) t)(hdb:(x==("__debug__":Str))=false:=by decide)(he:‹starEach (e::es) X.env=(false,eval e X.env)::starEach es X.env›)(hpl:‹(backTo pos (starEach es X.env)).any (·.1)=false›):
 PE X (.Call (.Name x p) (e::es) [] pos) (Jl sp dvs E t):=by
 intro pins s Z H Q I h;refine je2 (Ml I hg hm ?_ hdb);refine je1 (h₀:=X.base) I.ok.mod.kin hk (thn (ha (pos:=pos) pins s Z H _ I h) fun us s1 ⟨vs,H1,I1,r,q⟩=>⟨I1.kIn,?_⟩) he hpl;exact Nu F hr hb hd hx I1 r q
theorem ur{pl:Sem Bool}(he:PE X o ta)(c:Cls X.K C)(hm:Meth X.K C m f)(F:FN X.prog X.w X.K X.mg X.base CX k f fd ps sp)(hr:Ek k X.A)(hb:Binds X.K fd ps ds)(hd:Vals dvs ds)(hx:Kf CX X E)(ha:PA X (e::es) t)
 (hst:‹starEach (e::es) X.env=(false,eval e X.env)::starEach es X.env›)(hpl:‹(backTo pos (starEach es X.env)).any (·.1)=false›)
 (ht:‹eval (.Call (.Attribute o m apos) (e::es) [] pos) X.env=(do
  let ov <-eval o X.env
  standAt apos.atName
  let (f,first) <-holding [ov] (getMethod ov m pl)
  callWith pos f first (backTo pos (starEach (e::es) X.env)) (backToKw pos (keywordEach [] X.env)))›):
 PE X (.Call (.Attribute o m apos) (e::es) [] pos) (Ym C m sp dvs E ta t):=by
 intro pins s Z H Q I h;refine jg5 (pl:=pl) (thn (he s Z H _ I h) fun u s1 hZ=>?_) ht;obtain⟨x,H1,I1,rx,a,dx,fs,ex,ea,l,q⟩:=hZ;subst ex;obtain rfl:u=Value.ref a:=rx;refine JZ I1 ea c hm l ?_;refine je1 (first:=[.ref a]) (h₀:=X.base) I.ok.mod.kin hm.kp (thn (ha (pos:=pos) pins s1 Z H1 _ I1 q) fun us s2 ⟨vs,H2,I2,r,q2⟩=>⟨I2.kIn,?_⟩) hst hpl
 exact Nu (us:=.ref a::us) (vs:=.ref a::vs) F hr hb hd hx I2 (.cons rfl r) q2
theorem o9{pl:Sem Bool}(he:PE X o ta)(c:Cls X.K C)(hm:Meth X.K C m f)(F:FN X.prog X.w X.K X.mg X.base CX k f fd ps sp)(hr:Ek k X.A)(hb:Binds X.K fd ps ds)(hd:Vals dvs ds)(hx:Kf CX X E)
 (ht:‹eval (.Call (.Attribute o m apos) [] [] pos) X.env=(do
  let ov <-eval o X.env
  standAt apos.atName
  let (f,first) <-holding [ov] (getMethod ov m pl)
  callWith pos f first (backTo pos (starEach [] X.env)) (backToKw pos (keywordEach [] X.env)))›):
 PE X (.Call (.Attribute o m apos) [] [] pos) (Ym C m sp dvs E ta Iz):=by
 intro pins s Z H Q I h;refine jg5 (pl:=pl) (thn (he s Z H _ I h) fun u s1 hZ=>?_) ht;obtain⟨x,H1,I1,rx,a,dx,fs,ex,ea,l,q⟩:=hZ;subst ex;obtain rfl:u=Value.ref a:=rx;refine JZ I1 ea c hm l ?_;exact jp9 (first:=[.ref a]) I1.kIn hm.kp (Nu (us:=[.ref a]) (vs:=[.ref a]) F hr hb hd hx I1 (.cons rfl .nil) q)
structure Mk(K:Fr)(C f:Addr):Prop where
 makes:PySem.W.makesIn K C=true
 init:PySem.W.findIn K (.ref C) "__init__"=some (some (.ref f))
 fn:PySem.W.isFn K (.ref f)=true
 kp:PySem.W.keepIn K (.ref C)=true
theorem ZV{s:Shared}{Q:VK}{vs:List V}(M:Mk X.K C f)(F:FN X.prog X.w X.K X.mg X.base CX k f fd ps sp)(hr:Ek (k+1) X.A)(hb:Binds X.K fd ps ds)(hd:Vals dvs ds)
 (hx:Kf CX X E)(I:Inv X pins Z H s)(r:Vals vs us)
 (h:∀x dx,H x=none->H dx=none->dx≠x->sp (.ref x::(vs++dvs)) (upd (upd H dx (.own x)) x (.ins C dx [])) (fun v H2=>v=.non/\Q (.ref x) H2) E):
 wpAny (model X.prog X.w) X.A (call (.ref C) us) (EP X pins Z Q) X.xe s:=by
 have hq:=h (s.heap.objs.size+1) s.heap.objs.size (I.hok.fresh (Nat.le_succ _)) (I.hok.fresh (qq _)) (ku (jo5 _));have I2:=Inv.made (C:=C) I;have r2:Vals (V.ref (s.heap.objs.size+1)::(vs++dvs)) (Value.ref (s.heap.objs.size+1)::(us++ds)):=.cons rfl (r.append hd);have hl:(Value.ref (s.heap.objs.size+1)::us++ds).length=ps.length:=by
  have e:=r2.length;rw[F.len _ _ _ _ hq] at e;exact e.symm
 refine wpAny_call (pW (f:=f) I.kIn M.makes M.init (jc6.mp M.fn) (jo1 (F.run _ X.stack _ _ ⟨Value.ref (s.heap.objs.size+1)::us,[]⟩ (Value.ref (s.heap.objs.size+1)::(us++ds)) _ _ E (hr.make C us [])
  (I2.env0.make C us []) (hb _ (Value.ref (s.heap.objs.size+1)::us) I2.kIn hl) r2 hq) fun r s' hq'=>?_))
 cases r with
 | error e=>exact hx pins Z _ _ e s' I2 hq'
 | ok fl=>
  cases fl with
  | ret u=>
   obtain⟨v,H',I3,rv,ev,q3⟩:=I2.after hq';subst ev;exact⟨rv,⟨V.ref (s.heap.objs.size+1),H',I3,rfl,q3⟩⟩
  | next=>exact False.elim hq'
  | brk=>exact False.elim hq'
  | cont=>exact False.elim hq'
theorem fX(M:Mk X.K C f)(F:FN X.prog X.w X.K X.mg X.base CX k f fd ps sp)(hr:Ek (k+1) X.A)(hg:Gl X x)(hm:X.mg x=some (.ref C))(hb:Binds X.K fd ps ds)(hd:Vals dvs ds)(hx:Kf CX X E)
 (ha:PA X (e::es) t)(hdb:(x==("__debug__":Str))=false:=by decide)(he:‹starEach (e::es) X.env=(false,eval e X.env)::starEach es X.env›)(hpl:‹(backTo pos (starEach es X.env)).any (·.1)=false›):
 PE X (.Call (.Name x p) (e::es) [] pos) (Vk C sp dvs E t):=by
 intro pins s Z H Q I h;refine je2 (Ml I hg hm ?_ hdb);refine je1 (h₀:=X.base) I.ok.mod.kin M.kp (thn (ha (pos:=pos) pins s Z H _ I h) fun us s1 ⟨vs,H1,I1,r,q⟩=>⟨I1.kIn,?_⟩) he hpl;exact ZV M F hr hb hd hx I1 r q
theorem pA(M:Mk X.K C f)(F:FN X.prog X.w X.K X.mg X.base CX k f fd ps sp)(hr:Ek (k+1) X.A)(hg:Gl X x)(hm:X.mg x=some (.ref C))(hb:Binds X.K fd ps ds)(hd:Vals dvs ds)(hx:Kf CX X E)
 (hdb:(x==("__debug__":Str))=false:=by decide):PE X (.Call (.Name x p) [] [] pos) (Vk C sp dvs E Iz):=by
 intro pins s Z H Q I h;refine je2 (Ml I hg hm ?_ hdb);exact jp9 I.kIn M.kp (ZV (us:=[]) M F hr hb hd hx I .nil h)
end
def PK(X:Cx)(kws:List Keyword)(t:TA):Prop:=
 ∀(pos:Pos) (pins:List (Addr×Obj)) (s:Shared) (Z:St) (H:Hp) (Q:List V->Hp->Prop),Inv X pins Z H s->t Z H Q->wpAny (model X.prog X.w) X.A (evalAll ((backToKw pos (keywordEach kws X.env)).map (·.2))) (AP X pins Z Q) X.xe s
section
variable{X:Cx}{CX:CXT}{k:Nat}{f C:Addr}{fd:FuncData}{ps ks:List Str}{sp:Sp}{E:XK}{x m:Str}{p pos apos kpos:Pos}{e o:Expr}{es:List Expr}{kws:List Keyword}{te ta:TE}{t tk:TA}{nm:Option Str}
variable{g:List Value->List Value->List Value}{gV:List V->List V->List V}
end
structure Cy(N P:List Str)(sc:Scope):Prop where
 kind:sc.kind=.function
 co:sc.isCoroutine=false
 gen:sc.isGenerator=false
 nd:N.Nodup
 pre:N.take P.length=P
 par:∀x∈P,sc.names.lookup x=some .local\/sc.names.lookup x=some .cell
 nofree:∀y∈sc.names,y.2≠.free
theorem Wg{kindOf:Str->Option NameKind}:∀{binds:List (Str×Value)} {m:Str->Option Value},(∀v,(x,v)∉binds)->bindL kindOf binds m x=m x
 | [],_,_=>rfl
 | (n,v)::r,m,h=>by
  unfold bindL;rw[Wg fun w hw=>h w (qk _ hw)];split
  ·have:x≠n:=by rintro rfl;exact h v qc
   simp[this]
  ·rfl
theorem Wi{kindOf:Str->Option NameKind}:∀{binds:List (Str×Value)} {m:Str->Option Value},(∀v,(x,v)∉binds)->bindC kindOf binds m x=m x
 | [],_,_=>rfl
 | (n,v)::r,m,h=>by
  unfold bindC;rw[Wi fun w hw=>h w (qk _ hw)];split
  ·rfl
  ·have:x≠n:=by rintro rfl;exact h v qc
   simp[this]
theorem Wh{kindOf:Str->Option NameKind}{v:Value}:∀{P:List Str} {vs:List Value} {i:Nat} {m:Str->Option Value},P.Nodup->P[i]?=some x->vs[i]?=some v->kindOf x=some .local->
 bindL kindOf (P.zip vs) m x=some v
 | [],_,_,_,_,h,_,_=>by simp at h
 | _::_,[],_,_,_,_,h,_=>by simp at h
 | p::P,w::vs,0,m,nd,h1,h2,hk=>by
  simp at h1 h2;subst h1;subst h2;show bindL kindOf ((p,w)::P.zip vs) m p=_;unfold bindL;rw[Wg fun v hv=>(jp2.mp nd).1 (List.of_mem_zip hv).1,xy hk];simp
 | p::P,w::vs,i+1,m,nd,h1,h2,hk=>by
  show bindL kindOf ((p,w)::P.zip vs) m x=_;unfold bindL;exact Wh (i:=i) (jp2.mp nd).2 (by simpa using h1) (by simpa using h2) hk
theorem Wj{kindOf:Str->Option NameKind}{v:Value}:∀{P:List Str} {vs:List Value} {i:Nat} {m:Str->Option Value},P.Nodup->P[i]?=some x->vs[i]?=some v->kindOf x≠some .local->
 bindC kindOf (P.zip vs) m x=some v
 | [],_,_,_,_,h,_,_=>by simp at h
 | _::_,[],_,_,_,_,h,_=>by simp at h
 | p::P,w::vs,0,m,nd,h1,h2,hk=>by
  simp at h1 h2;subst h1;subst h2;show bindC kindOf ((p,w)::P.zip vs) m p=_;unfold bindC;rw[Wi fun v hv=>(jp2.mp nd).1 (List.of_mem_zip hv).1,xp hk];simp
 | p::P,w::vs,i+1,m,nd,h1,h2,hk=>by
  show bindC kindOf ((p,w)::P.zip vs) m x=_;unfold bindC;exact Wj (i:=i) (jp2.mp nd).2 (by simpa using h1) (by simpa using h2) hk
noncomputable def start(N:List Str)(vs:List V):St:=vs.map some++List.replicate (N.length-vs.length) none
noncomputable def VR(CX:CXT)(P:Program)(w:World)(K:Fr)(mg:Str->Option Value)(base:Heap)(N:List Str)(qual:Str)(scope:Scope)(f:Addr)(cd:Value)(A:Around)(outer:List Env)(s:Shared)(H:Hp)(E:XK):Cx where
 prog:=P
 w:=w
 K:=K
 mg:=mg
 base:=base
 A:=A.deeper (envOfC qual scope s.heap.objs.size f cd)
 N:=N
 s₀:=s
 H₀:=H
 env:=envOfC qual scope s.heap.objs.size f cd
 outer:=outer
 stack:=envOfC qual scope s.heap.objs.size f cd::outer
 ex:=[]
 calm:=true
 fn:=fun _=>true
 pn:=[]
 xe:=fun e s'=>wpAny (model P w) (A.deeper (envOfC qual scope s.heap.objs.size f cd)) («leaving» (envOfC qual scope s.heap.objs.size f cd) e) (fun _ s''=>CX outer H s E e s'') (fun e' s''=>CX outer H s E e' s'') s'
theorem Z6{sc:Scope}{n:Nat}(h:sc.names.lookup x=some .cell):∃c,(cellsFrom n sc.names []).lookup x=some c:=by
 have q:=PySem.W.cellsFrom_some sc.names n [] (.inl h);exact jh5.mp q
theorem ju{CX:CXT}{P:Program}{w:World}{mg:Str->Option Value}{base:Heap}{N ps:List Str}{qual:Str}{scope:Scope}{f:Addr}{cd:Value}{outer:List Env}{s s1:Shared}{E:XK}{vs:List V}
 (S:Cy N ps scope)(hd:A.handled=none)(e0:du P w K mg base A outer s H)(hl:vs.length=ps.length)(r:Vals vs us)
 (x:InCallC s s.heap.objs.size (bindL (envOfC qual scope s.heap.objs.size f cd).kindOf (ps.zip us) fun _=>none) (cellsFrom (s.heap.objs.size+1) scope.names []) (bindC (envOfC qual scope s.heap.objs.size f cd).kindOf (ps.zip us) fun _=>none) s1):
 Inv (VR CX P w K mg base N qual scope f cd A outer s H E) [] (start N vs) H s1:=by
 have hpl:ps.length<=N.length:=by have:=yk List.length S.pre;rw[je4] at this;lia
 obtain⟨h1,tk,rfl,hk⟩:=x.done;have noA:∀b:Addr,b∉(VR CX P w K mg base N qual scope f cd A outer s H E).ex:=fun b z=>absurd (show b∈([]:List Addr) from z) (by simp);refine⟨⟨e0.mod,S.kind,rfl,rfl,qq _,fun y z c h1 h2=>?_,fun y hy=>?_,fun y c _ h=>?_,fun _=>hd,Around.frames_deeper e0.frames,.inr ⟨rfl,rfl⟩,fun b z=>absurd z (noA b),e0.bs,e0.bsz,fun b _ _=>noA b,fun b z=>absurd z (noA b),e0.funs,e0.frf⟩,
  rfl,e0.bare,Un.kept hk,⟨_,x.toInCall.ns,fun i y v h1 h2 h3=>?_⟩,fun y c h=>⟨_,x.cell y c h⟩,e0.hok.fresh (qq _),fun y c h=>?_,fun p hp=>absurd (show p∈([]:List (Addr×Obj)) from hp) (by simp),e0.hok.kept hk,?_⟩
 ·exact name_of_addr x.apart (ji3 h1) (ji3 h2)
 ·have hy:scope.names.lookup y=some .cell\/scope.names.lookup y=some .free:=hy;rcases hy with hy | hy
  ·exact Z6 hy
  ·exact absurd rfl (S.nofree _ (ji3 hy))
 ·exact Nat.le_of_lt (x.above y c (ji3 h))
 ·have hi:i<vs.length:=by
   unfold start at h2;by_cases hi:i<vs.length
   ·exact hi
   ·rw[jf6 (by simpa using hi)] at h2;rw[List.getElem?_replicate] at h2;split at h2<;>cases h2
  have ha:vs[i]?=some v:=by
   unfold start at h2;rw[jg8 (by simpa using hi),xo] at h2;cases e:vs[i]? with
   | none=>rw[e] at h2;cases h2
   | some a=>rw[e] at h2;cases h2;rfl
  obtain⟨u,hu,rv⟩:=r.get ha;have hp:ps[i]?=some y:=by
   rw[<-S.pre,List.getElem?_take_of_lt ⋯];exact h1
  have ndP:ps.Nodup:=by rw[<-S.pre];exact S.nd.sublist (List.take_sublist _ _)
  refine⟨u,rv,?_⟩;rcases S.par y (zk hp) with k | k
  ·exact .inl ⟨k,Wh ndP hp hu k⟩
  ·obtain⟨c,e⟩:=Z6 (n:=s.heap.objs.size+1) k;refine .inr ⟨.inl k,c,e,?_⟩;have q:=x.cell y c e;rw[Wj ndP hp hu (by show scope.names.lookup y≠_;rw[k];decide)] at q;exact q
 ·exact e0.hok.fresh (Nat.le_of_lt (x.above y c (ji3 h)))
 ·unfold start;show _=N.length;rw[zh,jp,jc5];lia
theorem yC{CX:CXT}{P:Program}{w:World}{mg:Str->Option Value}{base:Heap}{k:Nat}{f:Addr}{name qual:Str}{params:Arguments}{body:List Stmt}{scope:Scope}{dV kV doc pm cdv ct oc:Value}{an od:Option Addr}
 {osl:Array (Option Value)}{N ps:List Str}{sp:Sp}(lk:K.lookup f=some ⟨oc,od,.func (PySem.W.fnOf name qual params body scope dV kV doc pm an cdv ct),osl⟩)(hcd:PySem.W.codeIn K cdv qual=true)(S:Cy N ps scope)
 (len:∀vs H Q E,sp vs H Q E->vs.length=ps.length)
 (hbody:∀(A:Around) (outer:List Env) (s:Shared) (H:Hp) (vs:List V) (Q:VK) (E:XK),Ek k (A.deeper (envOfC qual scope s.heap.objs.size f cdv))->sp vs H Q E->
  ∃t,PSs (VR CX P w K mg base N qual scope f cdv A outer s H E) body t/\t { nx:=fun _ H'=>Q .non H',rt:=Q } (start N vs) H):
 FN P w K mg base CX (k+1) f (PySem.W.fnOf name qual params body scope dV kV doc pm an cdv ct) ps sp:=by
 refine⟨len,fun A outer s H args us vs Q E hr e0 hb r hsp=>?_⟩;have hl:=len _ _ _ _ hsp;have KX:K.In s.heap:=e0.mod.kin.keeps fun b o e=>(e0.bs b o e).1;have lim:s.heap.NoLimit:=e0.mod.nolimit.keeps fun b o e=>(e0.bs b o e).1;have hkind:∀y∈ps.zip us,scope.names.lookup y.1=some .local\/(scope.names.lookup y.1=some .cell/\((cellsFrom (s.heap.objs.size+1) scope.names []).lookup y.1).isSome=true):=fun⟨n,v⟩ hy=>by
  rcases S.par n (List.of_mem_zip hy).1 with q | q
  ·exact .inl q
  ·exact .inr ⟨q,PySem.W.cellsFrom_some _ _ _ (.inl q)⟩
 refine codeAny_call_function hr.depth (KX _ _ lk) rfl S.co S.gen rfl (PySem.W.codeRec_of KX hcd) (hb _ _ _ _ ?_);refine wpAny_newFunctionEnv_cells S.kind hkind fun env he s1 x=>?_;subst he;refine⟨lim.keeps x.toInCall.keep,codeAny_func ?_⟩;obtain⟨t,ht,hq⟩:=hbody A outer s H vs Q E (hr.deeper _) hsp;have I:Inv (VR CX P w K mg base N qual scope f cdv A outer s H E) [] (start N vs) H s1:=ju S hr.hd e0 hl r x;refine ja9 (ht s1 (start N vs) H _ I hq) (fun fl s' hs=>?_) fun e s' hs=>hs;have fin:∀{Z':St} {H':Hp} {v:V} {u:Value},Inv (VR CX P w K mg base N qual scope f cdv A outer s H E) [] Z' H' s'->RelV v u->Q v H'->CE outer P w H s Q u s':=
  fun{Z' H' v u} J rv q=>⟨v,H',J.os,J.bare,J.base,J.hok,rv,q⟩
 cases fl with
 | ret u=>
  obtain⟨v,Z',H',J,rv,q⟩:=hs;exact fin J rv q
 | next=>
  obtain⟨Z',H',J,q⟩:=hs;exact fin (v:=V.non) (u:=Value.none) J rfl q
 | brk=>
  obtain⟨_,_,_,q⟩:=hs;exact False.elim q
 | cont=>
  obtain⟨_,_,_,q⟩:=hs;exact False.elim q
section
variable{X:Cx}{x:Str}{p pos:Pos}{e:Expr}{es:List Expr}{t:TA}{id T:String}{r:List V->Hp->VK->Prop}
def tCB(r:List V->Hp->VK->Prop)(t:TA):TE:=fun Z H Q=>t Z H fun vs H1=>r vs H1 Q
theorem Bd(hc:IV X (.builtin id) r)(hg:Gl X x)(hm:X.mg x=none)(hv:bootBuiltins x=some (.builtin id))(ha:PA X (e::es) t)(hn:x≠"__name__":=by decide)(hdb:(x==("__debug__":Str))=false:=by decide)
 (he:‹starEach (e::es) X.env=(false,eval e X.env)::starEach es X.env›)(hpl:‹(backTo pos (starEach es X.env)).any (·.1)=false›):PE X (.Call (.Name x p) (e::es) [] pos) (tCB r t):=by
 intro pins s Z H Q I h;refine je2 (JW I hg hm hv ?_ hn hdb);exact PyProof.Rows.callWith_builtin1 (thn (ha (pos:=pos) pins s Z H _ I h) fun us s1 ⟨vs,H1,I1,r1,q1⟩=>hc pins s1 Z H1 vs us Q I1 r1 q1) he hpl
theorem BP(hc:IV X (.type T) r)(hg:Gl X x)(hm:X.mg x=none)(hv:bootBuiltins x=some (.type T))(ha:PA X (e::es) t)(hn:x≠"__name__":=by decide)(hdb:(x==("__debug__":Str))=false:=by decide)
 (he:‹starEach (e::es) X.env=(false,eval e X.env)::starEach es X.env›)(hpl:‹(backTo pos (starEach es X.env)).any (·.1)=false›):PE X (.Call (.Name x p) (e::es) [] pos) (tCB r t):=by
 intro pins s Z H Q I h;refine je2 (JW I hg hm hv ?_ hn hdb);exact Zs (thn (ha (pos:=pos) pins s Z H _ I h) fun us s1 ⟨vs,H1,I1,r1,q1⟩=>hc pins s1 Z H1 vs us Q I1 r1 q1) he hpl
end
end L2
namespace HT
open PySem PyProof.Rows
section
open PySem.SeqAt
open PySem.AutoSeq1 (wpAny_loadPart')
open PySem.MeetsSeq PySem.MeetsSeq2 PySem.MeetsSeq3
end
section
variable{prog:Program}{w:World}{A:Around}{E:Value->Shared->Prop}{s:Shared}
noncomputable def sIx(n d:Nat):Option Int->Nat
 | none=>d
 | some v=>if v<0 then (v+(n:Int)).toNat else min v.toNat n
theorem sIx_none(n d:Nat):sIx n d none=d:=rfl
theorem sIx_nat(n d k:Nat):sIx n d (some (k:Int))=min k n:=by
 show(if (k:Int)<0 then ((k:Int)+(n:Int)).toNat else min (k:Int).toNat n)=min k n;rw[xp ⋯,xa]
end
end HT
namespace L2
open PySem PySem.Spec PyProof.Rows
noncomputable abbrev TO:=St->Hp->(Option Int->Hp->Prop)->Prop
def PO(X:Cx)(e:Option Expr)(t:TO):Prop:=
 ∀ ⦃pins:List (Addr×Obj)⦄ (s:Shared) (Z:St) (H:Hp) (Q:Option Int->Hp->Prop),Inv X pins Z H s->t Z H Q->
  wpAny (model X.prog X.w) X.A (evalPart e X.env) (fun u s'=>∃o H',Inv X pins Z H' s'/\IsPart u o/\Q o H') X.xe s
def eO:TO:=fun _ H Q=>Q none H
def wy(t:TE):TO:=fun Z H Q=>t Z H fun x H1=>∃i,x=.int i/\Q (some i) H1
theorem intsAre_of{ns:List Int}:∀{us:List Value},Vals (ns.map V.int) us->IntsAre us ns:=by
 induction ns with
 | nil=>intro us r;rw[jl6] at r;cases r;exact .nil
 | cons n ns ih=>
  intro us r;rw[zw] at r;cases r with
  | cons r1 r2=>
   obtain⟨t,e⟩:=r1;subst e;exact .cons n t (ih r2)
section
variable{X:Cx}{e:Expr}{te:TE}{lo hi:Option Expr}{tl th:TO}{pos p2:Pos}
theorem Eb:PO X none eO:=by
 intro pins s Z H Q I h;rw[evalPart_none];exact ya ⟨none,H,I,.none,h⟩
theorem Dp(h:PE X e te):PO X (some e) (wy te):=by
 intro pins s Z H Q I hw;rw[evalPart_some];refine thn (h s Z H _ I hw) fun u s1 hZ=>?_;obtain⟨x,H1,I1,r1,q1⟩:=hZ;obtain⟨i,rfl,q⟩:=q1;obtain⟨t,rfl⟩:=r1;exact⟨some i,H1,I1,.int i t,q⟩
def SlR(X:Cx)(r:V->Option Int->Option Int->Hp->VK->Prop):Prop:=
 ∀(pins:List (Addr×Obj)) (s:Shared) (Z:St) (H:Hp) (x:V) (v vl vu:Value) (lo hi:Option Int) (sl:Addr) (Q:VK),Inv X pins Z H s->RelV x v->s.heap.IsSliceOf sl vl vu .none->IsPart vl lo->IsPart vu hi->r x lo hi H Q->
  ∃T id,typeLookup (.type T) "__getitem__"=pure (some (.builtin id))/\s.TypeIs v T/\wpAny (model X.prog X.w) X.A (getItem v (.ref sl)) (EP X pins Z Q) X.xe s
def tSl(r:V->Option Int->Option Int->Hp->VK->Prop)(te:TE)(tl th:TO):TE:=fun Z H Q=>te Z H fun x H1=>tl Z H1 fun l H2=>th Z H2 fun u H3=>r x l u H3 Q
theorem Cz{r:V->Option Int->Option Int->Hp->VK->Prop}(hr:SlR X r)(he:PE X e te)(hl:PO X lo tl)(hu:PO X hi th):PE X (.Subscript e (.Slice lo hi none p2) pos) (tSl r te tl th):=by
 intro pins s Z H Q I h;refine Subscript_ (thn (he s Z H _ I h) fun v s1 hZ=>?_);obtain⟨x,H1,I1,r1,q1⟩:=hZ;refine wpAny_Slice (thn (hl s1 Z H1 _ I1 q1) fun vl s2 ⟨l,H2,I2,pl,q2⟩=>thn (hu s2 Z H2 _ I2 q2) fun vu s3 hZ=>?_);obtain⟨u,H3,I3,pu,q3⟩:=hZ;rw[evalPart_none];refine ya ?_;have I4:Inv X pins Z H3 { s3 with heap:=s3.heap.push { cls:=.type "slice",data:=.fields #[vl,vu,.none] } }:=I3.kept (t':=s3.toks) fun b ob q=>qf _ q;obtain⟨T,id,hT,ht,hg⟩:=hr pins { s3 with heap:=s3.heap.push { cls:=.type "slice",data:=.fields #[vl,vu,.none] } } Z H3 x v vl vu l u s3.heap.objs.size Q I4 r1 (Heap.IsSliceOf.new ..) pl pu q3;show wpAny (model X.prog X.w) X.A (subscriptTail e (.Slice lo hi none p2) v (.ref s3.heap.objs.size)) (EP X pins Z Q) X.xe { s3 with heap:=s3.heap.push { cls:=.type "slice",data:=.fields #[vl,vu,.none] } };exact tail_any (ops:=[.ref s3.heap.objs.size,v]) ht hT hg (by with_unfolding_all rfl)
noncomputable def Io(xs:List V)(lo hi:Option Int):List V:=(xs.drop (HT.sIx xs.length 0 lo)).take (HT.sIx xs.length xs.length hi-HT.sIx xs.length 0 lo)
theorem Z0(xs:List V)(lo hi:Option Int):(Io xs lo hi).length<=xs.length:=by
 unfold Io;rw[je4,jc0];lia
end
noncomputable def ixN(n:Nat)(i:Int):Option Nat:=if 0<=i then (if i<n then some i.toNat else none) else if -(n:Int)<=i then some (i+n).toNat else none
noncomputable def atI{α:Type}(xs:List α)(i:Int):Option α:=(ixN xs.length i).bind fun j=>xs[j]?
theorem gO{n:Nat}{i:Int}{j:Nat}(h:ixN n i=some j):seqIndex? i n=some j/\j<n/\ -(n:Int)<=i/\i<n:=by
 unfold ixN at h;by_cases h0:0<=i
 ·rw[xy h0] at h;by_cases h1:i<n
  ·rw[xy h1] at h;have e:i.toNat=j:=ub h;exact⟨by rw[seqIndex_of h0 h1,e],⋯,⋯,h1⟩
  ·rw[xp h1] at h;cases h
 ·rw[xp h0] at h;by_cases h1: -(n:Int)<=i
  ·rw[xy h1] at h;have e:(i+n).toNat=j:=ub h;exact⟨by rw[seqIndex_neg ⋯ h1,e],⋯,h1,⋯⟩
  ·rw[xp h1] at h;cases h
theorem YX{α:Type}{xs:List α}{i:Int}{v:α}(h:atI xs i=some v):∃j,seqIndex? i xs.length=some j/\xs[j]?=some v/\j<xs.length/\ -(xs.length:Int)<=i/\i<xs.length:=by
 unfold atI at h;cases e:ixN xs.length i with
 | none=>rw[e] at h;cases h
 | some j=>
  rw[e] at h;obtain⟨h1,h2,h3,h4⟩:=gO e;exact⟨j,h1,h,h2,h3,h4⟩
theorem Ej{α:Type}{xs:List α}{j:Nat}{v:α}(h:xs[j]?=some v):atI xs (j:Int)=some v:=by
 have hj:j<xs.length:=(qv.mp h).1;have e:ixN xs.length (j:Int)=some j:=by
  unfold ixN;rw[xy ⋯,xy ⋯];simp
 unfold atI;rw[e];exact h
def wR(b:Expr):Prop:=∀o i,subscripted b false o i=operate [o,i] (getItem o i)
def IxR(X:Cx)(r:R2):Prop:=
 ∀(value slice:Expr) (pins:List (Addr×Obj)) (s:Shared) (Z:St) (H:Hp) (x y:V) (v u:Value) (Q:VK),Inv X pins Z H s->RelV x v->RelV y u->r x y H Q->
  subscripted slice false v u=operate [v,u] (getItem v u)->wpAny (model X.prog X.w) X.A (subscriptTail value slice v u) (EP X pins Z Q) X.xe s
def MtR(X:Cx)(id:String)(r:V->List V->Hp->VK->Prop):Prop:=
 ∀(pins:List (Addr×Obj)) (s:Shared) (Z:St) (H:Hp) (x:V) (xs:List V) (v:Value) (us:List Value) (Q:VK),Inv X pins Z H s->RelV x v->Vals xs us->r x xs H Q->
  wpAny (model X.prog X.w) X.A (call (.builtin id) (v::us)) (EP X pins Z Q) X.xe s
section
variable{X:Cx}{a b:Expr}{ta tb:TE}{pos:Pos}
theorem Dr{r:R2}(hr:IxR X r)(ha:PE X a ta)(hb:PE X b tb)(hs:wR b:=by exact fun _ _=>rfl):PE X (.Subscript a b pos) (tOp r ta tb):=by
 intro pins s Z H Q I h;exact Subscript_ (ABQ ha hb I h fun v u s2 x y H2 I2 rx ry q=>hr a b pins s2 Z H2 x y v u Q I2 rx ry q (hs _ _))
def zp(K:Fr):R2:=fun x y H Q=>∃p xs i v,x=.ref p/\y=.int i/\SqL K H p xs/\atI xs i=some v/\Q v H
def uo(K:Fr):R2:=fun x y H Q=>∃p xs i v,x=.ref p/\y=.int i/\SqT K H p xs/\atI xs i=some v/\Q v H
def ADt:R2:=fun x y H Q=>∃z i c,x=.str z/\y=.int i/\z.length<=sizeLine/\atI z.cps.toList i=some c/\Q (.str ⟨#[c]⟩) H
theorem Ew:IxR X (zp X.K):=by
 intro value slice pins s Z H x y v u Q I rx ry h hs;obtain⟨p,xs,i,z,rfl,rfl,hq,he,q⟩:=h;cases rx;obtain⟨t,rfl⟩:=ry;obtain⟨its,r,pl,hz⟩:=I.list hq;obtain⟨j,h1,h2,h3,h4,h5⟩:=YX he;obtain⟨w,ew,rw'⟩:=r.get h2;have hl:=r.length;have hn:=LQ;have fin:EP X pins Z Q w s:=⟨z,H,I,rw',q⟩;by_cases h0:0<=i
 ·have hj:i.toNat=j:=by
   rw[seqIndex_of h0 h5] at h1;exact ub h1
  exact item_listR pl.isList h0 ⋯ (by rw[hj];simpa using ew) fin hs
 ·have hj:(i+(its.toArray.size:Int)).toNat=j:=by
   rw[seqIndex_neg ⋯ h4] at h1;rw[xh,<-hl];exact ub h1
  exact subscriptTail_builtinR (x:=w) pl.isList.typeIs slot_list_getitem.lookup
   (wpAny_getItem_list_neg (Q:=fun r s'=>r=w/\EP X pins Z Q r s') pl.isList ⋯ (by rw[xh]<;>lia) ⋯ (by rw[hj];simpa using ew) ⟨rfl,fin⟩) hs
theorem J8:IxR X (uo X.K):=by
 intro value slice pins s Z H x y v u Q I rx ry h hs;obtain⟨p,xs,i,z,rfl,rfl,hq,he,q⟩:=h;cases rx;obtain⟨t,rfl⟩:=ry;obtain⟨its,r,pl,hz⟩:=I.tuple hq;obtain⟨j,h1,h2,h3,h4,h5⟩:=YX he;obtain⟨w,ew,rw'⟩:=r.get h2;have hl:=r.length;have hn:=LQ;have fin:EP X pins Z Q w s:=⟨z,H,I,rw',q⟩;exact subscriptTail_builtinR (x:=w) pl.typeIs slot_tuple_getitem.lookup
  (getItem_tuple (j:=j) (Q:=fun r s'=>r=w/\EP X pins Z Q r s') pl ⋯ ⋯ (by rw[xh,<-hl];exact h1) (by simpa using ew) ⟨rfl,fin⟩) hs
theorem qK:IxR X ADt:=by
 intro value slice pins s Z H x y v u Q I rx ry h hs;obtain⟨z,i,c,rfl,rfl,hz,he,q⟩:=h;obtain⟨t,rfl⟩:=rx;obtain⟨t',rfl⟩:=ry;obtain⟨j,h1,h2,h3,h4,h5⟩:=YX he;have hl:z.cps.toList.length=z.length:=by simp[Str.length]
 rw[hl] at h1 h4 h5;have hn:=LQ;exact tail_any (typeIs_str s z t) slot_str_getitem.lookup (getItem_str (c:=c) (by
  have e1:decide (i< -(2^63:Int))=false:=decide_eq_false ⋯;have e2:decide (i>=2^63)=false:=decide_eq_false ⋯;rw[e1,e2,jo7]) (by rw[h1];simpa using h2) ⟨.str ⟨#[c]⟩,H,I.tok _,⟨_,rfl⟩,q⟩) hs
theorem cW(its:List Value)(n j:Nat)(u:Value):Obj.mapSeq (·.setIfInBounds j u) { cls:=.type "list",data:=.seq its.toArray n }={ cls:=.type "list",data:=.seq (its.set j u).toArray n }:=by
 simp[Obj.mapSeq]
theorem Inv.lst{pins:List (Addr×Obj)}{Z:St}{H:Hp}{s:Shared}{p:Addr}{xs:List V}(I:Inv X pins Z H s)(h:H p=some (.lst xs)):
 ∃(its:List Value) (n:Nat),Vals xs its/\s.heap.get? p=some { cls:=.type "list",data:=.seq its.toArray n }/\xs.length<=sizeLine:=by
 obtain⟨z,its,n,r,e⟩:=I.hok p _ h;exact⟨its,n,r,e,z⟩
theorem Inv.lstUpd{pins:List (Addr×Obj)}{Z:St}{H:Hp}{s:Shared}{p:Addr}{xs ys:List V}{its its':List Value}{n n':Nat}{f:Obj->Obj}(I:Inv X pins Z H s)(h:H p=some (.lst xs))
 (ho:s.heap.get? p=some { cls:=.type "list",data:=.seq its.toArray n })(hf:f { cls:=.type "list",data:=.seq its.toArray n }={ cls:=.type "list",data:=.seq its'.toArray n' })(r:Vals ys its')(hz:ys.length<=sizeLine)(t:Nat):
 Inv X pins Z (upd H p (.lst ys)) { s with heap:=s.heap.update p f,toks:=t }:=by
 have e:(s.heap.update p f).get? p=some { cls:=.type "list",data:=.seq its'.toArray n' }:=by
  rw[jg0 f ho (by rw[hf]<;>rfl),hf]
 refine I.write (x:=p) (e:=p) (by rw[h];trivial) (.inl rfl) (fun b u hb q=>(jb2 _ _ (Ne.symm hb)).trans q) ⟨_,e⟩ ?_;exact⟨hz,its',n',r,e⟩
def xR:V->V->V->Hp->(Hp->Prop)->Prop:=fun o i v H Q=>∃p xs k j,o=.ref p/\i=.int k/\H p=some (.lst xs)/\ixN xs.length k=some j/\Q (upd H p (.lst (xs.set j v)))
theorem set_list:ADW X xR:=by
 intro pins s Z H o i v ov iv u Q I ro ri rv h;obtain⟨p,xs,k,j,rfl,rfl,hp,hj,q⟩:=h;cases ro;obtain⟨t,rfl⟩:=ri;obtain⟨its,n,r,ho,hz⟩:=I.lst hp;obtain⟨h1,h2,h3,h4⟩:=gO hj;have hl:=r.length;have hn:=LQ;have I':Inv X pins Z (upd H p (.lst (xs.set j v))) { s with heap:=s.heap.update p (Obj.mapSeq (·.setIfInBounds j u)) }:=
  I.lstUpd hp ho (cW its n j u) (r.set rv j) (by rw[List.length_set];exact hz) s.toks
 by_cases h0:0<=k
 ·have hk:k.toNat=j:=by
   rw[seqIndex_of h0 h4] at h1;exact ub h1
  exact PySem.W.ki_setAt ho h0 ⋯ (by rw[xh,<-hl];exact h4) (by rw[hk];exact⟨_,I',q⟩)
 ·have hk:(k+(its.toArray.size:Int)).toNat=j:=by
   rw[seqIndex_neg ⋯ h3] at h1;rw[xh,<-hl];exact ub h1
  exact PySem.W.ki_setBack ho ⋯ (by rw[xh,<-hl];exact h3) ⋯ (by rw[hk];exact⟨_,I',q⟩)
theorem W6(lo hi:Option Int)(n:Nat):(sliceBounds lo hi none n).1=((HT.sIx n 0 lo:Nat):Int)/\(sliceBounds lo hi none n).2.1=((HT.sIx n n hi:Nat):Int)/\(sliceBounds lo hi none n).2.2=1:=by
 refine⟨?_,?_,rfl⟩
 ·cases lo with
  | none=>simp[sliceBounds,HT.sIx]
  | some i=>
   simp only[sliceBounds,HT.sIx,Option.getD_none,show(1:Int)>0 by decide,if_true];by_cases h:i<0
   ·simp only[h,if_true]<;>lia
   ·simp only[h,if_false]<;>lia
 ·cases hi with
  | none=>simp[sliceBounds,HT.sIx]
  | some i=>
   simp only[sliceBounds,HT.sIx,Option.getD_none,show(1:Int)>0 by decide,if_true];by_cases h:i<0
   ·simp only[h,if_true]<;>lia
   ·simp only[h,if_false]<;>lia
theorem Uz(its:List Value)(lo hi:Option Int):slicePick its.toArray lo hi none=((its.drop (HT.sIx its.length 0 lo)).take (HT.sIx its.length its.length hi-HT.sIx its.length 0 lo)).toArray:=by
 obtain⟨h1,h2,h3⟩:=W6 lo hi its.toArray.size;unfold slicePick;rw[h1,h2,h3];simp only[sliceRange_one,pick_run,xh]<;>rfl
def ACd(K:Fr):V->Option Int->Option Int->Hp->VK->Prop:=fun x lo hi H Q=>∃a xs,x=.ref a/\SqL K H a xs/\∀p,H p=none->Q (.ref p) (upd H p (.lst (Io xs lo hi)))
theorem Fi:SlR X (ACd X.K):=by
 intro pins s Z H x v vl vu lo hi sl Q I rx hs pl pu h;obtain⟨a,xs,rfl,hx,q⟩:=h;cases rx;obtain⟨its,r,ht,hz⟩:=I.list hx;have hlen:=r.length;refine⟨"list",_,slot_list_getitem.lookup,ht.isList.typeIs,?_⟩;refine wpAny_getItem_list_slice ht.isList hs pl pu .none (by simp) ?_ (by rw[xh]<;>lia);rw[Uz,<-hlen];refine⟨.ref s.heap.objs.size,_,I.laid (t':=s.toks) (o:=.lst (Io xs lo hi)) (fun b ob q=>qf _ q) (qq _) ?_,rfl,q _ (I.hok.fresh (qq _))⟩;exact⟨zv (Z0 xs lo hi) hz,_,0,(r.drop (HT.sIx xs.length 0 lo)).take (HT.sIx xs.length xs.length hi-HT.sIx xs.length 0 lo),xb _ rfl⟩
noncomputable def PL:V->Bool
 | .non=>true
 | .bl _=>true
 | .int _=>true
 | .str _=>true
 | _=>false
noncomputable def eqV:V->V->Bool
 | .non,.non=>true
 | .bl a,.bl b=>a==b
 | .bl a,.int b=>(if a then 1 else 0)==b
 | .int a,.bl b=>a==(if b then 1 else 0)
 | .int a,.int b=>a==b
 | .str a,.str b=>a==b
 | _,_=>false
theorem AAv{A:Around}{s:Shared}{y x:V}{u v:Value}(ry:RelV y u)(rx:RelV x v)(fy:PL y=true)(fx:PL x=true):SeqAt.EqAt A s u v (eqV y x):=by
 cases y with
 | non=>
  cases ry;cases x with
  | non=>cases rx;exact SeqAt.EqAt.same _
  | bl b=>cases rx;exact SeqAt.EqAt.none_bool b
  | int b=>obtain⟨t,rfl⟩:=rx;exact SeqAt.EqAt.none_int b t
  | str b=>obtain⟨t,rfl⟩:=rx;exact SeqAt.EqAt.none_str b t
  | _=>exact absurd (show false=true from fx) zi
 | bl a=>
  cases ry;cases x with
  | non=>cases rx;exact SeqAt.EqAt.bool_none a
  | bl b=>cases rx;exact SeqAt.EqAt.bool_bool a b
  | int b=>obtain⟨t,rfl⟩:=rx;exact SeqAt.EqAt.bool_int a b t
  | str b=>obtain⟨t,rfl⟩:=rx;exact SeqAt.EqAt.bool_str a b t
  | _=>exact absurd (show false=true from fx) zi
 | int a=>
  obtain⟨t',rfl⟩:=ry;cases x with
  | non=>cases rx;exact SeqAt.EqAt.int_none a t'
  | bl b=>cases rx;exact SeqAt.EqAt.int_bool a t' b
  | int b=>obtain⟨t,rfl⟩:=rx;exact SeqAt.EqAt.int_int a t' b t
  | str b=>obtain⟨t,rfl⟩:=rx;exact SeqAt.EqAt.int_str a t' b t
  | _=>exact absurd (show false=true from fx) zi
 | str a=>
  obtain⟨t',rfl⟩:=ry;cases x with
  | non=>cases rx;exact SeqAt.EqAt.str_none a t'
  | bl b=>cases rx;exact SeqAt.EqAt.str_bool a t' b
  | int b=>obtain⟨t,rfl⟩:=rx;exact SeqAt.EqAt.str_int a t' b t
  | str b=>obtain⟨t,rfl⟩:=rx;exact SeqAt.EqAt.str_str a t' b t
  | _=>exact absurd (show false=true from fx) zi
 | _=>exact absurd (show false=true from fy) zi
noncomputable def eqU(x:V)(u:Value):Bool:=match u with
 | .none=>eqV .non x
 | .bool b=>eqV (.bl b) x
 | .int i _=>eqV (.int i) x
 | .str z _=>eqV (.str z) x
 | _=>false
theorem qe{x y:V}{u:Value}(r:RelV y u)(f:PL y=true):eqU x u=eqV y x:=by
 cases y with
 | non=>cases r;rfl
 | bl b=>cases r;rfl
 | int i=>obtain⟨t,rfl⟩:=r;rfl
 | str z=>obtain⟨t,rfl⟩:=r;rfl
 | _=>exact absurd (show false=true from f) zi
theorem YZ{x:V}:∀{xs:List V} {us:List Value},Vals xs us->xs.all PL=true->us.any (eqU x)=xs.any fun y=>eqV y x
 | _,_,.nil,_=>rfl
 | y::xs,u::us,.cons r t,f=>by
  rw[List.all_cons,vi] at f;rw[jk7,jk7,qe r f.1,YZ t f.2]
theorem S5{A:Around}{s:Shared}{x:V}{v:Value}(rx:RelV x v)(fx:PL x=true):∀{xs:List V} {us:List Value},Vals xs us->xs.all PL=true->∀u∈us,SeqAt.EqAt A s u v (eqU x u)
 | _,_,.nil,_=>fun u hu=>by cases hu
 | y::xs,u::us,.cons r t,f=>fun u' hu=>by
  rw[List.all_cons,vi] at f;rcases zo.mp hu with rfl | hu
  ·rw[qe r f.1];exact AAv r rx f.1 fx
  ·exact S5 rx fx t f.2 u' hu
noncomputable def inV(x:V)(xs:List V):Bool:=xs.any fun y=>eqV y x
def rIn(K:Fr)(neg:Bool):R2:=fun x y H Q=>∃p xs,y=.ref p/\(SqL K H p xs\/SqT K H p xs)/\PL x=true/\xs.all PL=true/\Q (.bl (if neg then !inV x xs else inV x xs)) H
theorem Xl:OpR X (compareOp .NotIn) (rIn X.K true):=by
 intro pins s Z H x y v u Q I rx ry h;obtain⟨p,xs,rfl,hq,fx,fs,q⟩:=h;cases ry;rcases hq with hq | hq
 ·obtain⟨its,r,pl,hz⟩:=I.list hq;refine SeqAt.notIn_listAt (eqU x) pl.isList (fun w hw=>S5 rx fx r fs w (by simpa using hw)) ⟨.bl _,H,I,rfl,?_⟩;rw[show its.toArray.any (eqU x)=its.any (eqU x) by simp,YZ r fs];exact q
 ·obtain⟨its,r,pl,hz⟩:=I.tuple hq;refine SeqAt.notIn_tupleAt (eqU x) pl (fun w hw=>S5 rx fx r fs w (by simpa using hw)) ⟨.bl _,H,I,rfl,?_⟩;rw[show its.toArray.any (eqU x)=its.any (eqU x) by simp,YZ r fs];exact q
theorem Bs:IV X (.builtin "len") (fun xs H Q=>∃p ys,xs=[.ref p]/\(SqL X.K H p ys\/SqT X.K H p ys)/\Q (.int ys.length) H):=by
 intro pins s Z H xs us Q I r h;obtain⟨p,ys,rfl,hq,q⟩:=h;obtain⟨u,rfl,rx⟩:=vals1 r;cases rx;have hn:=LQ;rcases hq with hq | hq
 ·obtain⟨its,r',pl,hz⟩:=I.list hq;have hlen:=r'.length;exact Calls.call_len_list pl.isList (by simp only[xh]<;>lia) ⟨.int ys.length,H,I.tok _,⟨s.toks+1,by rw[xh,hlen]⟩,q⟩
 ·obtain⟨its,r',pl,hz⟩:=I.tuple hq;have hlen:=r'.length;exact len_tuple pl (by simp only[xh]<;>lia) ⟨.int ys.length,H,I.tok _,⟨s.toks+1,by rw[xh,hlen]⟩,q⟩
theorem Eh:IV X (.builtin "len") (fun xs H Q=>∃z,xs=[.str z]/\z.length<=sizeLine/\Q (.int z.length) H):=by
 intro pins s Z H xs us Q I r h;obtain⟨z,rfl,hz,q⟩:=h;obtain⟨u,rfl,t,rfl⟩:=vals1 r;have hn:=LQ;exact len_str ⋯ ⟨.int z.length,H,I.tok _,⟨_,rfl⟩,q⟩
theorem YF:IV X (.type "list") (fun xs H Q=>∃p ys,xs=[.ref p]/\(SqL X.K H p ys\/SqT X.K H p ys)/\∀l,H l=none->Q (.ref l) (upd H l (.lst ys))):=by
 intro pins s Z H xs us Q I r h;obtain⟨p,ys,rfl,hq,q⟩:=h;obtain⟨u,rfl,rx⟩:=vals1 r;cases rx;have fin:∀(its:List Value),Vals ys its->ys.length<=sizeLine->∀(h':Heap) (c':Nat),(∀b o',s.heap.get? b=some o'->h'.get? b=some o')->
  h'.get? s.heap.objs.size=some { cls:=.type "list",dict:=none,data:=.seq its.toArray c',slots:= #[] }->EP X pins Z Q (.ref s.heap.objs.size) { s with heap:=h' }:=fun its r' hz h' c' kp e=>
  ⟨.ref s.heap.objs.size,_,I.laid (t':=s.toks) kp (qq _) (show Er X.prog X.w _ h' _ (.lst ys) from ⟨hz,its,c',r',e⟩),rfl,q _ (I.hok.fresh (qq _))⟩
 rcases hq with hq | hq
 ·obtain⟨its,r',pl,hz⟩:=I.list hq;have hlen:=r'.length;obtain⟨o,ho,hc,n,hd⟩:=pl.isList;exact call_list_seq p (.inl rfl) ho hc hd (fun h' c' kp e=>fin its r' hz h' c' kp e) (by simp only[xh]<;>lia)
 ·obtain⟨its,r',pl,hz⟩:=I.tuple hq;have hlen:=r'.length;obtain⟨o,ho,hc,n,hd⟩:=pl;exact call_list_seq p (.inr rfl) ho hc hd (fun h' c' kp e=>fin its r' hz h' c' kp e) (by simp only[xh]<;>lia)
theorem Ir:IV X (.type "tuple") (fun xs H Q=>∃p ys,xs=[.ref p]/\((SqL X.K H p ys/\∀l,H l=none->Q (.ref l) (upd H l (.tup ys)))\/(SqT X.K H p ys/\Q (.ref p) H))):=by
 intro pins s Z H xs us Q I r h;obtain⟨p,ys,rfl,h⟩:=h;obtain⟨u,rfl,rx⟩:=vals1 r;cases rx;rcases h with ⟨hq,q⟩ | ⟨hq,q⟩
 ·obtain⟨its,r',pl,hz⟩:=I.list hq;have hlen:=r'.length;refine call_tuple_list pl.isList (fun h' kp=>?_) (by simp only[xh]<;>lia);have I1:Inv X pins Z H { s with heap:=h' }:=I.kept (t':=s.toks) kp;have I2:Inv X pins Z (upd H h'.objs.size (.tup ys)) { s with heap:=h'.push { cls:=.type "tuple",data:=.seq its.toArray } }:=
   I1.laid (t':=s.toks) (fun b o e=>qf _ e) (qq _) (show Er X.prog X.w _ _ _ (.tup ys) from ⟨hz,its,r',IsTup.new _ _⟩)
  exact⟨.ref h'.objs.size,_,I2,rfl,q _ (I1.hok.fresh (qq _))⟩
 ·obtain⟨its,r',pl,hz⟩:=I.tuple hq;exact call_tuple_same pl ⟨.ref p,H,I,rfl,q⟩
def tyV(K:Fr)(T:String)(x:V)(H:Hp):Prop:=match x with
 | .str _=>T="str"
 | .int _=>T="int"
 | .ref p=>(T="list"/\∃xs,SqL K H p xs)\/(T="tuple"/\∃o,K.lookup p=some o/\o.cls=.type "tuple"/\o.dict=none)\/
  (T="dict"/\((∃kvs,H p=some (.dK kvs))\/∃kvs,H p=some (.dT kvs)))\/(T="set"/\∃S n,H p=some (.set S n))
 | _=>False
theorem lq{pins:List (Addr×Obj)}{Z:St}{H:Hp}{s:Shared}{T:String}{x:V}{v:Value}(I:Inv X pins Z H s)(r:RelV x v)(ty:tyV X.K T x H):
 s.TypeIs v T/\∀a,v=.ref a->∃ob,s.heap.get? a=some ob/\ob.dict=none:=by
 cases x with
 | str z=>
  obtain⟨t,rfl⟩:=r;cases (show T="str" from ty);exact⟨typeIs_str s z t,fun _ e=>nomatch e⟩
 | int i=>
  obtain⟨t,rfl⟩:=r;cases (show T="int" from ty);exact⟨typeIs_int s i t,fun _ e=>nomatch e⟩
 | ref p=>
  cases r;rcases ty with ⟨rfl,xs,hq⟩ | ⟨rfl,o,hk,hc,hd⟩ | ⟨rfl,hk⟩ | ⟨rfl,S,n,hk⟩
  ·obtain⟨its,_,pl,_⟩:=I.list hq;refine⟨pl.isList.typeIs,fun a e=>?_⟩;cases e;obtain⟨o,n,e,c,hd,_⟩:=pl;exact⟨o,e,hd⟩
  ·refine⟨⟨o,I.kIn p o hk,hc⟩,fun a e=>?_⟩;cases e;exact⟨o,I.kIn _ o hk,hd⟩
  ·have z:∃o,s.heap.get? p=some o/\o.ExactDict:=by
    rcases hk with ⟨kvs,hk⟩ | ⟨kvs,hk⟩
    ·obtain⟨_,_,_,_,o,_,_,e,ex,_⟩:=I.hok p _ hk;exact⟨o,e,ex⟩
    ·obtain⟨_,_,_,_,o,_,_,e,ex,_⟩:=I.hok p _ hk;exact⟨o,e,ex⟩
   obtain⟨o,e,ex⟩:=z;refine⟨⟨o,e,ex.1⟩,fun a e2=>?_⟩;cases e2;exact⟨o,e,ex.2.1⟩
  ·obtain⟨o,_,_,_,e,ex,_⟩:=I.hok p _ hk;refine⟨⟨o,e,ex.1⟩,fun a e2=>?_⟩;cases e2;exact⟨o,e,ex.2.1⟩
 | _=>exact False.elim ty
def ABp(K:Fr)(T:String)(r:V->List V->Hp->VK->Prop)(to:TE):TE:=fun Z H Q=>to Z H fun x H1=>tyV K T x H1/\r x [] H1 Q
def tBM(K:Fr)(T:String)(r:V->List V->Hp->VK->Prop)(to:TE)(t:TA):TE:=fun Z H Q=>to Z H fun x H1=>tyV K T x H1/\t Z H1 fun xs H2=>r x xs H2 Q
variable{o e:Expr}{es:List Expr}{to:TE}{t:TA}{name:Str}{apos cpos:Pos}{T id:String}{r:V->List V->Hp->VK->Prop}
theorem pD(pa:PlainAttrs T)(slot:Slot T name id)(hty:typeOf (.builtin id)=pure (.type "method_descriptor"))(hm:MtR X id r)(ho:PE X o to)
 (hbase:‹attributeBase o name X.env (eval o X.env)=eval o X.env›)(hline:‹(apos.endLine==cpos.line)=true›):PE X (.Call (.Attribute o name apos) [] [] cpos) (ABp X.K T r to):=by
 intro pins s Z H Q I h;refine wpAny_Call_method0_late hbase hline (thn (ho s Z H _ I h) fun v s1 hZ=>?_);obtain⟨x,H1,I1,r1,ty,q1⟩:=hZ;obtain⟨h1,h2⟩:=lq I1 r1 ty;exact⟨T,id,pa,slot,hty,h1,h2,Calls.callWith_builtin rfl (PySem.evalArgs_none (hm pins s1 Z H1 x [] v [] Q I1 r1 .nil q1))⟩
theorem GQ(pa:PlainAttrs T)(slot:Slot T name id)(hty:typeOf (.builtin id)=pure (.type "method_descriptor"))(hm:MtR X id r)(ho:PE X o to)(ha:PA X (e::es) t)
 (hbase:‹attributeBase o name X.env (eval o X.env)=eval o X.env›)
 (hfew:‹((backTo cpos (starEach (e::es) X.env)).all (fun x=>!x.1)&&(backToKw cpos (keywordEach [] X.env)).all (fun x=>x.1.isSome)
  &&decide ((e::es).length+([]:List Keyword).length+(if ([]:List Keyword).isEmpty then 0 else 1)<30))=true›)
 (hline:‹(apos.endLine==cpos.line)=true›)(hs:‹starEach (e::es) X.env=(false,eval e X.env)::starEach es X.env›)(hplain:‹(backTo cpos (starEach es X.env)).any (·.1)=false›):
 PE X (.Call (.Attribute o name apos) (e::es) [] cpos) (tBM X.K T r to t):=by
 intro pins s Z H Q I h;refine wpAny_Call_method_late hbase hfew hline rfl (thn (ho s Z H _ I h) fun v s1 hZ=>?_);obtain⟨x,H1,I1,r1,ty,q1⟩:=hZ;obtain⟨h1,h2⟩:=lq I1 r1 ty;refine⟨T,id,pa,slot,hty,h1,h2,?_⟩;have hA:=ha (pos:=cpos) pins s1 Z H1 _ I1 q1;rw[hs] at hA ⊢;refine Calls.callWith_builtin (by show(false||(backTo cpos (starEach es X.env)).any (·.1))=false;rw[hplain]<;>rfl) (Calls.evalArgs_plain ?_);exact thn hA fun us s2 ⟨vs,H2,I2,r2,q2⟩=>hm pins s2 Z H2 x vs v us Q I2 r1 r2 q2
end
def MtM(X:Cx)(id:String)(r:V->List V->Hp->VK->Prop):Prop:=
 ∀(pins:List (Addr×Obj)) (s:Shared) (Z:St) (H:Hp) (x:V) (xs:List V) (v:Value) (us:List Value) (Q:VK),Inv X pins Z H s->RelV x v->Vals xs us->r x xs H Q->
  wpAny (model X.prog X.w) X.A (call (.builtin id) (v::us)) (EP X pins Z Q) X.xe s
theorem Vals.one{x:V}{us:List Value}(h:Vals [x] us):∃u,us=[u]/\RelV x u:=by cases h with | cons r h=>cases h;exact⟨_,rfl,r⟩
theorem Vals.zero:∀{us:List Value},Vals [] us->us=[]
 | _,.nil=>rfl
theorem Vals.rep{xs:List V}{us:List Value}(h:Vals xs us):∀k:Nat,Vals (List.replicate k xs).flatten (List.replicate k us).flatten
 | 0=>.nil
 | k+1=>by
  rw[ja5,ja5,je8,je8];exact Vals.append h (Vals.rep h k)
theorem foldl_rep(its:List Value):∀(k:Nat) (acc:List Value),
 List.foldl (fun x1 x2=>x1++x2) acc.toArray (List.replicate k its.toArray)=(acc++(List.replicate k its).flatten).toArray
 | 0,acc=>by simp
 | k+1,acc=>by
  have e:acc.toArray++its.toArray=(acc++its).toArray:=by simp
  have e2:(acc++its)++(List.replicate k its).flatten=acc++(List.replicate (k+1) its).flatten:=by
   rw[ja5,je8,jc4]
  rw[<-e2,<-foldl_rep its k (acc++its),<-e,ja5,List.foldl_cons]
section
variable{X:Cx}{pins:List (Addr×Obj)}{Z:St}{H:Hp}{s:Shared}{l b:Addr}{xs ys zs:List V}
theorem Inv.lset{its its':List Value}{n:Nat}{f:Array Value->Array Value}{t':Nat}(I:Inv X pins Z H s)(hH:H l=some (.lst xs))
 (e:s.heap.get? l=some { cls:=.type "list",data:=.seq its.toArray n })(hf:f its.toArray=its'.toArray)(hv:Vals ys its')(hz:ys.length<=sizeLine):
 Inv X pins Z (upd H l (.lst ys)) { s with heap:=s.heap.update l (Obj.mapSeq f),toks:=t' }:=by
 have q:=PySem.IsL.update e f;rw[hf] at q;refine I.write (x:=l) (e:=l) (by rw[hH];exact trivial) (.inl rfl) (fun b' u hb hu=>(jb2 s.heap (Obj.mapSeq f) (Ne.symm hb)).trans hu) ⟨_,q⟩ ?_;exact⟨hz,its',_,hv,q⟩
theorem Inv.lnew{its:List Value}{t':Nat}(I:Inv X pins Z H s)(hv:Vals ys its)(hz:ys.length<=sizeLine):
 Inv X pins Z (upd H s.heap.objs.size (.lst ys)) { s with heap:=s.heap.push { cls:=.type "list",data:=.seq its.toArray },toks:=t' }:=
 I.laid (fun _ _ q=>qf _ q) (qq _) ⟨hz,its,0,hv,xb _ rfl⟩
theorem Inv.fresh(I:Inv X pins Z H s):H s.heap.objs.size=none:=I.hok.fresh (qq _)
theorem Inv.lstM(I:Inv X pins Z H s)(hH:H l=some (.lst xs)):xs.length<=sizeLine/\∃(its:List Value) (n:Nat),Vals xs its/\xs.length=its.length/\s.heap.get? l=some { cls:=.type "list",data:=.seq its.toArray n }:=by
 obtain⟨z,its,n,r,e⟩:=I.hok l _ hH;exact⟨z,its,n,r,r.length,e⟩
theorem Zi{n:Nat}(h:n<=sizeLine):Builtin.List.listTooLong n=false:=by
 unfold Builtin.List.listTooLong;exact decide_eq_false ⋯
end
section
variable{X:Cx}
def Qz:V->List V->Hp->VK->Prop:=fun x vs H Q=>∃l xs y,x=.ref l/\vs=[y]/\H l=some (.lst xs)/\xs.length<sizeLine/\Q .non (upd H l (.lst (xs++[y])))
theorem Oa:MtM X "list.append" Qz:=by
 intro pins s Z H x vs v us Q I rx rv h;obtain⟨l,xs,y,rfl,rfl,hH,hz,q⟩:=h;cases rx;obtain⟨u,rfl,ru⟩:=rv.one;obtain⟨z,its,n,r,hl,e⟩:=I.lstM hH;refine call_meets F.slot_list_append ⟨_,e,rfl⟩ F.entry_list_append (F.args_list_append_2 _ _) (PySem.list_append l its.toArray n u (by rw[xh];lia)) ⟨e,?_⟩;refine⟨.non,_,I.lset (its':=its++[u]) hH e (by simp) (r.append (.cons ru .nil)) ?_,rfl,q⟩;rw[zh,List.length_singleton];lia
def Qy:V->List V->Hp->VK->Prop:=fun x vs H Q=>∃l b xs zs,x=.ref l/\vs=[.ref b]/\H l=some (.lst xs)/\H b=some (.lst zs)/\xs.length+zs.length<=sizeLine/\Q .non (upd H l (.lst (xs++zs)))
theorem JD:MtM X "list.extend" Qy:=by
 intro pins s Z H x vs v us Q I rx rv h;obtain⟨l,b,xs,zs,rfl,rfl,hH,hB,hz,q⟩:=h;cases rx;obtain⟨u,rfl,ru⟩:=rv.one;cases ru;obtain⟨z,its,n,r,hl,e⟩:=I.lstM hH;obtain⟨z2,its2,n2,r2,hl2,e2⟩:=I.lstM hB;have hsz:its.toArray.size+its2.toArray.size<=sizeLine:=by rw[xh,xh];lia
 have hlong:¬(!its.toArray.isEmpty&&Builtin.List.listTooLong (its.toArray.size+its2.toArray.size))=true:=by
  rw[Zi hsz,Bool.and_false];exact zi
 refine call_meets F.slot_list_extend ⟨_,e,rfl⟩ F.entry_list_extend (F.args_list_extend_2 _ _)
  (AutoSeq1.list_extend_list_list_0 l its.toArray n b its2.toArray n2 hlong (by rw[xh];lia) ⋯) ⟨e,e2,?_⟩
 refine⟨.non,_,I.lset (its':=its++its2) hH e (by simp) (r.append r2) ?_,rfl,q⟩;rw[zh];lia
def ACh:R2:=fun x y H Q=>∃l b xs zs,x=.ref l/\y=.ref b/\H l=some (.lst xs)/\H b=some (.lst zs)/\xs.length+zs.length<=sizeLine/\∀p,H p=none->Q (.ref p) (upd H p (.lst (xs++zs)))
theorem cO:OpR X (binaryOp .Add) ACh:=by
 intro pins s Z H x y v u Q I rx ry h;obtain⟨l,b,xs,zs,rfl,rfl,hH,hB,hz,q⟩:=h;cases rx;cases ry;obtain⟨z,its,n,r,hl,e⟩:=I.lstM hH;obtain⟨z2,its2,n2,r2,hl2,e2⟩:=I.lstM hB;refine PySem.P.add_list e e2 ?_ (by rw[xh,xh];lia);have ea:its.toArray++its2.toArray=(its++its2).toArray:=by simp
 rw[ea];exact⟨.ref _,_,I.lnew (t':=s.toks) (r.append r2) (by rw[zh];lia),rfl,q _ I.fresh⟩
def ACe:R2:=fun x y H Q=>∃l k xs,x=.ref l/\y=.int k/\H l=some (.lst xs)/\ -(2^63)<=k/\k<2^63/\xs.length*k.toNat<=sizeLine/\
 ∀p,H p=none->Q (.ref p) (upd H p (.lst (List.replicate k.toNat xs).flatten))
theorem len_rep{α:Type}(xs:List α)(k:Nat):(List.replicate k xs).flatten.length=k*xs.length:=by
 induction k with
 | zero=>simp
 | succ k ih=>rw[ja5,je8,zh,ih,jl7,Nat.add_comm]
theorem cN:OpR X (binaryOp .Mult) ACe:=by
 intro pins s Z H x y v u Q I rx ry h;obtain⟨l,k,xs,rfl,rfl,hH,h1,h2,hz,q⟩:=h;cases rx;obtain⟨t,rfl⟩:=ry;obtain⟨z,its,n,r,hl,e⟩:=I.lstM hH;have hlen:its.toArray.size*k.toNat<=sizeLine:=by rw[xh,<-hl];exact hz
 have hcap:¬its.toArray.size*k.toNat>(2^63-1)/8:=by
  have:(sizeLine:Nat)<=(2^63-1)/8:=nofun;lia
 have hfit:¬(!Builtin.List.listFitsIndex k)=true:=by
  rw[fitsIndex_both h1 h2];exact zi
 have hlong:¬Builtin.List.listTooLong (its.toArray.size*k.toNat)=true:=by
  rw[Zi hlen];exact zi
 have hnew:List.foldl (fun x1 x2=>x1++x2) #[] (List.replicate (if its.toArray.isEmpty=true then 0 else k.toNat) its.toArray)=(List.replicate k.toNat its).flatten.toArray:=by
  have f0:∀m:Nat,List.foldl (fun x1 x2=>x1++x2) #[] (List.replicate m its.toArray)=(List.replicate m its).flatten.toArray:=fun m=>by
   have:=foldl_rep its m [];rw[jk2] at this;exact this
  rw[f0];cases its with
  | nil=>simp
  | cons a r'=>rw[xp (by simp)]
 refine wpAny_binaryOp_repeat_ref (T:="list") (U:="int") nofun ⟨_,e,rfl⟩ (fun s'=>typeIs_int s' k t) noFill_list_mul F.fills_int_mul F.slot_int_rmul repeat_list F.slot_int_index.lookup
  (call_meets F.slot_int_rmul (typeIs_int s k t) F.entry_int_rmul (F.args_int_rmul_2 _ _) (int___rmul___int_list k t l its.toArray n)
   ⟨e,rfl,⟨_,e,rfl⟩,call_meets F.slot_list_mul ⟨_,e,rfl⟩ F.entry_list_mul (F.args_list_mul_2 _ _) (AutoListH.list___mul___list_int_3 l its.toArray n k t hfit hcap hlong) ⟨e,?_⟩⟩)
 rw[hnew];exact⟨.ref _,_,I.lnew (t':=s.toks) (r.rep k.toNat) (by rw[len_rep,Nat.mul_comm];exact hz),rfl,q _ I.fresh⟩
end
section
variable{prog:Program}{w:World}{A:Around}{E:Value->Shared->Prop}{s:Shared}
end
section
variable{X:Cx}
end
end L2
namespace Att
open PySem PySem.W PySem.Calls PyProof.Rows
theorem Qd{P:Params}{h:Heap}:∀(ns:List Int) (vs:List Value),WellAll P h vs (ns.map WData.int)->IntsAre vs ns:=by
 intro ns
 induction ns with
 | nil=>
  intro vs w;rw[jl6] at w;cases w;exact .nil
 | cons n ns ih=>
  intro vs w;rw[zw] at w;cases w with
  | cons a b=>
   cases a;exact .cons _ _ (ih _ b)
theorem jE{l:OpenLaw}{n:Nat}(hn:l.most=some n){P:Params}{h:Heap}{args:List WData}{vals:List Value}
 (hpre:l.row.toRowW.claim.pre args=true)(hwl:WellAll P h vals args):
 ∃a vs ns,vals=[Value.ref a]/\args=[WData.list (ns.map WData.int)]/\h.get? a=some { cls:=.type "list",data:=.seq vs.toArray }/\IntsAre vs ns/\ns.length<=n:=by
 have hsh:WShape.hasAll [] args [.list .int]=true:=(pre_splitW hpre).1;have hc:l.pre.holds [] { args:=args }=true:=(pre_splitW hpre).2;obtain⟨d,r,rfl,h1,h2⟩:=hasAllW_cons hsh;obtain rfl:=hasAllW_nil h2;obtain⟨xs,rfl,h3⟩:=hasW_list h1;obtain⟨ns,rfl⟩:=items_int h3;have hlen:ns.length<=n:=by
  unfold OpenLaw.pre at hc;have h4:(WTm.not (.lt (.lit (.int (n:Int))) (.len (.arg 0)))).holds [] { args:=[.list (ns.map .int)] }=true:=by
   have h4:=(holds_andW hc).1;rw[hn] at h4;exact h4
  have h5:=condW_of h4 (w_not (w_lt w_lit (w_len_list (w_arg rfl))));rw[jp] at h5;refine Nat.le_of_not_lt fun q=>?_;have q':(n:Int)<((ns.length:Nat):Int):=⋯
  first
   | (rw [decide_eq_true q'] at h5;exact absurd h5 nofun)
   | (simp at h5;lia)
 cases hwl with
 | cons w1 w2=>
  cases w2;cases w1 with
  | list ho hall=>exact⟨_,_,ns,rfl,rfl,ho,Qd ns _ hall,hlen⟩
theorem jW(l:OpenLaw)(args:List WData):l.row.toRowW.claim.post args (.bool true) args=true:=
 postW_of (r:=l.row.toRowW) (X:=(true==true))
  (show WShape.has [] (.bool true) .bool=true by first | rfl | decide | simp[WShape.has,WShape.arms,WShape.armsAll])
  (show (WTm.eq .res (.lit (.bool true))).value [] { args:=args,res:=some (.bool true),after:=args }=some (.bool (true==true)) from w_eq_bool (w_res rfl) w_lit) rfl
section
variable{prog:Program}{w:World}{A:Around}{E:Value->Shared->Prop}{s:Shared}{K:Frag}
end
end Att
namespace L2
open PySem PySem.Spec PyProof.Rows
theorem Vh:∀{vs:List Value} {ns:List Int},IntsAre vs ns->Vals (ns.map V.int) vs
 | _,_,.nil=>.nil
 | _,_,.cons n t h=>.cons ⟨t,rfl⟩ (Vh h)
def Only(H:Hp):Prop:=∀b,H b=none\/∃o xs,H b=some (.frz o (.lst xs))
theorem qD{P:Program}{w:World}{K:Fr}{mg mb:Str->Option Value}{CX:CXT}{k:Nat}{fa a:Addr}{fd:FuncData}{x:Str}{sp:Sp}{s₁:Shared}{vs:List Value}{ns:List Int}
 (KX:K.In s₁.heap)(hns:s₁.heap.Ns mainGlobals mg)(hb:s₁.heap.Ns builtinsNs mb)(hbb:∀x:Str,x≠"__name__"->mb x=bootBuiltins x)(hlim:s₁.heap.NoLimit)(hg:s₁.gens= #[])
 (ha:s₁.heap.get? a=some { cls:=.type "list",data:=.seq vs.toArray })(hi:IntsAre vs ns)(hl:ns.length<=sizeLine)(hr:Ek k callerA)
 (F:∀base:Heap,K.In base->base.Ns mainGlobals mg->FN P w K mg base CX k fa fd [x] sp)(hbind:∀(s:Shared) (u:Value),BindsTo s fd ⟨[u],[]⟩ [(x,u)])
 (hsp:∀H:Hp,Only H->SqL K H a (ns.map V.int)->sp [.ref a] H (fun v _=>v=.bl true) fun _ _ _=>False)
 (hCX:∀H e s',CX [] H s₁ (fun _ _ _=>False) e s'->False):
 codeAny (model P w) callerA (.call (.ref fa) ⟨[.ref a],[]⟩) (fun r s'=>r=.ok (.ret (.bool true))/\OldK s₁.heap s'.heap/\s'.os=s₁.os/\AllBare s'.gens) s₁:=by
 have rv:=Vh hi;have lenV:=hi.length;have core:∀H:Hp,Only H->SqL K H a (ns.map V.int)->HOk P w H s₁.heap->(∀b,H b≠none->b=a)->(H a≠none->K.lookup a=none)->
  codeAny (model P w) callerA (.call (.ref fa) ⟨[.ref a],[]⟩) (fun r s'=>r=.ok (.ret (.bool true))/\OldK s₁.heap s'.heap/\s'.os=s₁.os/\AllBare s'.gens) s₁:=by
  intro H hO hS hok hA hK;have ab:∀{b:Addr} {o:Obj},s₁.heap.get? b=some o->H b=none->(X5 s₁.heap H).get? b=some o:=fun e n=>qQ e n;have noA:∀{b:Addr} {o:Obj} {es:Array DictEntry} {ep:Nat},s₁.heap.get? b=some o->o.data=.dict es ep->H b=none:=fun{b o es ep} e d=>by
   cases q:H b with
   | none=>rfl
   | some u=>
    have e':b=a:=hA b (by rw[q];simp);subst e';rw[ha] at e;cases e;have d':Data.seq vs.toArray _=Data.dict es ep:=d;cases d'
  have nsK:∀{b:Addr} {m:Str->Option Value},s₁.heap.Ns b m->(X5 s₁.heap H).Ns b m:=fun{b m} ⟨o,es,ep,e,d,r⟩=>⟨o,es,ep,ab e (noA e d),d,r⟩;have hKb:K.In (X5 s₁.heap H):=fun b o e=>ab (KX b o e) (by
   cases q:H b with
   | none=>rfl
   | some u=>
    have e':b=a:=hA b (by rw[q];simp);subst e';rw[hK (by rw[q];simp)] at e;cases e)
  have hM:Mod K mg (X5 s₁.heap H):=⟨hKb,nsK hns,⟨mb,nsK hb,hbb⟩,let ⟨mc,h1,h2⟩:=hlim;⟨mc,nsK h1,h2⟩⟩;have e0:du P w K mg (X5 s₁.heap H) callerA [] s₁ H:=⟨rfl,hM,fun b o e=>u6 e,jq2 (jy _ _),trivial,fun b hb=>absurd (show b∈([]:List Addr) from hb) (by simp),hok,.of_eq hg⟩;refine jo1 ((F _ hKb (nsK hns)).run callerA [] s₁ H ⟨[.ref a],[]⟩ [.ref a] [.ref a] _ _ hr e0 (hbind s₁ (.ref a)) (.cons rfl .nil) (hsp H hO hS)) fun r s' h=>?_;cases r with
  | error e=>exact(hCX H e s' h).elim
  | ok fl=>
   cases fl with
   | next=>exact False.elim h
   | brk=>exact False.elim h
   | cont=>exact False.elim h
   | ret u=>
    obtain⟨v,H',os,bare,un,hok',r',q⟩:=h;have q':v=.bl true:=q;subst q';obtain rfl:u=Value.bool true:=r';refine⟨rfl,OldK.of_keep fun b o e=>?_,os,bare⟩;cases q:H b with
    | none=>exact un.keep b o e q (by intro z;exact absurd (show b∈([]:List Addr) from z) (by simp)) (by simp)
    | some u=>
     rcases hO b with z | ⟨ob,xs,z⟩
     ·rw[q] at z;cases z
     ·have z2:=un.frzs b ob _ z;obtain⟨e1,_⟩:=hok b _ z;obtain⟨e2,_⟩:=hok' b _ z2;rw[e] at e1;cases e1;exact e2
 cases hk:K.lookup a with
 | some o=>
  have e:=KX a o hk;rw[ha] at e;cases e;refine core (fun _=>none) (fun _=>.inl rfl) (.inr ⟨_,vs.toArray,_,hk,rfl,rfl,rfl,by rw[xh,lenV];exact hl,by simpa using rv⟩) (fun b u z=>by have z':(none:Option HO)=some u:=z;cases z') (fun b z=>absurd rfl z) fun z=>absurd rfl z
 | none=>
  refine core (fun b=>if b=a then some (.frz { cls:=.type "list",data:=.seq vs.toArray } (.lst (ns.map V.int))) else none) (fun b=>?_) (.inl (.inr ⟨{ cls:=.type "list",data:=.seq vs.toArray },xy rfl⟩)) (fun b u z=>?_) (fun b z=>?_) fun _=>hk
  ·by_cases hb:b=a
   ·exact .inr ⟨_,_,xy hb⟩
   ·exact .inl (xp hb)
  ·by_cases hb:b=a
   ·have z':=(xy hb).symm.trans z;cases z';subst hb;exact⟨ha,by rw[jp];exact hl,vs,_,rv,ha⟩
   ·have z':=(xp hb).symm.trans z;cases z'
  ·by_cases hb:b=a
   ·exact hb
   ·exact absurd (xp hb) z
noncomputable def inClass(s:Stmt)(j:Nat):Stmt:=match s with
 | .ClassDef _ _ _ body _ _ _ _ _ _ _=>body.getD j (.Pass ⟨0,0,0,0⟩)
 | _=>.Pass ⟨0,0,0,0⟩
noncomputable def FZ(s:Stmt):Arguments:=match s with
 | .FunctionDef _ a _ _ _ _ _ _ _ _=>a
 | _=>{ posonlyargs:=[],args:=[],vararg:=none,kwonlyargs:=[],kw_defaults:=[],kwarg:=none,defaults:=[] }
noncomputable def Df(s:Stmt):List Stmt:=match s with
 | .FunctionDef _ _ b _ _ _ _ _ _ _=>b
 | _=>[]
noncomputable def BX(s:Stmt):Scope:=match s with
 | .FunctionDef _ _ _ _ _ _ sc _ _ _=>sc
 | _=>{ kind:=.function,names:=[],isGenerator:=false,isCoroutine:=false }
abbrev CX0:CXT:=fun _ _ _ _ _ _=>False
abbrev E0:XK:=fun _ _ _=>False
theorem MT{X:Cx}:Kf CX0 X E0:=fun _ _ _ _ _ _ _ h=>h.elim
structure Fun(K:Fr)(x qual:Str)(st:Stmt)(f:Addr)(fd:FuncData):Prop where
 ex:∃(oc:Value) (od:Option Addr) (kV doc pm:Value) (an:Option Addr) (cdv ct:Value) (osl:Array (Option Value)),
  fd=PySem.W.fnOf x qual (FZ st) (Df st) (BX st) .none kV doc pm an cdv ct/\K.lookup f=some ⟨oc,od,.func fd,osl⟩/\PySem.W.codeIn K cdv qual=true
 kp:PySem.W.keepIn K (.ref f)=true
section
variable{P:Program}{w:World}{K:Fr}{mg:Str->Option Value}{base:Heap}
theorem Fun.ok{x qual:Str}{st:Stmt}{f:Addr}{fd:FuncData}{N ps:List Str}{k:Nat}{sp:Sp}(F:Fun K x qual st f fd)(S:Cy N ps (BX st))(len:∀{vs H Q E},sp vs H Q E->vs.length=ps.length)
 (hbody:∀{cdv:Value} {A:Around} {outer:List Env} {s:Shared} (nd:N.Nodup) (H:Hp) (vs:List V) (Q:VK) (E:XK),Ek k (A.deeper (envOfC qual (BX st) s.heap.objs.size f cdv))->sp vs H Q E->
  ∃t,PSs (VR CX0 P w K mg base N qual (BX st) f cdv A outer s H E).nox (Df st) t/\t { nx:=fun _ H'=>Q .non H',rt:=Q } (start N vs) H):FN P w K mg base CX0 (k+1) f fd ps sp:=by
 obtain⟨oc,od,kV,doc,pm,an,cdv,ct,osl,rfl,lk,hcd⟩:=F.ex;refine yC lk hcd S (fun _ _ _ _=>len) fun A outer s H vs Q E hr hsp=>?_;obtain⟨t,h,q⟩:=hbody S.nd H vs Q E hr hsp;exact⟨t,h.nox,q⟩
theorem Fun.binds{x qual:Str}{st:Stmt}{f:Addr}{fd:FuncData}{ps:List Str}(F:Fun K x qual st f fd)
 (h:∀(kV doc pm:Value) (an:Option Addr) (cdv ct:Value) (us:List Value),us.length=ps.length->bindArgs (PySem.W.fnOf x qual (FZ st) (Df st) (BX st) .none kV doc pm an cdv ct) ⟨us,[]⟩=pure (ps.zip us)):Binds K fd ps []:=by
 obtain⟨oc,od,kV,doc,pm,an,cdv,ct,osl,rfl,lk,hcd⟩:=F.ex;exact .all (h kV doc pm an cdv ct)
theorem qW{x qual:Str}{st:Stmt}{f:Addr}{oc:Value}{od an:Option Addr}{osl:Array (Option Value)}{kV doc pm cdv ct:Value}(l:K.lookup f=some ⟨oc,od,.func (PySem.W.fnOf x qual (FZ st) (Df st) (BX st) .none kV doc pm an cdv ct),osl⟩)
 (c:PySem.W.codeIn K cdv qual=true)(k:PySem.W.keepIn K (.ref f)=true):Fun K x qual st f (PySem.W.fnOf x qual (FZ st) (Df st) (BX st) .none kV doc pm an cdv ct):=⟨⟨oc,od,kV,doc,pm,an,cdv,ct,osl,rfl,l,c⟩,k⟩
end
theorem gP{A:Around}{k:Nat}(hr:Ek k A):A.units+1<cLine:=vb (jl4 (by decide:1<=64) _) hr.units
theorem Dz{n:Nat}(h:n<=1000):n<sizeLine:=vb h nofun
section
variable{X:Cx}
theorem pv(i:Nat){x:Str}{pos:Pos}(hN:‹X.N[i]?=some x›)(hv:Vis X.env.scope x:=by first | exact Or.inl rfl | exact Or.inr (Or.inl rfl) | exact Or.inr (Or.inr rfl))(hd:(x==("__debug__":Str))=false:=by decide)
 (hcd:(x==("__classdict__":Str))=false:=by decide):PE X (.Name x pos) (Gp i):=o7 hN hv hd hcd
end
theorem Eg{A B:Prop}(h:B):if false=true then A else B:=by
 rw[xp zi];exact h
theorem Fe{A B:Prop}(h:A):if true=true then A else B:=by
 rw[xy rfl];exact h
theorem Gh{c A B:Prop}[Decidable c](hc:c)(h:B):if (!decide c)=true then A else B:=by
 rw[decide_eq_true hc];exact Eg h
def Az(H H':Hp):Prop:=∀b o,H b=some o->H' b=some o
theorem Az.refl(H:Hp):Az H H:=fun _ _ h=>h
theorem Az.trans{H H1 H2:Hp}(a:Az H H1)(b:Az H1 H2):Az H H2:=fun c o h=>b c o (a c o h)
theorem Az.free{H H':Hp}(e:Az H H'){l:Addr}(h:H' l=Option.none):H l=Option.none:=by
 cases q:H l with
 | none=>rfl
 | some o=>
  rw[e l o q] at h;cases h
theorem Az.seq{K:Fr}{H H':Hp}{a:Addr}{xs:List V}(e:Az H H')(h:SqL K H a xs):SqL K H' a xs:=by
 rcases h with (h | ⟨o,h⟩) | h
 ·exact .inl (.inl (e _ _ h))
 ·exact .inl (.inr ⟨o,e _ _ h⟩)
 ·exact .inr h
end L2
set_option maxHeartbeats 4000000
namespace L2
open PySem PySem.Spec PyProof.Rows
def Bt(k:Nat)(x:Int):Prop:=x.natAbs<2^k
theorem Bt.bits{k:Nat}{x:Int}(h:Bt k x):Builtin.Int.intBits x<=k:=PySem.intBits_le_iff.mpr h
theorem Bt.mono{k m:Nat}{x:Int}(h:Bt k x)(l:k<=m):Bt m x:=xk h (kc nofun l)
theorem Bt.le{k:Nat}{x y:Int}(h:Bt k y)(l:x.natAbs<=y.natAbs):Bt k x:=vb l h
theorem Bt.mul{k m:Nat}{x y:Int}(h:Bt k x)(g:Bt m y):Bt (k+m) (x*y):=by
 unfold Bt at*
 rw[jn4,jp5];exact Nat.mul_lt_mul'' h g
theorem Bt.add{k:Nat}{x y:Int}(h:Bt k x)(g:Bt k y):Bt (k+1) (x+y):=by
 unfold Bt at*
 have:=Int.natAbs_add_le x y;rw[Nat.pow_succ];lia
theorem Bt.neg{k:Nat}{x:Int}(h:Bt k x):Bt k (-x):=by unfold Bt at *;lia
def iQ(i j:Int):Prop:=∃n m:Nat,Bt n i/\Bt m j/\n+m<=134217728
theorem iQ.ok{i j:Int}(h:iQ i j):IntMulOk i j:=by
 obtain⟨n,m,h1,h2,h3⟩:=h;have a:=h1.bits;have b:=h2.bits;have hs:((Builtin.Int.intBits i+Builtin.Int.intBits j:Nat):Int)<=2^27:=by
  have e:(2:Int)^27=134217728:=nofun;rw[e];lia
 have hb:Builtin.Int.intTooBig ((Builtin.Int.intBits i+Builtin.Int.intBits j:Nat):Int)=false:=decide_eq_false (Int.not_lt.mpr hs);unfold IntMulOk
 first
  | (rw [show (((Builtin.Int.intBits i:Nat):Int)+((Builtin.Int.intBits j:Nat):Int))=((Builtin.Int.intBits i+Builtin.Int.intBits j:Nat):Int) by lia,hb];simp)
  | (rw [hb];simp)
  | (intro z;simp only[vi] at z;simp_all)
variable{H:Hp}{Q:VK}
section
variable{X:Cx}{a b c:Expr}{ta tb tc:TE}{pos:Pos}
theorem Ca:OpR X (binaryOp .Mult) (rI iQ fun i j=>.int (i*j)):=opI fun _ _ _ _ _ _ _ hc q=>mul_int q hc.ok
theorem O7{j:Int}(h:Bt 9000 j):j.natAbs.log2<9000:=by
 by_cases h0:j.natAbs=0
 ·rw[h0];ac_rfl
 ·exact(Nat.log2_lt h0).mpr h
def sX(_ j:Int):Prop:=0<j/\Bt 9000 j
def ADc(_ j:Int):Prop:=j≠0/\Bt 9000 j
theorem Bg:OpR X (binaryOp .FloorDiv) (rI sX fun i j=>.int (i/j)):=opI fun i j _ _ _ _ _ hc q=>by
 have h1:(0:Int)<j:=hc.1;exact floordiv_int ⋯ (by rw[Int.fdiv_eq_ediv_of_nonneg i ⋯];exact q) (.inl (PyProof.noPylong_of_log2 (O7 hc.2)))
theorem pL:OpR X (binaryOp .FloorDiv) (rI ADc fun i j=>.int (i.fdiv j)):=opI fun i j _ _ _ _ _ hc q=>
 floordiv_int hc.1 q (.inl (PyProof.noPylong_of_log2 (O7 hc.2)))
def AEf(i j:Int):Prop:=0<=j/\∃n:Nat,Bt n i/\(n:Int)+j<=134217728
theorem Mf:OpR X (binaryOp .LShift) (rI AEf fun i j=>.int (i*2^j.toNat)):=opI fun i j _ _ _ _ _ hc q=>by
 obtain⟨h0,n,hn,h1⟩:=hc;have:=hn.bits;refine lshift_int h0 ?_ q;have e:(2:Int)^27=134217728:=nofun;rw[e];lia
def zq(K:Fr):List V->Hp->VK->Prop:=fun xs H Q=>∃x c t b,xs=[x,.ty c]/\M3 K H x t/\PySem.W.kitOne K t (.type c)=some b/\Q (.bl b) H
theorem Tr:IV X (.builtin "isinstance") (zq X.K):=by
 intro pins s Z H xs us Q I r h;obtain⟨x,c,t,b,rfl,ty,e,q⟩:=h;obtain⟨u,w',rfl,r1,r2⟩:=vals2 r;cases (show w'=Value.type c from r2);exact jt I r1 ty e fun tk=>⟨.bl b,H,I.tok tk,rfl,q⟩
structure Cal(P:Program)(w:World)(K:Fr)(mg:Str->Option Value)(base:Heap)(k:Nat)(x:Str)(ps:List Str)(sp:Sp):Prop where
 ex:∃(f:Addr) (fd:FuncData),FN P w K mg base CX0 k f fd ps sp/\Binds K fd ps []/\PySem.W.keepIn K (.ref f)=true/\mg x=some (.ref f)
theorem Ag{k:Nat}{x:Str}{ps:List Str}{sp:Sp}{e:Expr}{es:List Expr}{t:TA}{p:Pos}(C:Cal X.prog X.w X.K X.mg X.base k x ps sp)(ha:PA X (e::es) t)(hr:Ek k X.A:=by walk_at"hr")(hg:Gl X x:=by exact rfl)
 (hdb:(x==("__debug__":Str))=false:=by decide)(he:‹starEach (e::es) X.env=(false,eval e X.env)::starEach es X.env›)(hpl:‹(backTo pos (starEach es X.env)).any (·.1)=false›):
 PE X (.Call (.Name x p) (e::es) [] pos) (Jl sp [] E0 t):=by
 obtain⟨f,fd,F,b,kp,m⟩:=C.ex;exact ut F hr hg m kp b .nil MT ha hdb he hpl
def ABo(t:TS):TS:=fun D Z H=>∃J:St->Hp->Prop,t { D with nx:=J } Z H/\∀Z' H',J Z' H'->D.nx Z' H'
theorem Do{st:Stmt}{t:TS}(h:PS X st t):PS X st (ABo t):=by
 intro pins s Z H D I hw;obtain⟨J,h1,h2⟩:=hw;refine thn (h s Z H { D with nx:=J } I h1) fun f s1 q=>?_;cases f with
 | next=>
  obtain⟨Z',H',I',q⟩:=q;exact⟨Z',H',I',h2 _ _ q⟩
 | ret v=>exact q
 | brk=>exact q
 | cont=>exact q
theorem DG{t:TS}{D:Ends}{Z:St}(J:St->Hp->Prop)(h1:t { D with nx:=J } Z H)(h2:∀Z' H',J Z' H'->D.nx Z' H'):ABo t D Z H:=⟨J,h1,h2⟩
theorem ACb{g:Int->Int->V}{i j:Int}(h:Q (g i j) H):rI0 g (.int i) (.int j) H Q:=⟨i,j,rfl,rfl,h⟩
theorem Dn{C:Int->Int->Prop}{g:Int->Int->V}{i j:Int}(c:C i j)(h:Q (g i j) H):rI C g (.int i) (.int j) H Q:=⟨i,j,rfl,rfl,c,h⟩
theorem ADq{g:Int->V}{i:Int}(h:Q (g i) H):rU g (.int i) H Q:=⟨i,rfl,h⟩
theorem ACc{x y:V}(s:uT x y=true)(h:Q (.bl (decide (x=y))) H):rEq x y H Q:=⟨s,h⟩
theorem ACZ{x y:V}(s:uT x y=true)(h:Q (.bl (!decide (x=y))) H):rNe x y H Q:=⟨s,h⟩
theorem fQ{k:Bool}{Q:Bool->Prop}(h:Q k):∃k',V.bl k=.bl k'/\Q k':=⟨k,rfl,h⟩
theorem cB(n:String):RelV (.ty n) (.type n):=rfl
theorem Cq(i:Int)(t:Tok):RelV (.int i) (.int i t):=⟨t,rfl⟩
theorem GJ{Z:St}{Q:List V->Hp->Prop}(h:Q [] H):Iz Z H Q:=h
theorem Ih{K:Fr}{n:Nat}{t:TGs}{a:Addr}{xs:List V}{Z:St}{Q:St->Hp->Prop}(hs:SqT K H a xs)(hl:xs.length=n)(h:t xs Z H Q):qU K n t (.ref a) Z H Q:=⟨a,xs,rfl,hs,hl,h⟩
theorem oU{t:TG}{u:TGs}{v:V}{r:List V}{Z:St}{Q:St->Hp->Prop}(h:t v Z H fun Z' H'=>u r Z' H' Q):V4 t u (v::r) Z H Q:=⟨v,r,rfl,h⟩
theorem ue{Z:St}{Q:St->Hp->Prop}(h:Q Z H):vW [] Z H Q:=⟨rfl,h⟩
theorem Aw{K:Fr}{p:Addr}{xs:List V}{i:Int}{v:V}(hs:SqT K H p xs)(e:atI xs i=some v)(h:Q v H):uo K (.ref p) (.int i) H Q:=⟨p,xs,i,v,rfl,rfl,hs,e,h⟩
theorem BR{K:Fr}{p:Addr}{xs:List V}{i:Int}{v:V}(hs:SqL K H p xs)(e:atI xs i=some v)(h:Q v H):zp K (.ref p) (.int i) H Q:=⟨p,xs,i,v,rfl,rfl,hs,e,h⟩
theorem Rz{K:Fr}{x:V}{c:String}{t:Value}{b:Bool}(ty:M3 K H x t)(e:PySem.W.kitOne K t (.type c)=some b)(h:Q (.bl b) H):zq K [x,.ty c] H Q:=⟨x,c,t,b,rfl,ty,e,h⟩
theorem Gy{c A B:Prop}[Decidable c](hc:c)(h:A):if decide c=true then A else B:=by
 rw[decide_eq_true hc];exact Fe h
theorem CT{c A B:Prop}[Decidable c](hc:¬c)(h:B):if decide c=true then A else B:=by
 rw[decide_eq_false hc];exact Eg h
theorem Zq{c A B:Prop}[Decidable c](hc:¬c)(h:A):if (!decide c)=true then A else B:=by
 rw[decide_eq_false hc];exact Fe h
theorem Cd{c A B:Prop}[Decidable c](h1:c->A)(h2:¬c->B):if decide c=true then A else B:=by
 by_cases h:c
 ·exact Gy h (h1 h)
 ·exact CT h (h2 h)
theorem Az.tup{K:Fr}{H':Hp}{a:Addr}{xs:List V}(e:Az H H')(h:SqT K H a xs):SqT K H' a xs:=by
 rcases h with (h | ⟨o,h⟩) | h
 ·exact .inl (.inl (e _ _ h))
 ·exact .inl (.inr ⟨o,e _ _ h⟩)
 ·exact .inr h
theorem Ar{p:Addr}(h:H p=none)(o:HO):Az H (upd H p o):=fun b u q=>by rw[BK (Bu q h)];exact q
theorem G7{i j:Int}(h0:0<j)(h1:j<18446744073709551616):sX i j:=⟨h0,Bt.mono (k:=64) (by unfold Bt;lia) nofun⟩
theorem oZ(k:Nat):(0:Int)<1*2^k:=by
 have e:(1:Int)*2^k=((2^k:Nat):Int):=by rw[jh4];simp
 rw[e];have:=Zp k;lia
theorem Dm(x y:Nat):Builtin.bitAnd (x:Int) (y:Int)=((x &&& y:Nat):Int):=PyProof.Rows.bitAnd_pp (jm0 x) (jm0 y)
theorem Up(x:Nat):decide ((0:Int)<=Builtin.bitNot (x:Int))=false:=decide_eq_false (by unfold Builtin.bitNot;lia)
theorem Gm(x y:Nat):Builtin.bitOr (x:Int) (y:Int)=((x ||| y:Nat):Int):=by
 have e:∀z:Int,Builtin.bitNot (Builtin.bitNot z)=z:=fun z=>by unfold Builtin.bitNot;lia
 unfold Builtin.bitOr Builtin.bitAnd;rw[Up,Up];dsimp only;rw[e,e,e,xa,xa]
theorem Uo(x y:Nat):Builtin.bitXor (x:Int) (y:Int)=((x ^^^ y:Nat):Int):=by
 show Builtin.bitOr (x:Int) (y:Int)-Builtin.bitAnd (x:Int) (y:Int)=_;rw[Gm,Dm];have h:x ||| y=(x ^^^ y)+(x &&& y):=by
  have a:(x ^^^ y) &&& (x &&& y)=0:=by
   refine ka fun i=>?_;rw[ja1,jp6,ja1,jd5];cases x.testBit i<;>cases y.testBit i<;>rfl
  have b:x ||| y=(x ^^^ y) ||| (x &&& y):=by
   refine ka fun i=>?_;rw[jc8,jc8,jp6,ja1];cases x.testBit i<;>cases y.testBit i<;>rfl
  have c:=PyProof.Rows.bitOr_and ((x ^^^ y:Nat):Int) ((x &&& y:Nat):Int);rw[Gm,Dm,a,<-b] at c;lia
 lia
end
end L2
namespace Att
open PySem PySem.W PySem.Calls PyProof.Rows
theorem O1:∀{ns:List Int} {n:Int},n∈ns->Builtin.Int.intBits n<=WData.weightAll (ns.map WData.int)
 | m::ns,n,h=>by
  rw[zw];show _<=WData.weight (.int m)+1+WData.weightAll (ns.map WData.int);rcases zo.mp h with rfl | h
  ·have e:WData.weight (.int n)=Builtin.Int.intBits n:=by first | rfl | (unfold Builtin.Int.intBits;rfl) | simp[WData.weight,Builtin.Int.intBits]
   lia
  ·have:=O1 h;lia
theorem aY{ns:List Int}(h:WData.layableAll [WData.list (ns.map WData.int)]=true):∀n∈ns,L2.Bt 1048576 n:=fun n hn=>by
 have h1:WData.layable (WData.list (ns.map WData.int))=true:=(jl0.mp h).1;have h2:WData.weight (WData.list (ns.map WData.int))<=2^20:=jk8 (jl0.mp h1).2;have h3:=O1 hn;have e:WData.weight (WData.list (ns.map WData.int))=WData.weightAll (ns.map WData.int):=by first | rfl | simp[WData.weight]
 refine PySem.intBits_le_iff.mp ?_;lia
theorem attach_callB{l:OpenLaw}{n:Nat}{q:Program}{loose:List Str}{XP:(Str->Option Value)->Heap->Prop}{YP:World->Heap->Prop}{d:DefRec}
 (hn:l.most=some n)(hdf:d.params.defaults=[])
 (call:∀(w:World) (s₀ s₁:Shared) (mg mb:Str->Option Value) (fa:Addr) (o:Obj) (pm cd doc:Value) (a:Addr) (vs:List Value) (ns:List Int),
  Ground q loose [] XP w s₀ mg mb s₁.heap->YP w s₁.heap->
  s₁.heap.get? fa=some o->o.data=.func (docDef d.name d.params d.body d.scope pm cd doc)->s₁.heap.CodeRec cd d.name->mg d.name=some (.ref fa)->
  s₁.heap.get? a=some { cls:=.type "list",data:=.seq vs.toArray }->IntsAre vs ns->ns.length<=n->(∀n∈ns,L2.Bt 1048576 n)->s₁.gens= #[]->
  codeAny (model l.prog w) callerA (.call (.ref fa) ⟨[.ref a],[]⟩) (fun r s'=>r=.ok (.ret (.bool true))/\OldK s₁.heap s'.heap/\s'.os=s₁.os/\AllBare s'.gens) s₁):
 WalkO q loose XP YP l.row.toRowW d [] (fun f vs=>PySem.call f vs):=by
 intro w s₀ s₁ mg mb G Y fa o pm cd doc dV kV ho hd hcd hD hmg hg args vals as hpre hlay hrd hwl hlo;obtain rfl:dV=.none:=Dflts.none hD hdf;obtain rfl:kV=.none:=Dflts.noKw hD;obtain⟨a,vs,ns,rfl,rfl,hobj,hints,hlen⟩:=jE hn hpre hwl;refine enter_call (jo1 (call w s₀ s₁ mg mb fa o pm cd doc a vs ns G Y ho (fd_plain hd) hcd hmg hobj hints hlen (aY hlay) hg) fun r s' hq=>?_);obtain⟨rfl,h2,h3,h4⟩:=hq;exact⟨.inl ⟨.bool true,.bool true,[],rfl,fun _=>rfl,.bool true,jW l _,fun _=>⟨List.Pairwise.nil,fun _ hm=>(nomatch hm)⟩⟩,h2,h3,h4⟩
end Att
namespace L2
open PySem PySem.Spec PyProof.Rows
def fD(K:Fr):Sp:=fun vs H Q _=>∃(a:Addr) (ns:List Int),vs=[.ref a]/\SqL K H a (ns.map V.int)/\ns.length<=63/\(∀n∈ns,Bt 1048576 n)/\∀H',Q (.bl true) H'
theorem lX{l:PySem.W.OpenLaw}{k:Nat}{q:Program}{loose:List Str}{XP:(Str->Option Value)->Heap->Prop}{YP:World->Heap->Prop}{d:DefRec}{K:Params->Fr}
 (hn:l.most=some 63)(hdf:d.params.defaults=[])(hr:Ek k callerA)
 (hY:∀(w:World) (h:Heap),YP w h->(K w.params).In h)
 (F:∀(w:World) (mg:Str->Option Value) (fa:Addr) (h:Heap),(K w.params).In h->h.Ns mainGlobals mg->mg d.name=some (.ref fa)->
  ∃fd:FuncData,(∀(s:Shared) (u:Value),BindsTo s fd ⟨[u],[]⟩ [("_law_script",u)])/\
   ∀base:Heap,(K w.params).In base->base.Ns mainGlobals mg->FN l.prog w (K w.params) mg base CX0 k fa fd ["_law_script"] (fD (K w.params))):
 PySem.W.WalkO q loose XP YP l.row.toRowW d [] (fun f vs=>PySem.call f vs):=by
 refine Att.attach_callB hn hdf fun w s₀ s₁ mg mb fa o pm cd doc a vs ns G Y ho hd hcd hmg hobj hints hlen hbits hg=>?_;have KX:=hY w _ Y;obtain⟨fd,hb,hF⟩:=F w mg fa _ KX G.T.g hmg;exact qD KX G.T.g G.T.b G.T.builtins G.T.nolimit hg hobj hints (zv hlen nofun) hr hF hb (fun H hO hS=>⟨a,ns,rfl,hS,hlen,hbits,fun _=>rfl⟩) fun H e s'=>fun z=>z
noncomputable def La(X:Cx)(M:List Str)(x:Str)(scope:Scope)(cl:List (Str×Addr))(C:Addr)(s₀:Shared)(H₀:Hp)(fp:List Addr):Cx:=
 { X with N:=x::M,s₀:=s₀,H₀:=H₀,env:=compEnvC scope cl C X.env,outer:=X.stack,ex:=fp,fn:=fun _=>false,pn:=[],xe:=fun _ _=>False }
noncomputable def DP(X:Cx)(M:List Str)(xs:List Str)(scope:Scope)(cl:List (Str×Addr))(C:Addr)(s₀:Shared)(H₀:Hp)(fp:List Addr):Cx:=
 { X with N:=xs++M,s₀:=s₀,H₀:=H₀,env:=compEnvC scope cl C X.env,outer:=X.stack,ex:=fp,fn:=fun _=>false,pn:=[],xe:=fun _ _=>False }
structure M8(X:Cx)(M:List Str)(xs:List Str)(scope:Scope)(cl:List (Str×Addr)):Prop where
 clos:closureFor scope X.env=pure cl
 cell:∀y∈scope.names,y.2≠.cell
 kind:scope.kind=.function
 names:∀y∈scope.names,y.2=.local->scope.names.lookup y.1=some .local
 xl:∀x∈xs,scope.names.lookup x=some .local
 nd:(xs++M).Nodup
 len:M.length=X.N.length
 sub:∀y c,cl.lookup y=some c->X.env.cells.lookup y=some c
 has:∀y,((relabel scope X.env).names.lookup y=some .cell\/(relabel scope X.env).names.lookup y=some .free)->∃c,cl.lookup y=some c
 vis:∀(i:Nat) (y:Str),M[i]?=some y->Vis (relabel scope X.env) y->X.N[i]?=some y/\((relabel scope X.env).names.lookup y=some .cell\/(relabel scope X.env).names.lookup y=some .free)/\(X.env.scope.names.lookup y=some .cell\/X.env.scope.names.lookup y=some .free)
abbrev Ut(X:Cx)(M:List Str)(x:Str)(scope:Scope)(cl:List (Str×Addr)):Prop:=M8 X M [x] scope cl
def dZ(X:Cx)(ifs:List Expr)(t:TT):Prop:=
 ∀(pins:List (Addr×Obj)) (s:Shared) (Z:St) (H:Hp) (Q:Bool->Hp->Prop),Inv X pins Z H s->t Z H Q->
  wpAny (model X.prog X.w) X.A (forIn ifs true fun c r=>if r=true then do let ok <-isTrue c X.env (eval c X.env);pure (ForInStep.yield ok) else pure (ForInStep.yield r)) (TP X pins Z Q) X.xe s
def eN:TT:=fun _ H Q=>Q true H
variable{K:Fr}{Z:St}{H:Hp}{xs:List V}{scope:Scope}{elt iter:Expr}{pos:Pos}{tt:TT}{te:TE}{x:Str}{wi:TI}{Q:VK}{ta:TA}
section
variable{X:Cx}
theorem Ds:dZ X [] eN:=fun pins s Z H Q I h=>by
 rw[jq6];exact ya ⟨H,I,h⟩
theorem SJ{c:Expr}{t:TT}(hc:PT X c t):dZ X [c] t:=fun pins s Z H Q I h=>by
 rw[jm2];refine js ?_;rw[xy rfl];refine js (thn (hc s Z H Q I h) fun b s1 q=>ya ?_);dsimp only;rw[jq6];exact ya q
def Yn(wi:TI)(tt:TT)(te:TE):TE:=fun Z H Q=>wi Z H fun J H1=>∀D,H1 D=none->∃W:Nat->Nat->List V->Hp->Prop,(∃m,W 0 m [] (upd H1 D (.lst [])))/\
 ∀i m ys H2,W i m ys H2->H2 D=some (.lst ys)/\((J.stop i H2/\Q (.ref D) H2)\/(J.go i H2/\ys.length<sizeLine/\∃m',m'<m/\∀x H3,J.yld i H2 x H3->
  tt (some x::Z) H3 fun b H4=>if b=true then te (some x::Z) H4 fun y H5=>H5 D=some (.lst ys)/\W (i+1) m' (ys++[y]) (upd H5 D (.lst (ys++[y]))) else W (i+1) m' ys H4))
def iM(tt:TT)(te:TE)(Z:St)(Q:VK):It->Hp->Prop:=fun J H1=>∀D,H1 D=none->∃W:Nat->Nat->List V->Hp->Prop,(∃m,W 0 m [] (upd H1 D (.lst [])))/\
 ∀i m ys H2,W i m ys H2->H2 D=some (.lst ys)/\((J.stop i H2/\Q (.ref D) H2)\/(J.go i H2/\ys.length<sizeLine/\∃m',m'<m/\∀x H3,J.yld i H2 x H3->
  tt (some x::Z) H3 fun b H4=>if b=true then te (some x::Z) H4 fun y H5=>H5 D=some (.lst ys)/\W (i+1) m' (ys++[y]) (upd H5 D (.lst (ys++[y]))) else W (i+1) m' ys H4))
theorem q9{M:List Str}{pins:List (Addr×Obj)}{s:Shared}{xs:List Str}{cl:List (Str×Addr)}{C:Addr}{fp:List Addr}(I:Inv X pins Z H s)(ok:M8 X M xs scope cl)(hC:s.heap.objs.size<=C)
 (hf:∀b∈fp,Kh X pins H b)(hb:∀b∈fp,b<s.heap.objs.size):(DP X M xs scope cl C s H fp).Ok where
 mod:=I.ok.mod
 kind:=ok.kind
 glob:=I.ok.glob
 blt:=I.ok.blt
 above:=hC
 inj:=fun y z c h1 h2=>I.ok.inj y z c (ok.sub y c h1) (ok.sub z c h2)
 has:=ok.has
 cab:=fun y c h=>by cases h
 hd:=I.ok.hd
 frames:=I.ok.frames
 stk:=.inl rfl
 exf:=fun b h=>⟨ku (xk (hb b h) hC),fun y c e=>(hf b h).2.2.2.2.1 y c (ok.sub y c e)⟩
 bs:=I.bs
 bsz:=zv I.ok.bsz I.sz
 noex:=fun b o e h=>by
  rcases(hf b h).2.2.2.1 with z | z
  ·exact I.ok.noex b o e z
  ·exact absurd (xk (xi (I.ok.bs b o e).1) z) (jg4 _)
 exfs:=fun b h z=>by
  rcases zo.mp (I.stkSub b z) with e | e
  ·exact(hf b h).2.1 e
  ·exact(hf b h).2.2.1 e
 funs:=I.stack
 frf:=I.stkFree
def Us(k:Nat)(g:TG)(tt:TT)(te:TE)(Z:St)(Q:VK):It->Hp->Prop:=fun J H1=>∀D,H1 D=none->∃W:Nat->Nat->List V->Hp->Prop,(∃m,W 0 m [] (upd H1 D (.lst [])))/\
 ∀i m ys H2,W i m ys H2->H2 D=some (.lst ys)/\((J.stop i H2/\Q (.ref D) H2)\/(J.go i H2/\ys.length<sizeLine/\∃m',m'<m/\∀x H3,J.yld i H2 x H3->∀ρ:St,ρ.length=k->
  g x (ρ++Z) H3 fun σ2 H4=>∃ρ2:St,ρ2.length=k/\σ2=ρ2++Z/\tt σ2 H4 fun b H5=>if b=true then te σ2 H5 fun y H6=>H6 D=some (.lst ys)/\W (i+1) m' (ys++[y]) (upd H6 D (.lst (ys++[y]))) else W (i+1) m' ys H5))
def mR(k:Nat)(wi:TI)(g:TG)(tt:TT)(te:TE):TE:=fun Z H Q=>wi Z H (Us k g tt te Z Q)
section
variable{prog:Program}{w:World}{A:Around}{R:Result->Shared->Prop}
abbrev NB(prog:Program)(w:World)(A:Around)(env:Env)(R:Result->Shared->Prop):Value->Shared->Prop:=notedBy (model prog w) A env fun e s'=>R (.error e) s'
theorem dJ{s:Shared}{tg:Expr}{ifs:List Expr}{it acc:Value}{env:Env}(I:Nat->Shared->Prop)
 (turn:∀n s,I n s->wpAny (model prog w) A (pyNext it)
  (fun r s1=>match r with
   | none=>R (.ok .next) s1
   | some v=>wpAny (model prog w) A (letOwnedTupleGo tg it v)
    (fun _ s2=>wpAny (model prog w) A (assign tg env v)
     (fun _ s3=>wpAny (model prog w) A (forIn ifs true fun c r=>if r=true then (isTrue c env (eval c env) >>= fun ok=>pure (ForInStep.yield ok)) else pure (ForInStep.yield r))
      (fun b s4=>if b=true then wpAny (model prog w) A (eval elt env)
       (fun x s5=>wpAny (model prog w) A (call (.builtin "list.append") [acc,x]) (fun _ s6=>∃m,m<n/\I m s6) (NB prog w A env R) s5) (NB prog w A env R) s4
       else ∃m,m<n/\I m s4) (NB prog w A env R) s3) (NB prog w A env R) s2) (NB prog w A env R) s1) (NB prog w A env R) s)
 (n:Nat)(h:I n s):codeAny (model prog w) A (.compLoop (.ListComp elt [⟨tg,iter,ifs,0⟩] scope pos) 0 it acc env) R s:=by
 refine codeAny_loop rfl I (fun n s hI=>?_) n h;refine(show wpAny _ A ((compTurn (.ListComp elt [⟨tg,iter,ifs,0⟩] scope pos) 0 it acc env).onRaise _) _ _ s from wpAny_noted ?_);rw[compTurn_list];refine js (jo8 (js (ja9 (turn n s hI) (fun r s1 h1=>?_) fun _ _ z=>z)));cases r with
 | none=>exact ya h1
 | some v=>
  refine js (ja9 h1 (fun _ s2 h2=>?_) fun _ _ z=>z);refine js (ja9 h2 (fun _ s3 h3=>js (ja9 h3 (fun b s4 h4=>?_) fun _ _ z=>z)) fun _ _ z=>z);cases b with
  | false=>exact ya ⟨rfl,h4⟩
  | true=>
   refine js (js (ja9 h4 (fun x s5 h5=>?_) fun _ _ z=>z));exact js (ja9 h5 (fun _ s6 h6=>ya (ya ⟨rfl,h6⟩)) fun _ _ z=>z)
end
theorem Tq{M:List Str}{tg:Expr}{xs:List Str}{ifs:List Expr}{cl:List (Str×Addr)}{g:TG}(hc:X.calm=true)(ok:M8 X M xs scope cl)
 (ht:∀C s₀ H₀ fp,dZ (DP X M xs scope cl C s₀ H₀ fp) ifs tt)(hg:∀C s₀ H₀ fp,PG (DP X M xs scope cl C s₀ H₀ fp) tg g)(he:∀C s₀ H₀ fp,PE (DP X M xs scope cl C s₀ H₀ fp) elt te)
 {pins:List (Addr×Obj)}{Z:St}{H2:Hp}{s2:Shared}{it:Addr}{fp:List Addr}{tn:Nat->Heap->Prop}{J:It}{Q:VK}(I2:Inv X pins Z H2 s2)(T:Turn X.prog X.w X.K tg J fp it tn)(st2:tn 0 s2.heap)(f2:∀b∈fp,Kh X pins H2 b)
 (hW:Us xs.length g tt te Z Q J H2)(post:Value->Addr->Result->Shared->Prop)
 (fin:∀D C H3 s4,Inv X pins Z H3 s4->(∃m,s4.heap.Ns C m)->Kh X pins H3 C->Q (.ref D) H3->post (.ref D) C (.ok .next) s4):
 wpAny (model X.prog X.w) X.A (newList []) (fun acc s₃=>wpAny (model X.prog X.w) X.A (newFunctionEnv scope X.env.globals cl [] X.env.qual none .none (some X.env)) (fun cenv s₄=>
  codeAny (model X.prog X.w) X.A (.compStart (.ListComp elt [⟨tg,iter,ifs,0⟩] scope pos) 0 (.ref it) acc { cenv with scope:=relabel scope X.env }) (post acc cenv.locals) s₄) X.xe s₃) X.xe s2:=by
 refine jn3 (wpAny_newFunctionEnv ok.cell (by intro y hy;simp at hy) (fun h₁ hns₁ hsb₁=>?_) ok.kind);dsimp only at hns₁ hsb₁ ⊢;generalize hH2:s2.heap.push { cls:=.type "list",dict:=none,data:=.seq ([]:List Value).toArray }=G2 at hns₁ hsb₁ ⊢;have hC:G2.objs.size=s2.heap.objs.size+1:=by rw[<-hH2,jj0]
 have hDC:s2.heap.objs.size≠G2.objs.size:=by rw[hC];exact ku (jo5 _)
 have hCle:s2.heap.objs.size<=G2.objs.size:=by rw[hC];exact Nat.le_succ _
 have below:∀b,b<s2.heap.objs.size->b≠G2.objs.size/\b≠s2.heap.objs.size:=fun b hb=>⟨by rw[hC];exact ku (Nat.lt_succ_of_lt hb),ku hb⟩;have old:∀b o,s2.heap.get? b=some o->h₁.get? b=some o:=fun b o e=>hsb₁.extBut b o (below b (xi e)).1 (qf _ (hH2 ▸ qf _ e));have hacc:h₁.get? s2.heap.objs.size=some { cls:=.type "list",data:=.seq ([]:List Value).toArray }:=hsb₁.extBut _ _ hDC (qf _ (hH2 ▸ xb _ rfl));have fpb:∀b∈fp,b<s2.heap.objs.size:=fun b hb=>by
  obtain⟨o,e,_⟩:=T.obj _ _ st2 b hb;exact xi e
 have hD0:H2 s2.heap.objs.size=none:=I2.hok.fresh (qq _);have hC0:H2 G2.objs.size=none:=I2.hok.fresh hCle;generalize hDD:s2.heap.objs.size=D at*
 generalize hCC:G2.objs.size=C at*
 obtain⟨W,⟨m0,w0⟩,turn⟩:=hW D hD0;have okX:(DP X M xs scope cl C s2 H2 fp).Ok:=q9 I2 ok (by rw[hDD];exact hCle) f2 (by rw[hDD];exact fpb);have lenN:(List.replicate xs.length none++Z:St).length=(DP X M xs scope cl C s2 H2 fp).N.length:=by
  show(List.replicate xs.length none++Z).length=(xs++M).length;rw[zh,zh,jc5,I2.len,ok.len]
 have locs:∀(h':Heap) (m:Str->Option Value),(∀y c,X.env.cells.lookup y=some c->∀v,s2.heap.IsCell c v->h'.IsCell c v)->
  ∀(j:Nat) (y:Str) (v:V),(xs++M)[j]?=some y->(List.replicate xs.length none++Z:St)[j]?=some (some v)->Vis (relabel scope X.env) y->∃u,RelV v u/\Look (compEnvC scope cl C X.env) h' m y u:=by
  intro h' m hcell j y v e1 e2 e3;rcases Nat.lt_or_ge j xs.length with jl | jl
  ·rw[jg8 (by rw[jc5];exact jl),List.getElem?_replicate,xy jl] at e2;cases e2
  ·obtain⟨i,rfl⟩:∃i,j=xs.length+i:=⟨j-xs.length,⋯⟩;have e0:M[i]?=some y:=by
    rw[jf6 (jc1 _ _),Nat.add_sub_cancel_left] at e1;exact e1
   have e2':Z[i]?=some (some v):=by
    rw[jf6 (by rw[jc5];exact jc1 _ _),jc5,Nat.add_sub_cancel_left] at e2;exact e2
   obtain⟨e1',k1,k2⟩:=ok.vis i y e0 e3;obtain⟨m2,_,hl⟩:=I2.loc;obtain⟨u,r,l⟩:=hl i y v e1' e2' (k2.elim (fun z=>.inr (.inl z)) fun z=>.inr (.inr z));obtain⟨c',hc'⟩:=ok.has y k1;rcases l with ⟨z,_⟩ | ⟨_,c,hcc,z⟩
   ·have z':X.env.scope.names.lookup y=some .local:=z;rcases k2 with q | q<;>(rw [q] at z';cases z')
   ·have q:=ok.sub y c' hc';rw[hcc] at q;cases q;exact⟨u,r,.inr ⟨k1,c',hc',hcell y c' hcc _ z⟩⟩
 have I0:Inv (DP X M xs scope cl C s2 H2 fp) [] (List.replicate xs.length none++Z) (upd H2 D (.lst [])) { s2 with heap:=h₁,toks:=s2.toks+([]:List (Str×Value)).length }:=by
  refine⟨okX,rfl,I2.bare,?_,⟨_,hns₁,locs h₁ _ (fun y c e v z=>?_)⟩,fun y c e=>?_,?_,fun y c e=>?_,fun p hp=>?_,?_,lenN⟩
  ·exact Un.laid old (jq2 hDD) hD0
  ·obtain⟨o,ho,hd⟩:=z;exact⟨o,old c o ho,hd⟩
  ·obtain⟨v,o,ho,hd⟩:=I2.cell y c (ok.sub y c e);exact⟨v,o,old c o ho,hd⟩
  ·show upd H2 D (.lst []) C=none;rw[BK (Ne.symm hDC)];exact hC0
  ·have hn:=I2.freeC y c (ok.sub y c e);obtain⟨v,o,ho,hd⟩:=I2.cell y c (ok.sub y c e);rw[BK (fun z=>by have:=xi ho;rw[hDD,z] at this;exact jg4 _ this)];exact hn
  ·exact absurd hp (by show p∉([]++[]:List (Addr×Obj));simp)
  ·refine I2.hok.laid old (jq2 hDD) ⟨ke _,[],_,.nil,hacc⟩
 have fpk:∀{H':Hp},(∀b∈fp,H' b=none)->∀b∈fp,Kh (DP X M xs scope cl C s2 H2 fp) [] H' b:=fun hn b hb=>by
  refine⟨hn b hb,(below b (fpb b hb)).1,okX.exfs b hb,.inl hb,fun y c e=>(f2 b hb).2.2.2.2.1 y c (ok.sub y c e),fun p hp=>?_⟩;exact absurd hp (by show p∉([]++[]:List (Addr×Obj));simp)
 have loop:∀s₃:Shared,s₃={ s2 with heap:=h₁,toks:=s2.toks+([]:List (Str×Value)).length }->
  codeAny (model X.prog X.w) X.A (.compLoop (.ListComp elt [⟨tg,iter,ifs,0⟩] scope pos) 0 (.ref it) (.ref D) (compEnvC scope cl C X.env))
   (post (.ref D) C) s₃:=by
  rintro s₃ rfl;refine dJ (fun n s'=>∃i ys w' H',w'.length=xs.length/\Inv (DP X M xs scope cl C s2 H2 fp) [] (w'++Z) H' s'/\tn i s'.heap/\(∀b∈fp,H' b=none)/\W i n ys H') ?_ m0
   ⟨0,[],List.replicate xs.length none,_,jc5,I0,T.keep _ _ _ st2 (fun b _ o e=>old b o e),fun b hb=>by rw[BK (below b (fpb b hb)).2];exact(f2 b hb).1,w0⟩
  rintro n s3 ⟨i,ys,w3,H3,l3,I3,st3,fr3,wt⟩;obtain⟨hD3,hh⟩:=turn i n ys H3 wt;rcases hh with ⟨stop,q⟩ | ⟨go,hlen,m',hm,step⟩
  ·refine thn (T.done (DP X M xs scope cl C s2 H2 fp) rfl rfl rfl hc i [] s3 (w3++Z) H3 _ I3 (fpk fr3) st3 stop) fun r s4 ⟨hr,I4⟩=>?_;subst hr;obtain⟨m4,hn4,_⟩:=id I4.loc;have hC4:H3 C=none:=I4.free;exact fin D C H3 s4 (I2.call' (ch:=fp) I4.os I4.base I4.hok I4.bare fun b hb=>⟨(f2 b hb).2.2.2.1,(f2 b hb).2.1,(f2 b hb).2.2.2.2.1,(f2 b hb).2.2.2.2.2⟩) ⟨m4,hn4⟩ (I2.fpOk (by rw[hDD];exact hCle) hC4) q
  ·refine ja9 (T.item (DP X M xs scope cl C s2 H2 fp) rfl rfl rfl hc i [] s3 (w3++Z) H3 (fun _ _=>False) I3 (fpk fr3) st3 go) (fun r s4 h4=>?_) (fun _ _ z=>z.elim);obtain⟨u,hr,h4⟩:=h4;subst hr;refine ja9 h4 (fun _ s4 h4=>?_) (fun _ _ z=>z.elim);obtain⟨x',H5,I5,r5,y5,st5,fr5⟩:=h4;have I5':=I5.pinned (fpk fr5) (T.obj _ _ st5);refine ja9 (hg C s2 H2 fp s4 _ H5 x' u _ I5' r5 (step x' H5 y5 w3 l3)) (fun _ s6 h6=>?_) (fun _ _ z=>z.elim);obtain⟨σ6,H6,I6,w6,l6,rfl,q6⟩:=h6;have back:∀{s7:Shared} {H7:Hp} {w7:St},Inv (DP X M xs scope cl C s2 H2 fp) ([]++R9 fp s4.heap) (w7++Z) H7 s7->tn (i+1) s7.heap/\(∀b∈fp,H7 b=none)/\Inv (DP X M xs scope cl C s2 H2 fp) [] (w7++Z) H7 s7:=fun{s7 H7 w7} I7=>by
    refine⟨T.keep _ _ _ st5 fun b hb o e=>(I7.pin (b,o) (yv _ (yv _ (JT hb e)))).1,fun b hb=>?_,I7.unpinned⟩;obtain⟨o,e,d⟩:=T.obj _ _ st5 b hb;exact(I7.pin (b,o) (yv _ (yv _ (JT hb e)))).2.1
   refine ja9 (ht C s2 H2 fp _ s6 _ H6 _ I6 q6) (fun ok' s7 h7=>?_) (fun _ _ z=>z.elim);obtain⟨H7,I7,q7⟩:=h7;cases ok' with
   | false=>
    have q7':W (i+1) m' ys H7:=by simpa using q7
    rw[xp zi];obtain⟨b1,b2,b3⟩:=back I7;exact⟨m',hm,i+1,ys,_,H7,l6,b3,b1,b2,q7'⟩
   | true=>
    rw[xy rfl] at q7 ⊢;refine ja9 (he C s2 H2 fp s7 _ H7 _ I7 q7) (fun y s8 h8=>?_) (fun _ _ z=>z.elim);obtain⟨v8,H8,I8,r8,hD8,w8⟩:=h8;refine ja9 (Oa (X:=DP X M xs scope cl C s2 H2 fp) _ s8 _ H8 (.ref D) [v8] (.ref D) [y] (fun _ H9=>H9=upd H8 D (.lst (ys++[v8]))) I8 rfl (.cons r8 .nil) ⟨D,ys,v8,rfl,rfl,hD8,hlen,rfl⟩) (fun _ s9 h9=>?_) (fun _ _ z=>z.elim);obtain⟨v9,H9,I9,_,e9⟩:=h9;subst e9;obtain⟨b1,b2,b3⟩:=back I9;exact⟨m',hm,i+1,_,_,_,l6,b3,b1,b2,w8⟩
 exact codeAny_compStart_list (loop _ rfl) (T.self _ 0 _ _ _ (T.keep _ _ _ st2 (fun b _ o e=>old b o e)) (loop _ rfl))
theorem WN{M:List Str}{px:Pos}{ifs:List Expr}{cl:List (Str×Addr)}(hc:X.calm=true)(ok:Ut X M x scope cl)
 (ht:∀C s₀ H₀ fp,dZ (La X M x scope cl C s₀ H₀ fp) ifs tt)(he:∀C s₀ H₀ fp,PE (La X M x scope cl C s₀ H₀ fp) elt te)
 {pins:List (Addr×Obj)}{Z:St}{H2:Hp}{s2:Shared}{it:Addr}{fp:List Addr}{tn:Nat->Heap->Prop}{J:It}{Q:VK}(I2:Inv X pins Z H2 s2)(T:Turn X.prog X.w X.K (.Name x px) J fp it tn)(st2:tn 0 s2.heap)(f2:∀b∈fp,Kh X pins H2 b)
 (hW:iM tt te Z Q J H2)(post:Value->Addr->Result->Shared->Prop)
 (fin:∀D C H3 s4,Inv X pins Z H3 s4->(∃m,s4.heap.Ns C m)->Kh X pins H3 C->Q (.ref D) H3->post (.ref D) C (.ok .next) s4):
 wpAny (model X.prog X.w) X.A (newList []) (fun acc s₃=>wpAny (model X.prog X.w) X.A (newFunctionEnv scope X.env.globals cl [] X.env.qual none .none (some X.env)) (fun cenv s₄=>
  codeAny (model X.prog X.w) X.A (.compStart (.ListComp elt [⟨.Name x px,iter,ifs,0⟩] scope pos) 0 (.ref it) acc { cenv with scope:=relabel scope X.env }) (post acc cenv.locals) s₄) X.xe s₃) X.xe s2:=
 Tq (g:=Hk 0) hc ok ht (fun C s₀ H₀ fp=>CQ ok.nd rfl (.inl (lookup_relabel_local (ok.xl _ (.head _)))) (.inr (lookup_relabel_local (ok.xl _ (.head _))))) he I2 T st2 f2 (fun D hD=>by
  obtain⟨W,w0,turn⟩:=hW D hD;refine⟨W,w0,fun i m ys H3 wt=>?_⟩;obtain⟨hD3,hh⟩:=turn i m ys H3 wt;refine⟨hD3,hh.imp id fun h=>?_⟩;obtain⟨go,hlen,m',hm,step⟩:=h;refine⟨go,hlen,m',hm,fun x' H5 y5 ρ hρ=>?_⟩
  match ρ,hρ with
  | [a],_=>exact⟨[some x'],rfl,rfl,step x' H5 y5⟩) post fin
theorem Fy{M:List Str}{px:Pos}{ifs:List Expr}{cl:List (Str×Addr)}(hc:X.calm=true)(ok:Ut X M x scope cl)(hi:PI X (.Name x px) iter wi)
 (ht:∀C s₀ H₀ fp,dZ (La X M x scope cl C s₀ H₀ fp) ifs tt)(he:∀C s₀ H₀ fp,PE (La X M x scope cl C s₀ H₀ fp) elt te)
 (hs:∀x,foldedSetIterable iter X.env x=pure x:=by intro _;rfl):
 PE X (.ListComp elt [⟨.Name x px,iter,ifs,0⟩] scope pos) (Yn wi tt te):=by
 intro pins s Z H Q I h;rw[eval_ListComp];refine jl8 (use:=none) rfl hs ok.clos ok.kind ok.names (thn (hi s Z H _ I h) fun xv s1 h1=>thn h1 fun itv s2 h2=>?_);obtain⟨it,fp,tn,J,H2,e,I2,T,st2,f2,hW⟩:=h2;subst e;refine WN hc ok ht he I2 T st2 f2 hW (compPost (model X.prog X.w) X.A X.xe none (EP X pins Z Q)) fun D C H3 s4 I4 hm fC q=>?_;obtain⟨m,hn⟩:=hm;exact⟨m,hn,fun h' hsb=>⟨.ref D,H3,I4.turned (t':=s4.toks) (fun b o hb e=>hsb.extBut b o hb e) fC.1 fC.2.1 fC.2.2.2.1 fC.2.2.2.2.1 fC.2.2.2.2.2,rfl,q⟩⟩
theorem K9{M:List Str}{y:Str}{px py spos:Pos}{ifs:List Expr}{cl:List (Str×Addr)}{i:Nat}(hN:X.N.Nodup)(hiy:X.N[i]?=some y)(hy:Loc X.env.scope y)
 (hc:X.calm=true)(ok:Ut X M x scope cl)(hi:PI X (.Name x px) iter wi)
 (ht:∀C s₀ H₀ fp,dZ (La X M x scope cl C s₀ H₀ fp) ifs tt)(he:∀C s₀ H₀ fp,PE (La X M x scope cl C s₀ H₀ fp) elt te)
 (hsw:swapsWith (.ListComp elt [⟨.Name x px,iter,ifs,0⟩] scope pos) (some (.Name y py)) spos.line X.env=pure true:=by with_unfolding_all rfl)
 (hf:X.fn y=true\/X.env.scope.names.lookup y=some .local:=by first | exact .inl rfl | exact .inr rfl | assumption)
 (hs:∀x,foldedSetIterable iter X.env x=pure x:=by intro _;rfl):
 PS X (.Assign [.Name y py] (.ListComp elt [⟨.Name x px,iter,ifs,0⟩] scope pos) spos) (bI (Yn wi tt te) (Hk i)):=by
 intro pins s Z H D I h;rw[exec_Assign_Name_used _ _ _ _ hsw];refine js (jo8 (js ?_));show wpAny _ X.A (do let _ <-comprehension (.ListComp elt [⟨.Name x px,iter,ifs,0⟩] scope pos) scope X.env _ (newList []) false (eval iter X.env) (some (assign (.Name y py) X.env))) _ _ s;refine js (ja9 (jl8 (use:=some (assign (.Name y py) X.env)) (Q:=fun _ s'=>SP X pins D .next s') rfl hs ok.clos ok.kind ok.names
  (thn (hi s Z H _ I h) fun xv s1 h1=>thn h1 fun itv s2 h2=>?_)) (fun _ s' hq=>ya (ya hq)) fun _ _ e=>e)
 obtain⟨it,fp,tn,J,H2,e,I2,T,st2,f2,hW⟩:=h2;subst e;refine WN (Q:=fun x H1=>Hk i x Z H1 D.nx) hc ok ht he I2 T st2 f2 hW (compPost (model X.prog X.w) X.A X.xe (some (assign (.Name y py) X.env)) (fun _ s'=>SP X pins D .next s')) fun Dd C H3 s4 I4 hm fC q=>?_
 obtain⟨m,hn⟩:=hm;show wpAny _ X.A (assign (.Name y py) X.env (.ref Dd)) _ _ _;refine wpAny_assign_Name (NZ I4 hN hiy hy (v:=.ref Dd) rfl (fun s5 I5 hsb=>?_) hf);obtain⟨a,sb,ha⟩:=hsb;have hCa:C≠a:=by
  rcases ha with rfl | ha
  ·exact fC.2.1
  ·exact(fC.2.2.2.2.1 _ _ ha).symm
 exact⟨m,hn.sameBut sb hCa,fun h' hsb'=>⟨_,H3,I5.turned (t':=s5.toks) (fun b o hb e=>hsb'.extBut b o hb e) fC.1 fC.2.1 fC.2.2.2.1 fC.2.2.2.2.1 fC.2.2.2.2.2,q⟩⟩
theorem Yg:∀{bs:List Bool} {us:List Value},Vals (bs.map V.bl) us->us=bs.map Value.bool
 | [],_,.nil=>rfl
 | b::bs,u::us,.cons r t=>by
  cases (show u=Value.bool b from r);rw[Yg t];rfl
theorem cF(bs:List Bool):((List.range bs.length).all fun i=>(bs[i]?).getD true)=bs.all id:=by
 induction bs with
 | nil=>rfl
 | cons b bs ih=>
  rw[qr,List.range_succ_eq_map,List.all_cons,List.all_map,List.all_cons,<-ih];rfl
theorem vP{s:Shared}{h':Heap}{o:Obj}(hk:∀b x,b∉[s.heap.objs.size]->(s.heap.push o).get? b=some x->h'.get? b=some x):∀b x,s.heap.get? b=some x->h'.get? b=some x:=
 fun b x e=>hk b x (fun hm=>by rw[xc.mp hm] at e;exact jg4 _ (xi e)) (qf _ e)
theorem Tu(hc:X.calm=true):IV X (.builtin "all") (fun xs H Q=>∃(p:Addr) (bs:List Bool),xs=[.ref p]/\SqL X.K H p (bs.map V.bl)/\Q (.bl (bs.all id)) H):=by
 intro pins s Z H xs us Q I r h;obtain⟨p,bs,rfl,hq,q⟩:=h;obtain⟨u,rfl,ru⟩:=vals1 r;cases (show u=Value.ref p from ru);obtain⟨its,rv,pl,_⟩:=I.list hq;obtain rfl:=Yg rv;have hl:=pl.isList;have hlt:p<s.heap.objs.size:=by obtain⟨_,e,_⟩:=id hl;exact xi e
 refine call_all_walk (wpAny_pyIter_list hl ?_);refine⟨s.heap.objs.size,[s.heap.objs.size,p],[s.heap.objs.size],(bs.map Value.bool).toArray.size,_,_,fun i=>(bs[i]?).getD true,rfl,Walks.list (A:=X.A.in1) (I.ok.hd hc) _ p (ku hlt) (bs.map Value.bool).toArray,
  ⟨⟨_,xb _ rfl,rfl,rfl⟩,hl.push _⟩,fun i v s' Q' E' hP hQ=>?_,fun h' tk hk=>?_⟩
 ·have hP':(bs.map Value.bool)[i]?=some v:=by simpa using hP
  rw[xo] at hP';cases e:bs[i]? with
  | none=>rw[e] at hP';cases hP'
  | some b=>
   rw[e] at hP';cases hP';simp only[e,Option.getD_some] at hQ;exact jc7 hQ
 ·have e:((List.range (bs.map Value.bool).toArray.size).all fun i=>(bs[i]?).getD true)=bs.all id:=by
   rw[xh,jp];exact cF bs
  rw[e];exact⟨.bl _,H,I.kept (vP hk),rfl,q⟩
theorem lookup_mem{κ β:Type}[BEq κ][LawfulBEq κ]{k:κ}{v:β}:∀{l:List (κ×β)},l.lookup k=some v->(k,v)∈l
 | (a,b)::r,h=>by
  rw[List.lookup_cons] at h;cases e:k==a with
  | true=>
   rw[e] at h;cases h;rw[eq_of_beq e];exact qc
  | false=>
   rw[e] at h;exact qk _ (lookup_mem h)
theorem VM{env:Env}(h:∀y∈scope.names,y.2≠.free):(relabel scope env).names=scope.names:=
 map_eq_self fun x hx=>by
  obtain⟨n,k⟩:=x;have:(k==NameKind.free)=false:=by simpa using h _ hx
  simp[this]
theorem Gd(N:List Str)(hN:X.N=N)(hf:∀y∈scope.names,y.2≠.free/\y.2≠.cell)(hk:scope.kind=.function)(hn:∀y∈scope.names,y.2=.local->scope.names.lookup y.1=some .local)
 (hx:scope.names.lookup x=some .local)(nd:(x::N).Nodup)(vis:∀y∈N,scope.names.lookup y≠some .local):Ut X N x scope []:=by
 have e:=VM (env:=X.env) fun y hy=>(hf y hy).1;refine⟨closureFor_none fun y hy=>(hf y hy).1,fun y hy=>(hf y hy).2,hk,hn,fun y h=>xc.mp h ▸ hx,nd,by rw[hN],fun y c h=>(by cases h),fun y h=>?_,fun i y hy h=>?_⟩
 ·rw[e] at h;rcases h with h | h
  ·exact absurd rfl (hf _ (lookup_mem h)).2
  ·exact absurd rfl (hf _ (lookup_mem h)).1
 ·rcases h with h | h | h
  ·rw[e] at h;exact absurd h (vis y (zk hy))
  ·rw[e] at h;exact absurd rfl (hf _ (lookup_mem h)).2
  ·rw[e] at h;exact absurd rfl (hf _ (lookup_mem h)).1
structure Walk(J:It)(ok:Hp->Prop)(xs:List V):Prop where
 go:∀i H,ok H->i<xs.length->J.go i H
 yld:∀i H x H',ok H->J.yld i H x H'->i<xs.length->H'=H/\xs[i]?=some x
 stop:∀i H,ok H->xs.length<=i->J.stop i H
theorem RJ{a:Addr}:Walk (Itl K a) (fun H=>SqL K H a xs) xs:=
 ⟨fun i H h hi=>⟨xs,xs[i],h,by simp[hi]⟩,fun i H x H' h y hi=>⟨y.1,y.2 xs h⟩,fun i H h hi=>⟨xs,h,hi⟩⟩
theorem lW{a:Addr}:Walk (Itt K a) (fun H=>SqT K H a xs) xs:=
 ⟨fun i H h hi=>⟨xs,xs[i],h,by simp[hi]⟩,fun i H x H' h y hi=>⟨y.1,y.2 xs h⟩,fun i H h hi=>⟨xs,h,hi⟩⟩
theorem RG{lo:Int}{n:Nat}:Walk (Itr lo n) (fun _=>True) ((List.range n).map fun i=>V.int (lo+(i:Nat))):=
 ⟨fun i H _ hi=>(by show i<n;simpa using hi),fun i H x H' _ y hi=>⟨y.1,by
  have hi':i<n:=by simpa using hi
  rw[y.2];simp[hi']⟩,fun i H _ hi=>(by show n<=i;simpa using hi)⟩
theorem gq{J:It}{ok:Hp->Prop}(Wk:Walk J ok xs)(hz:xs.length<sizeLine)(hok:∀D ys,H D=none->ok (upd H D (.lst ys)))(p:V->Bool)(f:V->V)
 (ht:∀x∈xs,∀D ys (Q':Bool->Hp->Prop),H D=none->Q' (p x) (upd H D (.lst ys))->tt (some x::Z) (upd H D (.lst ys)) Q')
 (he:∀x∈xs,p x=true->∀D ys (Q':VK),H D=none->Q' (f x) (upd H D (.lst ys))->te (some x::Z) (upd H D (.lst ys)) Q')
 (h:∀D,H D=none->Q (.ref D) (upd H D (.lst ((xs.filter p).map f)))):
 ∀D,H D=none->∃W:Nat->Nat->List V->Hp->Prop,(∃m,W 0 m [] (upd H D (.lst [])))/\
  ∀i m ys H2,W i m ys H2->H2 D=some (.lst ys)/\((J.stop i H2/\Q (.ref D) H2)\/(J.go i H2/\ys.length<sizeLine/\∃m',m'<m/\∀x H3,J.yld i H2 x H3->
   tt (some x::Z) H3 fun b H4=>if b=true then te (some x::Z) H4 fun y H5=>H5 D=some (.lst ys)/\W (i+1) m' (ys++[y]) (upd H5 D (.lst (ys++[y]))) else W (i+1) m' ys H4)):=by
 intro D hD;refine⟨fun i m ys H2=>i<=xs.length/\m=xs.length-i/\ys=((xs.take i).filter p).map f/\H2=upd H D (.lst ys),⟨_,ke _,rfl,by simp,rfl⟩,?_⟩;rintro i m ys H2 ⟨hi,rfl,hys,rfl⟩;refine⟨Am,?_⟩;by_cases hlt:i<xs.length
 ·have hl:ys.length<=i:=by
   rw[hys,jp];exact zv (jn8 _ _) (by rw[je4];lia)
  refine .inr ⟨Wk.go i _ (hok D ys hD) hlt,⋯,xs.length-(i+1),⋯,fun x H3 hy=>?_⟩;obtain⟨e3,ex⟩:=Wk.yld i _ x H3 (hok D ys hD) hy hlt;subst e3;have hm:x∈xs:=zk ex;have et:xs.take (i+1)=xs.take i++[x]:=by rw[kx,ex];rfl
  refine ht x hm D ys _ hD ?_;cases hp:p x with
  | false=>
   rw[xp zi];refine⟨hlt,rfl,?_,rfl⟩;rw[et,jm1,hys];simp[hp]
  | true=>
   rw[xy rfl];refine he x hm hp D ys _ hD ⟨Am,hlt,rfl,?_,by rw[tE]⟩;rw[et,jm1,hys];simp[hp]
 ·have e:i=xs.length:=⋯
  subst e;refine .inl ⟨Wk.stop _ _ (hok D ys hD) (qq _),?_⟩;rw[hys,ja6];exact h D hD
theorem Xd{R:It->Hp->Prop}(h:ta Z H fun vs H1=>∃j:Int,vs=[.int j]/\ -(2^62)<=j/\j<2^62/\R (Itr 0 j.toNat) H1):xq ta Z H R:=h
theorem Qw{R:It->Hp->Prop}(h:ta Z H fun vs H1=>∃i j:Int,vs=[.int i,.int j]/\(-(2^62)<=i/\i<2^62/\ -(2^62)<=j/\j<2^62)/\R (Itr i (j-i).toNat) H1):xn ta Z H R:=h
theorem Fj(h:wi Z H (iM tt te Z Q)):Yn wi tt te Z H Q:=h
theorem Jb{J:It}{ok:Hp->Prop}(Wk:Walk J ok xs)(hz:xs.length<sizeLine)(hok:∀D ys,H D=none->ok (upd H D (.lst ys)))(p:V->Bool)(f:V->V)
 (ht:∀x∈xs,∀D ys (Q':Bool->Hp->Prop),H D=none->Q' (p x) (upd H D (.lst ys))->tt (some x::Z) (upd H D (.lst ys)) Q')
 (he:∀x∈xs,p x=true->∀D ys (Q':VK),H D=none->Q' (f x) (upd H D (.lst ys))->te (some x::Z) (upd H D (.lst ys)) Q')
 (h:∀D,H D=none->Q (.ref D) (upd H D (.lst ((xs.filter p).map f)))):iM tt te Z Q J H:=gq Wk hz hok p f ht he h
theorem dM{i:Nat}{a:Addr}(ei:Z[i]?=some (some (.ref a)))(hS:SqT K H a xs)(hz:xs.length<sizeLine)(p:V->Bool)(f:V->V)
 (ht:∀x∈xs,∀D ys (Q':Bool->Hp->Prop),H D=none->Q' (p x) (upd H D (.lst ys))->tt (some x::Z) (upd H D (.lst ys)) Q')
 (he:∀x∈xs,p x=true->∀D ys (Q':VK),H D=none->Q' (f x) (upd H D (.lst ys))->te (some x::Z) (upd H D (.lst ys)) Q')
 (h:∀D,H D=none->Q (.ref D) (upd H D (.lst ((xs.filter p).map f)))):Yn (vR K (Gp i)) tt te Z H Q:=
 by unfold Yn vR;exact J0 ei ⟨a,rfl,⟨_,hS⟩,gq lW hz (fun D ys hD=>(Ar hD _).tup hS) p f ht he h⟩
theorem Hn{Q:Bool->Hp->Prop}(h:Q true H):eN Z H Q:=h
theorem Ip{cl:List (Str×Addr)}(xs M N:List Str)(hl:M.length=N.length)(hN:X.N=N)(clos:closureFor scope X.env=pure cl)(hc:(scope.names.all fun y=>y.2 != .cell)=true)(hk:scope.kind=.function)
 (hn:(scope.names.all fun y=>y.2 != .local||scope.names.lookup y.1==some .local)=true)(hx:(xs.all fun x=>scope.names.lookup x==some .local)=true)(nd:(xs++M).Nodup)
 (hs:∀p∈cl,X.env.cells.lookup p.1=some p.2)
 (hh:((relabel scope X.env).names.all fun p=>(p.2 != .cell&&p.2 != .free)||(cl.lookup p.1).isSome)=true)
 (hv:((M.zip N).all fun q=>match (relabel scope X.env).names.lookup q.1 with
  | some .local=>false
  | some .cell=>q.1==q.2&&(X.env.scope.names.lookup q.1==some .cell||X.env.scope.names.lookup q.1==some .free)
  | some .free=>q.1==q.2&&(X.env.scope.names.lookup q.1==some .cell||X.env.scope.names.lookup q.1==some .free)
  | _=>true)=true):M8 X M xs scope cl:=by
 refine⟨clos,fun y hy=>?_,hk,fun y hy hl=>?_,(fun x hm=>by simpa using jb9.mp hx x hm),nd,by rw[hN];exact hl,fun y c h=>hs _ (lookup_mem h),fun y h=>?_,fun i y hy h=>?_⟩
 ·have:=jb9.mp hc y hy;simpa using this
 ·have:=jb9.mp hn y hy;simpa [hl] using this
 ·rcases h with h | h
  ·have:=jb9.mp hh _ (lookup_mem h);exact jh5.mp (by simpa using this)
  ·have:=jb9.mp hh _ (lookup_mem h);exact jh5.mp (by simpa using this)
 ·have hi:i<N.length:=by
   have:=(qv.mp hy).1;lia
  have hz:(y,N[i])∈M.zip N:=by
   have:(M.zip N)[i]?=some (y,N[i]):=List.getElem?_zip_eq_some.mpr ⟨hy,by simp[hi]⟩;exact zk this
  have z:=jb9.mp hv _ hz;have fin:y=N[i]->X.N[i]?=some y:=fun e=>by rw[hN,e];simp[hi]
  rcases h with h | h | h
  ·dsimp only at z;rw[h] at z;cases z
  ·dsimp only at z;rw[h] at z;simp only[vi,jc6,je9] at z;exact⟨fin z.1,.inl h,z.2⟩
  ·dsimp only at z;rw[h] at z;simp only[vi,jc6,je9] at z;exact⟨fin z.1,.inr h,z.2⟩
theorem Dq{cl:List (Str×Addr)}(M N:List Str)(hl:M.length=N.length)(hN:X.N=N)(clos:closureFor scope X.env=pure cl)(hc:(scope.names.all fun y=>y.2 != .cell)=true)(hk:scope.kind=.function)
 (hn:(scope.names.all fun y=>y.2 != .local||scope.names.lookup y.1==some .local)=true)(hx:scope.names.lookup x=some .local)(nd:(x::M).Nodup)
 (hs:∀p∈cl,X.env.cells.lookup p.1=some p.2)
 (hh:((relabel scope X.env).names.all fun p=>(p.2 != .cell&&p.2 != .free)||(cl.lookup p.1).isSome)=true)
 (hv:((M.zip N).all fun q=>match (relabel scope X.env).names.lookup q.1 with
  | some .local=>false
  | some .cell=>q.1==q.2&&(X.env.scope.names.lookup q.1==some .cell||X.env.scope.names.lookup q.1==some .free)
  | some .free=>q.1==q.2&&(X.env.scope.names.lookup q.1==some .cell||X.env.scope.names.lookup q.1==some .free)
  | _=>true)=true):Ut X M x scope cl:=Ip [x] M N hl hN clos hc hk hn (by simp[hx]) nd hs hh hv
noncomputable def lL(lo c:Int)(n:Nat):It:=⟨fun i _=>i<n,fun i H x H'=>H'=H/\x=.int (lo+i*c),fun i _=>n<=i⟩
theorem Yj{P:Program}{w:World}{tg:Expr}(it:Addr)(lo c:Int)(n:Nat):Turn P w K tg (lL lo c n) [it] it (fun i h=>IsRangeIter h it (lo+(i:Nat)*c) ((n:Int)-(i:Nat)) c) where
 mem:=by simp
 obj:=fun i h st b hb=>by
  have e:b=it:=by simpa using hb
  subst e;exact⟨_,st,fun v z=>by
   have z':Data.fields _=Data.cell v:=z;cases z'⟩
 keep:=fun i h h' st k=>k it (by simp) _ st
 item:=by
  intro X hP hw hK hc i pins s Z H E I hf st hg;subst hP hw hK;obtain⟨f0,f1,f2,f3,f4,f5⟩:=hf it (by simp);have W:=Walks.range (prog:=X.prog) (w:=X.w) (I.ok.hd hc) it lo c n;refine W.item i s _ _ hg st fun v h' tk hv st' kk=>?_;obtain⟨t,rfl⟩:=hv;have I1:Inv X pins Z H { s with heap:=h',toks:=tk }:=I.turned (fun b o hb e=>kk b o (by simpa using hb) e) f0 f1 f3 f4 f5;exact⟨_,rfl,Zr (s:={ s with heap:=h',toks:=tk }) (n:="range_iterator") st' rfl rfl nofun ⟨.int (lo+i*c),H,I1,⟨t,rfl⟩,⟨rfl,rfl⟩,st',fun b hb=>(hf b hb).1⟩⟩
 done:=by
  intro X hP hw hK hc i pins s Z H E I hf st hg;subst hP hw hK;obtain⟨f0,f1,f2,f3,f4,f5⟩:=hf it (by simp);exact wpAny_pyNext_range_end (I.ok.hd hc) st (by have:n<=i:=hg;lia) fun h' eb=>⟨rfl,I.turned (t':=s.toks) (fun b o hb e=>eb b o hb e) f0 f1 f3 f4 f5⟩
 self:=fun _ _ _ _ _ st h=>wpAny_pyIter_rangeiter st h
def xm(ta:TA):TI:=fun Z H R=>ta Z H fun vs H1=>∃i j c:Int,vs=[.int i,.int j,.int c]/\0<c/\c<1073741824/\Builtin.Range.small i j c=true/\∃n:Nat,(n:Int)=Builtin.Range.rangeSize i j c/\R (lL i c n) H1
theorem Vq{tg:Expr}{a b d:Expr}{p:Pos}(hg:Gl X "range")(hm:X.mg "range"=none)(ha:PA X [a,b,d] ta)(hs:‹starEach [a,b,d] X.env=(false,eval a X.env)::starEach [b,d] X.env›)
 (hpl:‹(backTo pos (starEach [b,d] X.env)).any (·.1)=false›):PI X tg (.Call (.Name "range" p) [a,b,d] [] pos) (xm ta):=by
 intro pins s Z H R I h;refine Call_ (JW I hg hm boot_range (Zs (thn (ha (pos:=pos) pins s Z H _ I h) fun us s1 hZ=>?_) hs hpl));obtain⟨vs,H1,I1,r1,q1⟩:=hZ;obtain⟨lo,hi,c,e,c0,c1,sm,n,hn,q⟩:=q1;subst e;cases r1 with
 | cons r rr=>
  cases rr with
  | cons r' rr=>
   cases rr with
   | cons r'' rr=>
    cases rr;obtain⟨t,rfl⟩:=r;obtain⟨t',rfl⟩:=r';obtain⟨t'',rfl⟩:=r'';refine PySem.call_range_3 ⋯ ?_ (Or.inl (PyProof.noPylong_small ⋯));refine wpAny_pyIter_range (IsRange.new ..) sm ?_;have I2:Inv X pins Z H1 { s1 with heap:=s1.heap.push { cls:=.type "range",data:=.fields #[.int lo t,.int hi t',.int c t''] },toks:=s1.toks }:=I1.kept fun b o e=>qf _ e;refine⟨(s1.heap.push { cls:=.type "range",data:=.fields #[.int lo t,.int hi t',.int c t''] }).objs.size,[(s1.heap.push { cls:=.type "range",data:=.fields #[.int lo t,.int hi t',.int c t''] }).objs.size],_,_,H1,rfl,
     I2.kept (t':=s1.toks) fun b o e=>qf _ e,Yj _ lo c n,?_,fun b hb=>?_,q⟩
    ·have e1:lo+((0:Nat):Int)*c=lo:=by simp
     have e2:(n:Int)-((0:Nat):Int)=Builtin.Range.rangeSize lo hi c:=by rw[<-hn];simp
     show IsRangeIter _ _ (lo+((0:Nat):Int)*c) ((n:Int)-((0:Nat):Int)) c;rw[e1,e2];exact xb _ rfl
    ·have e:b=(s1.heap.push { cls:=.type "range",data:=.fields #[.int lo t,.int hi t',.int c t''] }).objs.size:=by simpa using hb
     subst e;exact I2.fpOk (qq _) (I2.hok.fresh (qq _))
theorem fO{R:It->Hp->Prop}(h:ta Z H fun vs H1=>∃i j c:Int,vs=[.int i,.int j,.int c]/\0<c/\c<1073741824/\Builtin.Range.small i j c=true/\∃n:Nat,(n:Int)=Builtin.Range.rangeSize i j c/\R (lL i c n) H1):xm ta Z H R:=h
theorem qu{a b:Int}:decide (V.int a=V.int b)=decide (a=b):=by
 rw[Qr];simp
theorem RW{i j c:Int}(i0:0<=i)(i1:i<4294967296)(j0:0<=j)(j1:j<4294967296)(c0:0<c)(c1:c<4294967296):Builtin.Range.small i j c=true:=by
 have e:Builtin.Range.rangeSize i j c=if i<j then (j-i-1)/c+1 else 0:=by
  unfold Builtin.Range.rangeSize;rw[xy c0]
 have b1:∀x:Int,0<=x->x/c<=x:=fun x hx=>ji5 _ hx;have b2:∀x:Int,0<=x->0<=x/c:=fun x hx=>jh0 hx (by omega);unfold Builtin.Range.small;rw[e];simp only[Builtin.Range.rangeFitsLong,vi,je9,decide_eq_true_eq,jc6,xy c0];split
 ·have:=b1 (j-i-1) (by omega);have:=b2 (j-i-1) (by omega);omega
 ·omega
theorem jU{i:Nat}{t:TA}{l:Addr}(e:Z[i]?=some (some (.ref l)))(h:H l=some (.lst xs))
 (g:t Z H fun ys H2=>Qz (.ref l) ys H2 Q):tBM K "list" Qz (Gp i) t Z H Q:=by unfold tBM;exact J0 e ⟨.inl ⟨rfl,_,SqL.of h⟩,g⟩
theorem zj{l:Addr}{y:V}(h:H l=some (.lst xs))(hz:xs.length<sizeLine)(q:Q .non (upd H l (.lst (xs++[y])))):Qz (.ref l) [y] H Q:=⟨l,xs,y,rfl,rfl,h,hz,q⟩
theorem R0{g:TG}{tb:TS}{D:Ends}(h:wi Z H fun J H1=>∃W:Nat->Nat->St->Hp->Prop,(∃m,W 0 m Z H1)/\∀i m Z H,W i m Z H->
 (J.stop i H/\D.nx Z H)\/(J.go i H/\∃N:St->Hp->Prop,(∀Z' H',N Z' H'->∃m',m'<m/\W (i+1) m' Z' H')/\∀x H',J.yld i H x H'->g x Z H' fun σ2 H2=>tb { D with nx:=N,ct:=N,bk:=D.nx } σ2 H2)):ABn wi g tb D Z H:=h
theorem Lz{tl:TE}{R:It->Hp->Prop}(h:tl Z H fun x H1=>∃a,x=.ref a/\(∃xs,SqL K H1 a xs)/\R (Itl K a) H1):xu K tl Z H R:=h
theorem xQ{tl:TE}{R:It->Hp->Prop}(h:tl Z H fun x H1=>∃a,x=.ref a/\(∃xs,SqT K H1 a xs)/\R (Itt K a) H1):vR K tl Z H R:=h
theorem Fb{H':Hp}{l:Addr}{o:HO}(h:H l=none)(s:Az H H'):Az H (upd H' l o):=fun b u e=>by
 rw[BK (Bu e h)];exact s b u e
end
def AEP(h:Heap)(e:Addr)(cls:Value)(dd:Option Addr)(head:Value):Prop:=∃vs sl,h.get? e=some ⟨cls,dd,.fields vs,sl⟩/\vs[1]?=some head
def XTr(h base:Heap)(e:Addr)(cls:Value)(dd:Option Addr)(fl:Value):Prop:=∃T,AEP h e cls dd (.ref T)/\base.get? T=none/\T≠e/\∃oT ts,h.get? T=some oT/\oT.data=.fields ts/\ts[3]?=some fl
structure Sea(base:Heap)(l:List Env)(e:Addr)(h:Heap):Prop where
 stays:base.StaysIn h
 new:base.get? e=none
 frames:h.FunFrames base l
section
variable{M:Model}{A:Around}{E:Value->Shared->Prop}{s:Shared}{base:Heap}{env:Env}{outer l:List Env}{L e:Addr}{cls:Value}{dd:Option Addr}
end
def Old(fs:List Addr)(H:Hp)(h B:Heap):Prop:=∀b u,h.get? b=some u->b∉fs->∃u',B.get? b=some u'/\(H b=none->u'=u)
def Tra(H:Hp)(h B:Heap):Prop:=∀b o,H b=some o->∃u,h.get? b=some u/\B.get? b=some u
section
variable{P:Program}{w:World}{fs:List Addr}{H H':Hp}{h h1 h2 B:Heap}
end
def CX1(P:Program)(w:World):CXT:=fun outer H s E e s'=>∃(ea:Addr) (cls:Value) (dx:Option Addr) (B:Heap) (H':Hp),e=.ref ea/\s'.os=s.os/\AllBare s'.gens/\Un (frs outer) [] H H' s.heap s'.heap/\
 HOk P w H' s'.heap/\Sea B outer ea s'.heap/\XTr s'.heap B ea cls dx .none/\Old (frs outer) H s.heap B/\Tra H' s'.heap B/\E cls dx H'
section
variable{X:Cx}{pins:List (Addr×Obj)}{Z:St}{H H':Hp}{s:Shared}
end
section
variable{P:Program}{w:World}{K:Fr}{mg:Str->Option Value}{base:Heap}
end
structure AEe(P:Program)(w:World)(K:Fr)(mg:Str->Option Value)(base:Heap)(k:Nat)(x:Str)(ps:List Str)(sp:Sp):Prop where
 ex:∃(f:Addr) (fd:FuncData),FN P w K mg base (CX1 P w) k f fd ps sp/\Binds K fd ps []/\PySem.W.keepIn K (.ref f)=true/\mg x=some (.ref f)
section
variable{X:Cx}{EE:Value->Option Addr->St->Hp->Prop}
end
noncomputable def ABb(a:Addr)(cls:Value)(dx:Option Addr):HO:=.ext fun h=>∃vs sl,h.get? a=some ⟨cls,dx,.fields vs,sl⟩
section
variable{X:Cx}{pins:List (Addr×Obj)}{Z:St}{H:Hp}{s:Shared}{ea:Addr}{cls:Value}{dx:Option Addr}
end
section
variable{X:Cx}{pins:List (Addr×Obj)}{Z:St}{H:Hp}{s:Shared}
end
section
variable{X:Cx}
end
section
variable{prog:Program}{w:World}{A:Around}{E:Value->Shared->Prop}{s:Shared}{K:Fr}{x D:Addr}{ox:Obj}{odo:Option Obj}{name:Str}
structure ABV(K:Fr)(D:Addr):Prop where
 ga:PySem.W.findIn K (.ref D) "__getattribute__"=some (some (.builtin "BaseException.__getattribute__"))
 gk:PySem.W.findIn K (.ref D) "__getattr__"=some none
 be:PySem.W.mroIn K D (.type "BaseException")=some true
 ob:PySem.W.mroIn K D (.type "object")=some true
 ca:PySem.W.findIn K (.ref D) "__class__"=some (some (.builtin "object.__class__"))
 cl:(PySem.W.clsIn K D).isSome=true
 sp:PySem.W.specialIn K (.builtin "object.__class__") "__get__"=some (some (.builtin "getset_descriptor.__get__"))
 tk:PySem.W.takesIn K (.builtin "object.__class__")=some true
end
section
variable{X:Cx}
end
structure Wn(k:Nat)(A:Around):Prop where
 dp:A.depth+3*k+5<recursionLimit
 un:A.units+16*k+200<cLine
 gd:A.guards=some []
theorem Ek.toN{k:Nat}{A:Around}(r:Ek k A):Wn k A:=⟨r.dp,r.un,r.gd⟩
section
variable{P:Program}{w:World}{K:Fr}{mg:Str->Option Value}{base:Heap}
end
section
variable{X:Cx}
end
theorem HD(a:Addr):RelV (.ref a) (.ref a):=rfl
variable{sp:Sp}
section
variable{X:Cx}
end
section
variable{prog:Program}{w:World}{A:Around}{E:Value->Shared->Prop}{h:Heap}{g:Array GenState}{d:Drawn}{t:Nat}{os:OsState}{K:Fr}{f:Addr}
variable{nm q:Str}{C N:Addr}{bs bm:List Value}{hdct:Bool}{sn:List Str}{sub:List Value}{ab:Bool}{col:Option Bool}{dd:Option Addr}{k0 k1 k2 k3 k5:Option Value}
end
section
variable{prog:Program}{w:World}{A:Around}{E:Value->Shared->Prop}{h:Heap}{g:Array GenState}{d:Drawn}{t:Nat}{os:OsState}{K:Fr}{e:Addr}
variable{nm q:Str}{C N:Addr}{bs bm:List Value}{hdct:Bool}{sn:List Str}{sub:List Value}{ab:Bool}{col:Option Bool}{dd:Option Addr}{k0 k1 k2 k3 k5:Option Value}{newId:String}
variable{x CF:Addr}{cd:ClassData}{name:Str}{v:Value}{vs:Array Value}{sl:Array (Option Value)}
end
section
variable{K:Fr}{C CF:Addr}{h:Heap}
end
section
variable{X:Cx}{pins:List (Addr×Obj)}{Z:St}{H:Hp}{s:Shared}{h':Heap}
variable{o value:Expr}{f:Str}{pos pos':Pos}{ta tv:TE}
end
section
variable{M:Model}{A:Around}{E:Value->Shared->Prop}
end
section
variable{X:Cx}{EE:Value->Option Addr->St->Hp->Prop}
end
noncomputable def Dj(i:Int):Str:=Str.ofString (toString i)
noncomputable def shI(is:List Int):Str:=tupleText (is.map Dj)
inductive sU(K:Fr)(H:Hp):V->Str->Prop
 | int {i:Int}:i.natAbs.log2<1920->sU K H (.int i) (Dj i)
 | str {z:Str}:z.length<=sizeLine->sU K H (.str z) z
 | tup {a:Addr} {is:List Int}:SqT K H a (is.map V.int)->(∀i∈is,i.natAbs.log2<1920)->(shI is).length<=sizeLine->sU K H (.ref a) (shI is)
theorem shownAll_ints:∀is:List Int,PyData.shownAll (is.map PyData.int)=is.map Dj
 | []=>by simp[PyData.shownAll]
 | i::is=>by simp only[zw,PyData.shownAll,PyData.shown,shownAll_ints is];rfl
theorem showableAll_ints:∀is:List Int,(∀i∈is,i.natAbs.log2<1920)->PyData.showableAll (is.map PyData.int)=true
 | [],_=>by simp[PyData.showableAll]
 | i::is,h=>by
  simp only[zw,PyData.showableAll,PyData.showable,showableAll_ints is fun j hj=>h j (qk _ hj),Bool.and_true,decide_eq_true_eq];exact h i (qc ..)
theorem Jq:∀is:List Int,PyData.hasDictAll (is.map PyData.int)=false
 | []=>by simp[PyData.hasDictAll]
 | i::is=>by simp only[zw,PyData.hasDictAll,PyData.hasDict,Jq is,Bool.or_self]
theorem depthAll_ints:∀is:List Int,PyData.depthAll (is.map PyData.int)<=1
 | []=>by simp[PyData.depthAll]
 | i::is=>by
  have:=depthAll_ints is;simp only[zw,PyData.depthAll,PyData.depth];lia
theorem readsAll_ints{h:Heap}:∀{is:List Int} {us:List Value},Vals (is.map V.int) us->ReadsAll h us (is.map PyData.int) []
 | [],_,.nil=>.nil
 | i::is,_,.cons r t=>by
  obtain⟨tk,rfl⟩:=(show ∃tk,_=Value.int i tk from r);exact .cons (as:=[]) (bs:=[]) (.int i tk) (readsAll_ints t)
section
variable{X:Cx}{pins:List (Addr×Obj)}{Z:St}{H:Hp}{s:Shared}
theorem AAu{k:Nat}{x:V}{u:Value}{y:Str}(hr:Wn k X.A)(I:Inv X pins Z H s)(r:RelV x u)(f:sU X.K H x y)(q:Q (.str y) H):wpAny (model X.prog X.w) X.A (formatField u Str.empty) (EP X pins Z Q) X.xe s:=by
 cases f with
 | int h=>
  obtain⟨t,rfl⟩:=(show ∃t,u=Value.int _ t from r);exact wpAny_formatField_int h ⟨.str (Dj _),H,I.tok _,⟨_,rfl⟩,q⟩
 | str h=>
  obtain⟨t,rfl⟩:=(show ∃t,u=Value.str y t from r);exact wpAny_formatField_str ⟨.str y,H,I,⟨_,rfl⟩,q⟩ ⟨.str y,H,I.tok _,⟨_,rfl⟩,q⟩ h
 | @tup a is hs hi hz=>
  cases (show u=Value.ref a from r);obtain⟨its,vr,⟨o,ho,hc,n,hd⟩,hl⟩:=I.tuple hs;have rd:Reads s.heap (.ref a) (.tuple (is.map PyData.int)) []:=.tuple ho hc hd (readsAll_ints vr);have e:(PyData.tuple (is.map PyData.int)).shown=shI is:=by simp only[PyData.shown,shownAll_ints];rfl
  have hdp:(PyData.tuple (is.map PyData.int)).depth<=3:=by
   have:=depthAll_ints is;simp only[PyData.depth];lia
  refine formatField_of_reads rd (by simp only[PyData.showable];exact showableAll_ints is hi) (PyData.noDict_hsm (by simp only[PyData.hasDict];exact Jq is)) hr.gd (by have:=hr.un;lia) (fun _ _ z=>z) (fun h' u tk hk=>?_) (by rw[e];exact hz);rw[e];exact⟨.str (shI is),H,I.kept hk,⟨_,rfl⟩,q⟩
end
def mL(K:Fr)(tv:TE):TE:=fun Z H Q=>tv Z H fun x H1=>∃y,sU K H1 x y/\Q (.str y) H1
noncomputable abbrev TJ:=Str->St->Hp->VK->Prop
def PJ(X:Cx)(es:List Expr)(t:TJ):Prop:=∀ ⦃pins:List (Addr×Obj)⦄ (s:Shared) (Z:St) (H:Hp) (out:Str) (Q:VK),Inv X pins Z H s->t out Z H Q->wpAny (model X.prog X.w) X.A (joinParts out (evalEach es X.env)) (EP X pins Z Q) X.xe s
def ACy:TJ:=fun out _ H Q=>out.length<=sizeLine/\Q (.str out) H
def V1(te:TE)(t:TJ):TJ:=fun out Z H Q=>te Z H fun x H1=>∃y,x=.str y/\(out++y).length<=sizeLine/\t (out++y) Z H1 Q
def xG(t:TJ):TE:=fun Z H Q=>t Str.empty Z H Q
section
variable{X:Cx}{k:Nat}{e e₂:Expr}{es:List Expr}{te:TE}{t:TJ}{pos:Pos}
theorem N5(hr:Wn k X.A)(h:PE X e te):PE X (.FormattedValue e (-1) none pos) (mL X.K te):=by
 intro pins s Z H Q I hw;refine FormattedValue_plain (thn (h s Z H _ I hw) fun u s1 hZ=>?_);obtain⟨x,H1,I1,r,y,f,q⟩:=hZ;exact AAu hr I1 r f q
theorem Xh:PJ X [] ACy:=fun pins s Z H out Q I h=>joinParts_nil ⟨.str out,H,I.tok _,⟨_,rfl⟩,h.2⟩ h.1
theorem Fx(h1:PE X e te)(h2:PJ X es t):PJ X (e::es) (V1 te t):=by
 intro pins s Z H out Q I h;show wpAny _ _ (joinParts out (eval e X.env::evalEach es X.env)) _ _ _;refine joinParts_cons (thn (h1 s Z H _ I h) fun u s1 hZ=>?_);obtain⟨x,H1,I1,r,y,ex,hz,q⟩:=hZ;subst ex;obtain⟨tk,rfl⟩:=(show ∃tk,u=Value.str y tk from r);exact⟨hz,h2 s1 Z H1 (out++y) Q I1 q⟩
theorem Q4(h:PJ X (e::e₂::es) t):PE X (.JoinedStr (e::e₂::es) pos) (xG t):=fun pins s Z H Q I hw=>JoinedStr_many (h s Z H Str.empty Q I hw)
end
def wk(K:Fr)(ta:TE)(f:Str):TE:=fun Z H Q=>ta Z H fun x H1=>∃a C d fs v,x=.ref a/\H1 a=some (ABb a (.ref C) (some d))/\H1 d=some (.xd fs)/\ABV K C/\PySem.W.hasDictIn K C=true/\PySem.W.findIn K (.ref C) f=some none/\fs.lookup f=some v/\Q v H1
section
variable{X:Cx}{e:Expr}{f:Str}{pos:Pos}{ta:TE}
end
section
variable{X:Cx}{EE:Value->Option Addr->St->Hp->Prop}
structure lM(P:Program)(w:World)(K:Fr)(mg:Str->Option Value)(base:Heap)(CX:CXT)(k:Nat)(C:Addr)(m:Str)(ps:List Str)(sp:Sp):Prop where
 ex:∃(f:Addr) (fd:FuncData),FN P w K mg base CX k f fd ps sp/\Binds K fd ps []/\Meth K C m f
structure lO(P:Program)(w:World)(K:Fr)(mg:Str->Option Value)(base:Heap)(CX:CXT)(k:Nat)(x:Str)(C:Addr)(ps:List Str)(sp:Sp):Prop where
 ex:∃(f:Addr) (fd:FuncData),FN P w K mg base CX k f fd ps sp/\Binds K fd ps []/\Mk K C f/\mg x=some (.ref C)
variable{C:Addr}{m x:Str}{k:Nat}{ps:List Str}{sp:Sp}{o e:Expr}{es:List Expr}{ta:TE}{t:TA}{apos pos p:Pos}
theorem Ec{pl:Sem Bool}(O:lM X.prog X.w X.K X.mg X.base CX0 k C m ps sp)(c:Cls X.K C)(he:PE X o ta)(ha:PA X (e::es) t)(hr:Ek k X.A:=by walk_at"hr")
 (hst:‹starEach (e::es) X.env=(false,eval e X.env)::starEach es X.env›)(hpl:‹(backTo pos (starEach es X.env)).any (·.1)=false›)
 (ht:‹eval (.Call (.Attribute o m apos) (e::es) [] pos) X.env=(do
  let ov <-eval o X.env
  standAt apos.atName
  let (f,first) <-holding [ov] (getMethod ov m pl)
  callWith pos f first (backTo pos (starEach (e::es) X.env)) (backToKw pos (keywordEach [] X.env)))›):
 PE X (.Call (.Attribute o m apos) (e::es) [] pos) (Ym C m sp [] E0 ta t):=by
 obtain⟨f,fd,F,hb,M⟩:=O.ex;exact ur (pl:=pl) he c M F hr hb .nil MT ha hst hpl ht
theorem Cu{pl:Sem Bool}(O:lM X.prog X.w X.K X.mg X.base CX0 k C m ps sp)(c:Cls X.K C)(he:PE X o ta)(hr:Ek k X.A:=by walk_at"hr")
 (ht:‹eval (.Call (.Attribute o m apos) [] [] pos) X.env=(do
  let ov <-eval o X.env
  standAt apos.atName
  let (f,first) <-holding [ov] (getMethod ov m pl)
  callWith pos f first (backTo pos (starEach [] X.env)) (backToKw pos (keywordEach [] X.env)))›):
 PE X (.Call (.Attribute o m apos) [] [] pos) (Ym C m sp [] E0 ta Iz):=by
 obtain⟨f,fd,F,hb,M⟩:=O.ex;exact o9 (pl:=pl) he c M F hr hb .nil MT ht
theorem GP(O:lO X.prog X.w X.K X.mg X.base CX0 k x C ps sp)(ha:PA X (e::es) t)(hr:Ek (k+1) X.A:=by walk_at"hr")(hg:Gl X x:=by exact rfl)
 (hdb:(x==("__debug__":Str))=false:=by decide)(he:‹starEach (e::es) X.env=(false,eval e X.env)::starEach es X.env›)(hpl:‹(backTo pos (starEach es X.env)).any (·.1)=false›):
 PE X (.Call (.Name x p) (e::es) [] pos) (Vk C sp [] E0 t):=by
 obtain⟨f,fd,F,hb,M,hm⟩:=O.ex;exact fX M F hr hg hm hb .nil MT ha hdb he hpl
end
theorem J9{i:Int}(h:i.natAbs.log2<1920):(Dj i).length<=1921:=by
 have e:=int_text_length_le (k:=1920) nofun h;unfold Dj;rw[PySem.ofString_length];lia
theorem fits{s:Str}{n:Nat}(h:s.length<=n)(hn:n<=100000):s.length<=sizeLine:=zv h (zv hn nofun)
theorem Qx{out:Str}(h:out.length<=sizeLine)(q:Q (.str out) H):ACy out Z H Q:=⟨h,q⟩
theorem Ry{t:TJ}{out:Str}(n:Nat)(hn:out.length<=n)(hz:n+x.length<=100000)(h:(out++x).length<=n+x.length->t (out++x) Z H Q):V1 (tC (.str x)) t out Z H Q:=by
 have e:(out++x).length<=n+x.length:=by rw[strLen_append];lia
 exact⟨x,rfl,fits e hz,h e⟩
theorem ZX{j:Nat}{i:Int}{t:TJ}{out:Str}(n:Nat)(hn:out.length<=n)(hz:n+1921<=100000)(hv:Z[j]?=some (some (.int i)))(hi:i.natAbs.log2<1920)(h:(out++Dj i).length<=n+1921->t (out++Dj i) Z H Q):
 V1 (mL K (Gp j)) t out Z H Q:=by
 have e:(out++Dj i).length<=n+1921:=by have:=J9 hi;rw[strLen_append];lia
 unfold V1 mL;exact J0 hv ⟨Dj i,.int hi,Dj i,rfl,fits e hz,h e⟩
theorem ACa{j:Nat}{z:Str}{t:TJ}{out:Str}(n m:Nat)(hn:out.length<=n)(hm:z.length<=m)(hz:n+m<=100000)(hv:Z[j]?=some (some (.str z)))(h:(out++z).length<=n+m->t (out++z) Z H Q):
 V1 (mL K (Gp j)) t out Z H Q:=by
 have e:(out++z).length<=n+m:=by rw[strLen_append];lia
 unfold V1 mL;exact J0 hv ⟨z,.str (fits hm ⋯),z,rfl,fits e hz,h e⟩
section
variable{X:Cx}
theorem Nv{t:TT}{ta tb:TE}(h:t Z H fun c H1=>if c=true then ta Z H1 Q else tb Z H1 Q):tIf t ta tb Z H Q:=h
def ADr(K:Fr):List V->Hp->VK->Prop:=fun xs H Q=>∃(p:Addr) (ns:List Int),xs=[.ref p]/\SqL K H p (ns.map V.int)/\Q (.int ns.sum) H
theorem Mr(hc:X.calm=true):IV X (.builtin "sum") (ADr X.K):=by
 intro pins s Z H xs us Q I r h;obtain⟨p,ns,rfl,hq,q⟩:=h;obtain⟨u,rfl,ru⟩:=vals1 r;cases (show u=Value.ref p from ru);obtain⟨its,rv,pl,_⟩:=I.list hq;have hi:=intsAre_of rv;obtain⟨xs,hx⟩:=hi.allInts.items;have hl':s.heap.IsList p (intItems xs):=hx ▸ pl.isList;refine sum_intListG (I.ok.hd hc) hl' fun h' tk t' hk=>?_;have e1:ns=xs.toList.map (·.1):=by
  rw[<-nums_intItems,<-hx];exact(show numsOf its.toArray.toList=ns from hi.numsOf).symm
 have e2:preSum (numAt xs) xs.size=ns.sum:=by
  rw[preSum_eq,uk (by simp),e1]
 rw[e2];exact⟨.int ns.sum,H,I.kept hk,⟨_,rfl⟩,q⟩
def ACf(K:Fr):List V->Hp->VK->Prop:=fun xs H Q=>∃(p:Addr) (ns:List Int),xs=[.ref p]/\SqL K H p (ns.map V.int)/\ns≠[]/\∀m,m∈ns->(∀a∈ns,m<=a)->Q (.int m) H
def ACg(K:Fr):List V->Hp->VK->Prop:=fun xs H Q=>∃(p:Addr) (ns:List Int),xs=[.ref p]/\SqL K H p (ns.map V.int)/\ns≠[]/\∀m,m∈ns->(∀a∈ns,a<=m)->Q (.int m) H
theorem WP(hc:X.calm=true):IV X (.builtin "min") (ACf X.K):=by
 intro pins s Z H xs us Q I r h;obtain⟨p,ns,rfl,hq,hne,q⟩:=h;obtain⟨u,rfl,ru⟩:=vals1 r;cases (show u=Value.ref p from ru);obtain⟨its,rv,pl,_⟩:=I.list hq;have hi:=intsAre_of rv;obtain⟨xs,e⟩:=hi.allInts.items;have hns:ns=xs.toList.map (·.1):=by
  rw[<-nums_intItems,<-e];exact(show numsOf its.toArray.toList=ns from hi.numsOf).symm
 have hsz:0<xs.size:=by
  have h3:=List.length_pos_iff.mpr hne;rw[hns,jp,Qb] at h3;exact h3
 have hl':s.heap.IsList p (intItems xs):=e ▸ pl.isList;refine min_intList (I.ok.hd hc) hl' hsz fun v h' tk hv hk=>?_;obtain⟨t,rfl⟩:=intItems_at hv;obtain⟨h1,h2⟩:=argBest_lt (numAt xs) (xs.size-1);refine⟨.int _,H,I.kept hk,⟨_,rfl⟩,q _ ?_ fun a ha=>?_⟩
 ·rw[hns,numAt_eq];exact getD_mem (by rw[jp,Qb];lia)
 ·rw[hns] at ha;obtain⟨j,hj,rfl⟩:=mem_getD ha;rw[jp,Qb] at hj;rw[<-numAt_eq];exact h2 j ⋯
theorem km(hc:X.calm=true):IV X (.builtin "max") (ACg X.K):=by
 intro pins s Z H xs us Q I r h;obtain⟨p,ns,rfl,hq,hne,q⟩:=h;obtain⟨u,rfl,ru⟩:=vals1 r;cases (show u=Value.ref p from ru);obtain⟨its,rv,pl,_⟩:=I.list hq;have hi:=intsAre_of rv;obtain⟨xs,e⟩:=hi.allInts.items;have hns:ns=xs.toList.map (·.1):=by
  rw[<-nums_intItems,<-e];exact(show numsOf its.toArray.toList=ns from hi.numsOf).symm
 have hsz:0<xs.size:=by
  have h3:=List.length_pos_iff.mpr hne;rw[hns,jp,Qb] at h3;exact h3
 have hl':s.heap.IsList p (intItems xs):=e ▸ pl.isList;refine max_intList (I.ok.hd hc) hl' hsz fun v h' tk hv hk=>?_;obtain⟨t,rfl⟩:=intItems_at hv;obtain⟨h1,h2⟩:=argBest_gt (numAt xs) (xs.size-1);refine⟨.int _,H,I.kept hk,⟨_,rfl⟩,q _ ?_ fun a ha=>?_⟩
 ·rw[hns,numAt_eq];exact getD_mem (by rw[jp,Qb];lia)
 ·rw[hns] at ha;obtain⟨j,hj,rfl⟩:=mem_getD ha;rw[jp,Qb] at hj;rw[<-numAt_eq];exact h2 j ⋯
end
section
variable{X:Cx}{M:List Str}{x:Str}{scope:Scope}{cl:List (Str×Addr)}{C:Addr}{s₀:Shared}{H₀:Hp}{fp:List Addr}
theorem Hx:IxR (La X M x scope cl C s₀ H₀ fp) (uo X.K):=J8
end
section
variable{X:Cx}{tg:Expr}
def AAs(ta:TA):TI:=fun Z H R=>ta Z H fun vs H1=>∃i j:Int,vs=[.int i,.int j]/\R (Itr i (j-i).toNat) H1
theorem oM{R:It->Hp->Prop}(h:ta Z H fun vs H1=>∃i j:Int,vs=[.int i,.int j]/\R (Itr i (j-i).toNat) H1):AAs ta Z H R:=h
end
section
variable{X:Cx}
def xU:V->List V->Hp->VK->Prop:=fun x vs H Q=>∃n:Int,x=.int n/\vs=[]/\Q (.int ((Builtin.Int.intBits n:Nat):Int)) H
theorem gD:MtR X "int.bit_length" xU:=by
 intro pins s Z H x vs v us Q I rx rv h;obtain⟨n,rfl,rfl,q⟩:=h;obtain⟨t,rfl⟩:=rx;cases rv.zero;exact call_int_bit_length ⟨.int _,H,I.tok _,⟨_,rfl⟩,q⟩
end
theorem oX{n:Int}(h:Q (.int ((Builtin.Int.intBits n:Nat):Int)) H):tyV K "int" (.int n) H/\xU (.int n) [] H Q:=⟨rfl,n,rfl,rfl,h⟩
theorem JB{T:String}{r:V->List V->Hp->VK->Prop}{to:TE}{t:TA}(h:to Z H fun x H1=>tyV K T x H1/\t Z H1 fun xs H2=>r x xs H2 Q):tBM K T r to t Z H Q:=h
theorem Ny{i:Nat}{t:TA}{l:Addr}(e:Z[i]?=some (some (.ref l)))(h:H l=some (.lst xs))
 (g:t Z H fun ys H2=>Qy (.ref l) ys H2 Q):tBM K "list" Qy (Gp i) t Z H Q:=by unfold tBM;exact J0 e ⟨.inl ⟨rfl,_,SqL.of h⟩,g⟩
theorem PB{b:Nat}(h:b≠0):Builtin.Int.intBits (b:Int)=b.log2+1:=by
 unfold Builtin.Int.intBits;rw[xp (by simp;lia),jl9]
theorem dY{b:Nat}(h:b≠0):Builtin.bitAnd (b:Int) (-(b:Int))=(b:Int)-((b &&& (b-1):Nat):Int):=by
 unfold Builtin.bitAnd;rw[decide_eq_true (jm0 b),decide_eq_false ⋯];show(b:Int)-(((b:Int).toNat &&& (Builtin.bitNot (-(b:Int))).toNat:Nat):Int)=_;unfold Builtin.bitNot;rw[xa,show(-(-(b:Int))-1).toNat=b-1 by lia]
theorem vQ{m k:Nat}(h:k<m):ixN m (k:Int)=some k:=by
 unfold ixN;rw[xy ⋯,xy ⋯,xa]
theorem fM{p:Addr}{k:Nat}{v:V}{Q:Hp->Prop}(h:H p=some (.lst xs))(hk:k<xs.length)(q:Q (upd H p (.lst (xs.set k v)))):xR (.ref p) (.int (k:Int)) v H Q:=
 ⟨p,xs,k,k,rfl,rfl,h,vQ hk,q⟩
theorem cC{l:Addr}{k:Int}(h:H l=some (.lst xs))(h0:0<=k)(h1:k<2^60)(hz:xs.length*k.toNat<=sizeLine)(q:∀p,H p=none->Q (.ref p) (upd H p (.lst (List.replicate k.toNat xs).flatten))):ACe (.ref l) (.int k) H Q:=
 ⟨l,k,xs,rfl,rfl,h,⋯,⋯,hz,q⟩
theorem zg{l b:Addr}{zs:List V}(h:H l=some (.lst xs))(g:H b=some (.lst zs))(hz:xs.length+zs.length<=sizeLine)(q:∀p,H p=none->Q (.ref p) (upd H p (.lst (xs++zs)))):ACh (.ref l) (.ref b) H Q:=
 ⟨l,b,xs,zs,rfl,rfl,h,g,hz,q⟩
theorem Tc{lo c:Int}{n:Nat}{g:TG}{tb:TS}{D:Ends}(Pv:Nat->St->Hp->Prop)(h0:Pv 0 Z H)
 (hs:∀i Z H,i<n->Pv i Z H->g (.int (lo+i*c)) Z H fun σ2 H2=>tb { D with nx:=Pv (i+1),ct:=Pv (i+1),bk:=D.nx } σ2 H2)(hd:∀Z H,Pv n Z H->D.nx Z H):
 ∃W:Nat->Nat->St->Hp->Prop,(∃m,W 0 m Z H)/\∀i m Z H,W i m Z H->
  ((lL lo c n).stop i H/\D.nx Z H)\/((lL lo c n).go i H/\∃N:St->Hp->Prop,(∀Z' H',N Z' H'->∃m',m'<m/\W (i+1) m' Z' H')/\∀x H',(lL lo c n).yld i H x H'->g x Z H' fun σ2 H2=>tb { D with nx:=N,ct:=N,bk:=D.nx } σ2 H2):=by
 refine⟨fun i m Z H=>m=n-i/\i<=n/\Pv i Z H,⟨n,by simp,ke _,h0⟩,?_⟩;rintro i m Z H ⟨rfl,hi,p⟩;by_cases hlt:i<n
 ·refine .inr ⟨hlt,Pv (i+1),fun Z' H' p'=>⟨n-(i+1),⋯,rfl,hlt,p'⟩,fun x H' y=>?_⟩;obtain⟨e,y⟩:=y;subst e y;exact hs i Z _ hlt p
 ·have e:i=n:=⋯
  subst e;exact .inl ⟨qq _,hd Z H p⟩
theorem MF{i j c:Int}(c0:0<c):Builtin.Range.rangeSize i j c=if i<j then (j-i-1)/c+1 else 0:=by
 unfold Builtin.Range.rangeSize;rw[xy c0]
def wu(ta:TE):TT:=fun Z H Q=>ta Z H fun x H'=>∃i:Int,x=.int i/\Q (i != 0) H'
theorem ud{i:Int}{Q:Bool->Hp->Prop}(h:Q (i != 0) H):∃j:Int,V.int i=.int j/\Q (j != 0) H:=⟨i,rfl,h⟩
theorem zx{X:Cx}{a:Expr}{ta:TE}(ha:PE X a ta)(he:∀whole,isTrue a X.env whole=(do let v <-whole;standAt a.pos;holding [v] (truthy v))):PT X a (wu ta):=by
 intro pins s Z H Q I h;refine isTrue_plain (thn (ha s Z H _ I h) fun v s1 hZ=>?_) (he _);obtain⟨x,H1,I1,r1,q1⟩:=hZ;obtain⟨i,rfl,q⟩:=q1;exact yS pins s1 Z H1 _ v Q I1 r1 ⟨_,rfl,q⟩
section
variable{X:Cx}{M:List Str}{x:Str}{scope:Scope}{cl:List (Str×Addr)}{C:Addr}{s₀:Shared}{H₀:Hp}{fp:List Addr}
end
theorem Gr{a:Addr}{lo hi:Option Int}(h:SqL K H a xs)(q:∀p,H p=none->Q (.ref p) (upd H p (.lst (Io xs lo hi)))):ACd K (.ref a) lo hi H Q:=⟨a,xs,rfl,h,q⟩
theorem kW(xs:List Int)(k:Nat):Io (xs.map V.int) (some (k:Int)) none=(xs.drop k).map V.int:=by
 unfold Io;rw[HT.sIx_nat,HT.sIx_none,jp,List.map_drop];by_cases h:k<=xs.length
 ·rw[jm5 h,uk (by rw[jc0,jp];lia)]
 ·rw[Nat.min_eq_right ⋯,uj (by rw[jp];lia),uj (by rw[jp];lia),List.take_nil]
theorem zc{i:Int}{P:Int->Prop}(h:P i):∃j,V.int i=.int j/\P j:=⟨i,rfl,h⟩
section
variable{X:Cx}
theorem Js{lo c:Int}:∀(acc:List Value) (k:Nat),(∀(j:Nat) (v:Value),acc[j]?=some v->∃t,v=.int (lo+((k+j:Nat):Int)*c) t)->Vals ((List.range' k acc.length).map fun(i:Nat)=>V.int (lo+(i:Int)*c)) acc
 | [],k,_=>.nil
 | v::acc,k,h=>by
  rw[qr,List.range'_succ,zw];refine .cons ?_ (Js acc (k+1) fun j u hu=>?_)
  ·obtain⟨t,ht⟩:=h 0 v (by simp);exact⟨t,by rw[ht];simp⟩
  ·obtain⟨t,ht⟩:=h (j+1) u (by simpa using hu);exact⟨t,by rw[ht,show k+(j+1)=k+1+j by lia]⟩
end
theorem IK{J:It}{ok:Hp->Prop}(Wk:Walk J ok xs)(hz:xs.length<sizeLine)(Pv:Addr->Nat->List V->Hp->Prop)
 (h0:∀D,H D=none->Pv D 0 [] (upd H D (.lst [])))
 (hD:∀D i ys H2,H D=none->Pv D i ys H2->H2 D=some (.lst ys)/\ys.length<=i/\ok H2)
 (hs:∀D i x ys H2,H D=none->xs[i]?=some x->Pv D i ys H2->tt (some x::Z) H2 fun b H4=>if b=true then te (some x::Z) H4 fun y H5=>H5 D=some (.lst ys)/\Pv D (i+1) (ys++[y]) (upd H5 D (.lst (ys++[y]))) else Pv D (i+1) ys H4)
 (h:∀D ys H2,H D=none->Pv D xs.length ys H2->Q (.ref D) H2):iM tt te Z Q J H:=by
 intro D hD0;refine⟨fun i m ys H2=>i<=xs.length/\m=xs.length-i/\Pv D i ys H2,⟨_,ke _,rfl,h0 D hD0⟩,?_⟩;rintro i m ys H2 ⟨hi,rfl,p⟩;obtain⟨d1,d2,d3⟩:=hD D i ys H2 hD0 p;refine⟨d1,?_⟩;by_cases hlt:i<xs.length
 ·refine .inr ⟨Wk.go i _ d3 hlt,⋯,xs.length-(i+1),⋯,fun x H3 hy=>?_⟩;obtain⟨e3,ex⟩:=Wk.yld i _ x H3 d3 hy hlt;subst e3;have:=hs D i x ys H3 hD0 ex p;refine cast ?_ this
  congr 1
  funext b H4
  cases b with
  | false=>simp only[Bool.false_eq_true,if_false];exact propext ⟨fun z=>⟨hlt,trivial,z⟩,fun z=>z.2.2⟩
  | true=>
   simp only[if_true]
   congr 1
   funext y H5
   exact propext ⟨fun z=>⟨z.1,hlt,trivial,z.2⟩,fun z=>⟨z.1,z.2.2.2⟩⟩
 ·have e:i=xs.length:=⋯
  subst e;exact .inl ⟨Wk.stop _ _ d3 (qq _),h D ys H2 hD0 p⟩
section
variable{X:Cx}
end
theorem ZZ{k:Nat}{g:TG}(h:wi Z H (Us k g tt te Z Q)):mR k wi g tt te Z H Q:=h
section
variable{X:Cx}{M xs:List Str}{scope:Scope}{cl:List (Str×Addr)}{C:Addr}{s₀:Shared}{H₀:Hp}{fp:List Addr}
theorem Zc{es:List Expr}{k:Nat}{t:TGs}{n:Nat}(hc:X.calm=true)(h:PGs (DP X M xs scope cl C s₀ H₀ fp) es t)
 (hn:‹(assignEach es (DP X M xs scope cl C s₀ H₀ fp).env).length=n›)(hst:‹(assignEach es (DP X M xs scope cl C s₀ H₀ fp).env).findIdx? (·.1)=none›):PG (DP X M xs scope cl C s₀ H₀ fp) (.Tuple es k pos) (qU X.K n t):=
 JR hc h hn hst
end
structure Kg(K:Fr)(x qual:Str)(st:Stmt)(f:Addr)(fd:FuncData)(ds:Array Value):Prop where
 ex:∃(oc:Value) (od:Option Addr) (T:Addr) (to:Obj) (tn:Nat) (kV doc pm:Value) (an:Option Addr) (cdv ct:Value) (osl:Array (Option Value)),
  fd=PySem.W.fnOf x qual (FZ st) (Df st) (BX st) (.ref T) kV doc pm an cdv ct/\K.lookup f=some ⟨oc,od,.func fd,osl⟩/\PySem.W.codeIn K cdv qual=true/\K.lookup T=some to/\to.data=.seq ds tn
 kp:PySem.W.keepIn K (.ref f)=true
section
variable{P:Program}{w:World}{K:Fr}{mg:Str->Option Value}{base:Heap}{x qual:Str}{st:Stmt}{f:Addr}{fd:FuncData}{N ps:List Str}{k:Nat}{sp:Sp}{ds:Array Value}
theorem Kg.ok(F:Kg K x qual st f fd ds)(S:Cy N ps (BX st))(len:∀{vs H Q E},sp vs H Q E->vs.length=ps.length)
 (hbody:∀{cdv:Value} {A:Around} {outer:List Env} {s:Shared} (nd:N.Nodup) (H:Hp) (vs:List V) (Q:VK) (E:XK),Ek k (A.deeper (envOfC qual (BX st) s.heap.objs.size f cdv))->sp vs H Q E->
  ∃t,PSs (VR CX0 P w K mg base N qual (BX st) f cdv A outer s H E).nox (Df st) t/\t { nx:=fun _ H'=>Q .non H',rt:=Q } (start N vs) H):FN P w K mg base CX0 (k+1) f fd ps sp:=by
 obtain⟨oc,od,T,to,tn,kV,doc,pm,an,cdv,ct,osl,rfl,lk,hcd,_⟩:=F.ex;refine yC lk hcd S (fun _ _ _ _=>len) fun A outer s H vs Q E hr hsp=>?_;obtain⟨t,h,q⟩:=hbody S.nd H vs Q E hr hsp;exact⟨t,h.nox,q⟩
theorem Kg.bindsD{dv:List Value}(n:Nat)(hn:n+dv.length=ps.length)(F:Kg K x qual st f fd ds)
 (h:∀(T:Addr) (kV doc pm:Value) (an:Option Addr) (cdv ct:Value) (us:List Value),us.length=n->
  ∃k:Option (Array Value)->Sem (List (Str×Value)),bindArgs (PySem.W.fnOf x qual (FZ st) (Df st) (BX st) (.ref T) kV doc pm an cdv ct) ⟨us,[]⟩=seqItems? (.ref T) >>= k/\k (some ds)=pure (ps.zip (us++dv))):Binds K fd ps dv:=by
 obtain⟨oc,od,T,to,tn,kV,doc,pm,an,cdv,ct,osl,rfl,lk,hcd,ht,hs⟩:=F.ex;intro s us KX hl;obtain⟨k,h1,h2⟩:=h T kV doc pm an cdv ct us (by rw[zh] at hl;lia);exact PySem.W.binds_K KX rfl ht hs h1 h2
theorem X8{oc:Value}{od an:Option Addr}{osl:Array (Option Value)}{kV doc pm cdv ct:Value}{T:Addr}{to:Obj}{tn:Nat}(l:K.lookup f=some ⟨oc,od,.func (PySem.W.fnOf x qual (FZ st) (Df st) (BX st) (.ref T) kV doc pm an cdv ct),osl⟩)
 (c:PySem.W.codeIn K cdv qual=true)(k:PySem.W.keepIn K (.ref f)=true)(t:K.lookup T=some to)(d:to.data=.seq ds tn):Kg K x qual st f (PySem.W.fnOf x qual (FZ st) (Df st) (BX st) (.ref T) kV doc pm an cdv ct) ds:=
 ⟨⟨oc,od,T,to,tn,kV,doc,pm,an,cdv,ct,osl,rfl,l,c,t,d⟩,k⟩
end
structure Bq(P:Program)(w:World)(K:Fr)(mg:Str->Option Value)(base:Heap)(CX:CXT)(k:Nat)(x:Str)(ps:List Str)(dvs:List V)(sp:Sp):Prop where
 ex:∃(f:Addr) (fd:FuncData) (ds:List Value),FN P w K mg base CX k f fd ps sp/\Binds K fd ps ds/\Vals dvs ds/\PySem.W.keepIn K (.ref f)=true/\mg x=some (.ref f)
structure sV(P:Program)(w:World)(K:Fr)(mg:Str->Option Value)(base:Heap)(CX:CXT)(k:Nat)(x:Str)(C:Addr)(ps:List Str)(dvs:List V)(sp:Sp):Prop where
 ex:∃(f:Addr) (fd:FuncData) (ds:List Value),FN P w K mg base CX k f fd ps sp/\Binds K fd ps ds/\Vals dvs ds/\Mk K C f/\mg x=some (.ref C)
section
variable{X:Cx}{EE:Value->Option Addr->St->Hp->Prop}{C:Addr}{m x:Str}{k:Nat}{ps:List Str}{dvs:List V}{sp:Sp}{o e:Expr}{es:List Expr}{ta:TE}{t:TA}{apos pos p:Pos}
theorem AAQ(O:sV X.prog X.w X.K X.mg X.base CX0 k x C ps dvs sp)(hr:Ek (k+1) X.A)(hg:Gl X x)(ha:PA X (e::es) t)
 (hdb:(x==("__debug__":Str))=false:=by decide)(he:‹starEach (e::es) X.env=(false,eval e X.env)::starEach es X.env›)(hpl:‹(backTo pos (starEach es X.env)).any (·.1)=false›):
 PE X (.Call (.Name x p) (e::es) [] pos) (Vk C sp dvs E0 t):=by
 obtain⟨f,fd,ds,F,hb,hv,M,hm⟩:=O.ex;exact fX M F hr hg hm hb hv MT ha hdb he hpl
end
section
variable{X:Cx}
end
section
variable{X:Cx}{pins:List (Addr×Obj)}{Z:St}{H:Hp}{s:Shared}
end
structure Ie(P:Program)(w:World)(K:Fr)(mg:Str->Option Value)(base:Heap)(CX:CXT)(k:Nat)(m:Str)(ps:List Str)(L:List (Addr×Sp)):Prop where
 ex:∀p∈L,Cls K p.1/\∃(f:Addr) (fd:FuncData),FN P w K mg base CX k f fd ps p.2/\Binds K fd ps []/\Meth K p.1 m f
theorem Ie.nil{P:Program}{w:World}{mg:Str->Option Value}{base:Heap}{CX:CXT}{k:Nat}{m:Str}{ps:List Str}:Ie P w K mg base CX k m ps []:=⟨fun p hp=>(nomatch hp)⟩
theorem FN.up{P:Program}{w:World}{mg:Str->Option Value}{base:Heap}{CX:CXT}{k j:Nat}{f:Addr}{fd:FuncData}{ps:List Str}(F:FN P w K mg base CX k f fd ps sp)(h:k<=j):FN P w K mg base CX j f fd ps sp:=
 ⟨F.len,fun A outer s H args us vs Q E hr e0 hb r hs=>F.run A outer s H args us vs Q E (hr.mono h) e0 hb r hs⟩
theorem Ie.cons{P:Program}{w:World}{mg:Str->Option Value}{base:Heap}{CX:CXT}{k j:Nat}{m:Str}{ps:List Str}{C:Addr}{L:List (Addr×Sp)}(c:Cls K C)(O:lM P w K mg base CX j C m ps sp)(h:j<=k)(r:Ie P w K mg base CX k m ps L):Ie P w K mg base CX k m ps ((C,sp)::L):=by
 refine⟨fun p hp=>?_⟩;rcases zo.mp hp with e | e
 ·subst e;obtain⟨f,fd,F,hb,M⟩:=O.ex;exact⟨c,f,fd,F.up h,hb,M⟩
 ·exact r.ex p e
def RM(L:List (Addr×Sp))(m:Str)(ta:TE)(t:TA):TE:=fun Z H Q=>ta Z H fun x H1=>∃a C dx fs sp,(C,sp)∈L/\x=.ref a/\H1 a=some (.ins C dx fs)/\fs.lookup m=none/\
 t Z H1 fun vs H2=>sp (x::(vs++[])) H2 Q E0
section
variable{X:Cx}{EE:Value->Option Addr->St->Hp->Prop}{L:List (Addr×Sp)}{m:Str}{k:Nat}{ps:List Str}{o e:Expr}{es:List Expr}{ta:TE}{t:TA}{apos pos:Pos}
theorem SX{pl:Sem Bool}(O:Ie X.prog X.w X.K X.mg X.base CX0 k m ps L)(hr:Ek k X.A)(he:PE X o ta)(ha:PA X (e::es) t)
 (hst:‹starEach (e::es) X.env=(false,eval e X.env)::starEach es X.env›)(hpl:‹(backTo pos (starEach es X.env)).any (·.1)=false›)
 (ht:‹eval (.Call (.Attribute o m apos) (e::es) [] pos) X.env=(do
  let ov <-eval o X.env
  standAt apos.atName
  let (f,first) <-holding [ov] (getMethod ov m pl)
  callWith pos f first (backTo pos (starEach (e::es) X.env)) (backToKw pos (keywordEach [] X.env)))›):
 PE X (.Call (.Attribute o m apos) (e::es) [] pos) (RM L m ta t):=by
 intro pins s Z H Q I h;refine jg5 (pl:=pl) (thn (he s Z H _ I h) fun u s1 hZ=>?_) ht;obtain⟨x,H1,I1,rx,a,C,dx,fs,sp,mem,ex,ea,l,q⟩:=hZ;subst ex;obtain rfl:u=Value.ref a:=rx;obtain⟨c,f,fd,F,hb,hm⟩:=O.ex _ mem;refine JZ I1 ea c hm l ?_;refine je1 (first:=[.ref a]) (h₀:=X.base) I.ok.mod.kin hm.kp (thn (ha (pos:=pos) pins s1 Z H1 _ I1 q) fun us s2 ⟨vs,H2,I2,r,q2⟩=>⟨I2.kIn,?_⟩) hst hpl
 exact Nu (us:=.ref a::us) (vs:=.ref a::vs) F hr hb .nil MT I2 (.cons rfl r) q2
theorem CG{pl:Sem Bool}(O:Ie X.prog X.w X.K X.mg X.base CX0 k m ps L)(he:PE X o ta)(hr:Ek k X.A:=by walk_at"hr")
 (ht:‹eval (.Call (.Attribute o m apos) [] [] pos) X.env=(do
  let ov <-eval o X.env
  standAt apos.atName
  let (f,first) <-holding [ov] (getMethod ov m pl)
  callWith pos f first (backTo pos (starEach [] X.env)) (backToKw pos (keywordEach [] X.env)))›):
 PE X (.Call (.Attribute o m apos) [] [] pos) (RM L m ta Iz):=by
 intro pins s Z H Q I h;refine jg5 (pl:=pl) (thn (he s Z H _ I h) fun u s1 hZ=>?_) ht;obtain⟨x,H1,I1,rx,a,C,dx,fs,sp,mem,ex,ea,l,q⟩:=hZ;subst ex;obtain rfl:u=Value.ref a:=rx;obtain⟨c,f,fd,F,hb,hm⟩:=O.ex _ mem;refine JZ I1 ea c hm l ?_;exact jp9 (first:=[.ref a]) I1.kIn hm.kp (Nu (us:=[.ref a]) (vs:=[.ref a]) F hr hb .nil MT I1 (.cons rfl .nil) q)
end
theorem AAh{α:Type}{us:List α}(h:us.length=1):∃a0,us=[a0]:=by
 match us,h with
 | [a0],_=>exact⟨a0,rfl⟩
theorem vK{α:Type}{us:List α}(h:us.length=2):∃a0 a1,us=[a0,a1]:=by
 match us,h with
 | [a0,a1],_=>exact⟨a0,a1,rfl⟩
theorem AAg{α:Type}{us:List α}(h:us.length=3):∃a0 a1 a2,us=[a0,a1,a2]:=by
 match us,h with
 | [a0,a1,a2],_=>exact⟨a0,a1,a2,rfl⟩
theorem ACv{α:Type}{us:List α}(h:us.length=4):∃a0 a1 a2 a3,us=[a0,a1,a2,a3]:=by
 match us,h with
 | [a0,a1,a2,a3],_=>exact⟨a0,a1,a2,a3,rfl⟩
theorem AAf{α:Type}{us:List α}(h:us.length=5):∃a0 a1 a2 a3 a4,us=[a0,a1,a2,a3,a4]:=by
 match us,h with
 | [a0,a1,a2,a3,a4],_=>exact⟨a0,a1,a2,a3,a4,rfl⟩
theorem ADx{α:Type}{us:List α}(h:us.length=6):∃a0 a1 a2 a3 a4 a5,us=[a0,a1,a2,a3,a4,a5]:=by
 match us,h with
 | [a0,a1,a2,a3,a4,a5],_=>exact⟨a0,a1,a2,a3,a4,a5,rfl⟩
theorem ACu{α:Type}{us:List α}(h:us.length=7):∃a0 a1 a2 a3 a4 a5 a6,us=[a0,a1,a2,a3,a4,a5,a6]:=by
 match us,h with
 | [a0,a1,a2,a3,a4,a5,a6],_=>exact⟨a0,a1,a2,a3,a4,a5,a6,rfl⟩
theorem ADw{α:Type}{us:List α}(h:us.length=8):∃a0 a1 a2 a3 a4 a5 a6 a7,us=[a0,a1,a2,a3,a4,a5,a6,a7]:=by
 match us,h with
 | [a0,a1,a2,a3,a4,a5,a6,a7],_=>exact⟨a0,a1,a2,a3,a4,a5,a6,a7,rfl⟩
section
variable{X:Cx}
end
section
variable{X:Cx}
end
theorem qy(xs:List V)(k:Nat):Io xs none (some (k:Int))=xs.take k:=by
 unfold Io;rw[HT.sIx_none,HT.sIx_nat,jl1,Nat.sub_zero];by_cases h:k<=xs.length
 ·rw[jm5 h]
 ·rw[Nat.min_eq_right ⋯,uk (qq _),uk ⋯]
section
variable{X:Cx}
end
section
variable{X:Cx}
end
noncomputable def Vm(c:Nat):V:=.str ⟨#[c]⟩
noncomputable def Its(z:Str):It:=⟨fun i _=>i<z.cps.size,fun i H x H'=>H'=H/\∃c,z.cps[i]?=some c/\x=Vm c,fun i _=>z.cps.size<=i⟩
theorem mC{P:Program}{w:World}{tg:Expr}(z:Str)(t:Tok)(it:Addr):Turn P w K tg (Its z) [it] it (fun i h=>h.IsStrIter it "str_ascii_iterator" z t i) where
 mem:=by simp
 obj:=fun i h st b hb=>by
  have e:b=it:=by simpa using hb
  subst e;obtain⟨o,e,c,d⟩:=st;exact⟨o,e,fun v z=>by rw[d] at z;cases z⟩
 keep:=fun i h h' st k=>by
  obtain⟨o,e,r⟩:=st;exact⟨o,k it (by simp) o e,r⟩
 item:=by
  intro X hP hw hK hc i pins s Z H E I hf st hg;subst hP hw hK;have hg':i<z.cps.size:=hg;obtain⟨f0,f1,f2,f3,f4,f5⟩:=hf it (by simp);refine wpAny_pyNext_ascii_item st (c:=z.cps[i]) (by simp[hg']) fun h' st' sb=>?_;have I1:Inv X pins Z H { s with heap:=h',toks:=s.toks+1 }:=I.turned (t':=s.toks+1) (fun b o hb e=>(sb.2 b hb).trans e) f0 f1 f3 f4 f5;obtain⟨o,e,c,d⟩:=id st';exact⟨_,rfl,Zr (s:={ s with heap:=h',toks:=s.toks+1 }) e c d nofun ⟨Vm z.cps[i],H,I1,⟨_,rfl⟩,⟨rfl,_,by simp[hg'],rfl⟩,st',fun b hb=>(hf b hb).1⟩⟩
 done:=by
  intro X hP hw hK hc i pins s Z H E I hf st hg;subst hP hw hK;have hg':z.cps.size<=i:=hg;obtain⟨f0,f1,f2,f3,f4,f5⟩:=hf it (by simp);exact wpAny_pyNext_ascii_end (I.ok.hd hc) st (by simp[hg']) fun h' eb=>⟨rfl,I.turned (t':=s.toks) (fun b o hb e=>eb b o hb e) f0 f1 f3 f4 f5⟩
 self:=fun _ _ _ _ _ st h=>wpAny_pyIter_striter_ascii st h
noncomputable def asc(z:Str):Bool:=z.cps.all (· <128)
def ADG(tl:TE):TI:=fun Z H R=>tl Z H fun x H1=>∃z,x=.str z/\asc z=true/\R (Its z) H1
section
variable{X:Cx}{tg:Expr}
theorem oh{l:Expr}{tl:TE}(hl:PE X l tl):PI X tg l (ADG tl):=by
 intro pins s Z H R I h;refine thn (hl s Z H _ I h) fun v s1 hZ=>?_;obtain⟨x,H1,I1,r1,q1⟩:=hZ;obtain⟨z,e,ha,q⟩:=q1;subst e;obtain⟨t,rfl⟩:=(show ∃t,v=Value.str z t from r1);refine wpAny_pyIter_ascii ha ?_;refine⟨s1.heap.objs.size,[s1.heap.objs.size],_,_,H1,rfl,I1.kept (t':=s1.toks) fun b o e=>qf _ e,mC z t _,⟨_,xb _ rfl,rfl,rfl⟩,fun b hb=>?_,q⟩;have e:b=s1.heap.objs.size:=by simpa using hb
 subst e;exact I1.fpOk (qq _) (I1.hok.fresh (qq _))
def ADs:V->Option Int->Option Int->Hp->VK->Prop:=fun x lo hi H Q=>∃z,x=.str z/\z.length<=sizeLine/\Q (.str (Txt.slice z lo hi)) H
theorem Zg{v:Value}{o:Option Int}(h:IsPart v o):∃l:Option (Int×Tok),v=partValue l/\l.map (·.1)=o:=by
 cases h with
 | none=>exact⟨none,rfl,rfl⟩
 | int i t=>exact⟨some (i,t),rfl,rfl⟩
theorem W7:SlR X ADs:=by
 intro pins s Z H x v vl vu lo hi sl Q I rx hs pl pu h;obtain⟨z,rfl,hz,q⟩:=h;obtain⟨t,rfl⟩:=(show ∃t,v=Value.str z t from rx);obtain⟨l,rfl,rfl⟩:=Zg pl;obtain⟨u,rfl,rfl⟩:=Zg pu;refine⟨"str",_,F.slot_str_getitem.lookup,typeIs_str _ _ _,wpAny_getItem_str_slice (l:=l) (u:=u) (st:=none) hs rfl ?_⟩;refine post_val_or_str ⟨zv (Txt.slice_le z _ _) hz,fun t' k=>?_⟩;exact⟨.str _,H,I.kept (t':=k) fun b o e=>e,⟨_,rfl⟩,q⟩
theorem VP:MtR X "str.startswith" (fun x xs H Q=>∃z y,x=.str z/\xs=[.str y]/\Q (.bl (Txt.startswith z y)) H):=by
 intro pins s Z H x xs v us Q I rx rs h;obtain⟨z,y,rfl,rfl,q⟩:=h;obtain⟨t,rfl⟩:=(show ∃t,v=Value.str z t from rx);obtain⟨u,rfl,ru⟩:=vals1 rs;obtain⟨t',rfl⟩:=(show ∃t,u=Value.str y t from ru);exact call_gives F.slot_str_startswith (typeIs_str _ _ _) F.entry_str_startswith (F.args_str_startswith_2 _ _) (gives_str_startswith z y t t') ⟨.bl _,H,I,rfl,q⟩
theorem Ff:IV X (.type "int") (fun xs H Q=>∃z n,xs=[.str z]/\z.length<=640/\PySem.intText? z=some n/\Q (.int n) H):=by
 intro pins s Z H xs us Q I r h;obtain⟨z,n,rfl,hl,hn,q⟩:=h;obtain⟨u,rfl,ru⟩:=vals1 r;obtain⟨t,rfl⟩:=(show ∃t,u=Value.str z t from ru);exact PySem.W.KIN.call_text hn hl ⟨.int n,H,I.tok _,⟨_,rfl⟩,q⟩
end
theorem aq{z:Str}:Walk (Its z) (fun _=>True) (z.cps.toList.map Vm):=
 ⟨fun i H _ hi=>(by show i<z.cps.size;simpa using hi),fun i H x H' _ y hi=>⟨y.1,by
  obtain⟨c,hc,rfl⟩:=y.2;rw[xo,Array.getElem?_toList,hc];rfl⟩,fun i H _ hi=>(by show z.cps.size<=i;simpa using hi)⟩
theorem oO{tl:TE}{R:It->Hp->Prop}(h:tl Z H fun x H1=>∃z,x=.str z/\asc z=true/\R (Its z) H1):ADG tl Z H R:=h
theorem fK(x:Str)(t:Tok):RelV (.str x) (.str x t):=⟨t,rfl⟩
noncomputable def constStr?:Expr->Option Str
 | .Constant (.str x) _ _=>some x
 | _=>none
def mJ(ss:List Str):TA:=fun _ H Q=>Q (ss.map V.str) H
theorem fj{X:Cx}:∀{es:List Expr} {ss:List Str},es.map constStr?=ss.map some->PA X es (mJ ss)
 | [],[],_=>Ab
 | [],_::_,h=>nomatch h
 | _::_,[],h=>nomatch h
 | e::es,x::ss,h=>by
  rw[zw,zw] at h;injection h with h1 h2;have ih:=fj (X:=X) (es:=es) (ss:=ss) h2;unfold constStr? at h1;split at h1
  ·injection h1 with h1;subst h1;exact Aa Ah ih rfl
  ·cases h1
theorem Xi{X:Cx}{es:List Expr}{ss:List Str}(h:es.map constStr?=ss.map some):PE X (.List es pos) (yX (mJ ss)):=Du (fj h)
theorem Xc{ss:List Str}{Q:List V->Hp->Prop}(h:Q (ss.map V.str) H):mJ ss Z H Q:=h
section
variable{X:Cx}
end
inductive IW(P:Program)(w:World)(K:Fr)(mg:Str->Option Value)(base:Heap)(k:Nat):List (Str×Sp)->Prop
 | nil:IW P w K mg base k []
 | cons {x:Str} {ps:List Str} {sp:Sp} {L:List (Str×Sp)}:Cal P w K mg base k x ps sp->IW P w K mg base k L->IW P w K mg base k ((x,sp)::L)
theorem IW.get{P:Program}{w:World}{mg:Str->Option Value}{base:Heap}{k:Nat}{L:List (Str×Sp)}(h:IW P w K mg base k L){x:Str}{sp:Sp}(hm:(x,sp)∈L):∃ps,Cal P w K mg base k x ps sp:=by
 induction h with
 | nil=>cases hm
 | cons C _ ih=>
  rcases zo.mp hm with e | e
  ·injection e with e1 e2;subst e1;subst e2;exact⟨_,C⟩
  ·exact ih e
def mV(mg:Str->Option Value)(i:Nat)(L:List (Str×Sp))(t:TA):TE:=fun Z H Q=>∃f x sp,Z[i]?=some (some (.ref f))/\(x,sp)∈L/\mg x=some (.ref f)/\t Z H fun vs H1=>sp vs H1 Q E0
section
variable{X:Cx}{pos:Pos}
theorem uv{k i:Nat}{L:List (Str×Sp)}{e:Expr}{es:List Expr}{t:TA}{p:Pos}(CV:IW X.prog X.w X.K X.mg X.base k L)(hr:Ek k X.A)(hN:X.N[i]?=some x)(hv:Vis X.env.scope x)(ha:PA X (e::es) t)
 (hdb:(x==("__debug__":Str))=false:=by decide)(hcd:(x==("__classdict__":Str))=false:=by decide)(he:‹starEach (e::es) X.env=(false,eval e X.env)::starEach es X.env›)(hpl:‹(backTo pos (starEach es X.env)).any (·.1)=false›):
 PE X (.Call (.Name x p) (e::es) [] pos) (mV X.mg i L t):=by
 intro pins s Z H Q I h;obtain⟨f,y,sp,hf,hm,hmg,h⟩:=h;obtain⟨ps,C⟩:=CV.get hm;obtain⟨f',fd,F,b,kp,m⟩:=C.ex;have ef:f'=f:=by
  rw[hmg] at m;injection m with m;injection m with m;exact m.symm
 subst ef;refine je2 ?_;refine thn (o7 hN hv hdb hcd s Z H (fun v H1=>v=.ref f'/\H1=H) I (J0 hf ⟨rfl,rfl⟩)) fun v s1 hZ=>?_;obtain⟨y,H1,I1,r1,q1⟩:=hZ;obtain⟨rfl,rfl⟩:=q1;cases r1;refine je1 (h₀:=X.base) I1.ok.mod.kin kp (thn (ha (pos:=pos) pins s1 Z _ _ I1 h) fun us s2 ⟨vs,H2,I2,r,q⟩=>⟨I2.kIn,?_⟩) he hpl;dsimp only at q;have hl:us.length=ps.length:=by rw[<-r.length];exact F.len _ _ _ _ q
 have hb:=b s2 us I2.kIn (by rw[yy];exact hl);rw[yy] at hb;show wpAny _ _ (call (.ref f') us) _ _ _;refine wpAny_call (jo1 (F.run X.A X.stack s2 H2 ⟨us,[]⟩ us vs Q _ hr I2.env0 hb r q) fun z s' hq=>?_);cases z with
 | error e=>exact False.elim hq
 | ok fl=>
  cases fl with
  | ret u=>exact I2.after hq
  | next=>exact False.elim hq
  | brk=>exact False.elim hq
  | cont=>exact False.elim hq
theorem oV{mg:Str->Option Value}{i:Nat}{L:List (Str×Sp)}{t:TA}{f:Addr}(h1:Z[i]?=some (some (.ref f)))(h2:(x,sp)∈L)(h3:mg x=some (.ref f))(h:t Z H fun vs H1=>sp vs H1 Q E0):mV mg i L t Z H Q:=⟨f,x,sp,h1,h2,h3,h⟩
end
section
variable{X:Cx}{pins:List (Addr×Obj)}{Z:St}{H:Hp}{s:Shared}{h':Heap}
theorem Inv.turnedNew{t':Nat}{ch:List Addr}{T:Addr}{o:HO}(I:Inv X pins Z H s)(k:∀b u,b∉ch->s.heap.get? b=some u->h'.get? b=some u)(hf:∀b∈ch,Kh X pins H b)
 (hp:s.heap.objs.size<=T)(new:Er X.prog X.w (upd H T o) h' T o):Inv X pins Z (upd H T o) { s with heap:=h',toks:=t' }:=by
 have hn:H T=none:=I.hok.fresh hp;have nit:∀b u,H b=some u->b∉ch:=fun b u e z=>by rw[(hf b z).1] at e;cases e
 refine I.step (g':=s.gens) (d':=s.drawn) (ch:=ch) (fun b hb=>⟨(hf b hb).2.2.2.1,(hf b hb).2.1,(hf b hb).2.2.2.2.1,(hf b hb).2.2.2.2.2⟩) (fun b u _ _ hc e _=>k b u hc e) (fun b u _ _ hc e _=>⟨u.slots,k b u hc e⟩)
  (fun b u _ e n=>by rw[BK (ku (xk (xi e) hp))];exact n)
  (fun b u hc e=>⟨u,k b u hc e⟩) (fun b xs q=>by rw[BK (Bu q hn)];exact q) (fun b u xs q=>by rw[BK (Bu q hn)];exact q) (fun b ps q=>⟨#[],by rw[BK (Bu q hn),q];simp⟩) (fun m hm=>?_) (fun b u e=>?_) I.bare
 ·obtain⟨u,es,ep,ho,r⟩:=hm;exact⟨u,es,ep,k _ u (fun z=>(hf _ z).2.1 rfl) ho,r⟩
 ·by_cases hb:b=T
  ·subst hb;rw[Am] at e;cases e;exact new
  ·rw[BK hb] at e;refine(I.hok b u e).stay (fun c v hc q=>k c v ?_ q) (fun c q=>by rw[BK (Bu q hn)];exact q) fun c xs q=>by rw[BK (Bu q hn)];exact q
   rcases hc with z | z
   ·rw[z];exact nit b u e
   ·exact nit c _ z
theorem Inv.turnedL{t':Nat}{ch:List Addr}(I:Inv X pins Z H s)(k:∀b u,b∉ch->s.heap.get? b=some u->h'.get? b=some u)(hf:∀b∈ch,Kh X pins H b):Inv X pins Z H { s with heap:=h',toks:=t' }:=by
 have nit:∀b u,H b=some u->b∉ch:=fun b u e z=>by rw[(hf b z).1] at e;cases e
 refine I.step (g':=s.gens) (d':=s.drawn) (ch:=ch) (fun b hb=>⟨(hf b hb).2.2.2.1,(hf b hb).2.1,(hf b hb).2.2.2.2.1,(hf b hb).2.2.2.2.2⟩) (fun b u _ _ hc e _=>k b u hc e) (fun b u _ _ hc e _=>⟨u.slots,k b u hc e⟩)
  (fun _ _ _ _ n=>n) (fun b u hc e=>⟨u,k b u hc e⟩) (fun b xs q=>q) (fun b u xs q=>q) (fun b ps q=>⟨#[],by rw[q];simp⟩) (fun m hm=>?_) (fun b u e=>?_) I.bare
 ·obtain⟨u,es,ep,ho,r⟩:=hm;exact⟨u,es,ep,k _ u (fun z=>(hf _ z).2.1 rfl) ho,r⟩
 ·refine(I.hok b u e).stay (fun c v hc q=>k c v ?_ q) (fun c q=>q) fun c xs q=>q;rcases hc with z | z
  ·rw[z];exact nit b u e
  ·exact nit c _ z
end
theorem yL{n a b:Nat}(ha:a<n)(hb:b<n):ZipApart (n+4) (n+2) (n+3) n (n+1) a b:=
 ⟨show n+2≠n+4 by lia,show n+3≠n+4 by lia,show n≠n+4 by lia,show n+1≠n+4 by lia,show n+2≠n+3 by lia,show n+2≠n by lia,show n+2≠n+1 by lia,show n+3≠n by lia,show n+3≠n+1 by lia,show n≠n+1 by lia,
  show a≠n+4 by lia,show a≠n+3 by lia,show a≠n by lia,show a≠n+1 by lia,show b≠n+4 by lia,show b≠n+3 by lia,show b≠n by lia,show b≠n+1 by lia⟩
section
variable{X:Cx}
theorem O4{M:List Str}{tg:Expr}{xs:List Str}{y:Str}{py spos:Pos}{ifs:List Expr}{cl:List (Str×Addr)}{g:TG}{i:Nat}(hN:X.N.Nodup)(hiy:X.N[i]?=some y)(hy:Loc X.env.scope y)
 (hc:X.calm=true)(ok:M8 X M xs scope cl)(hi:PI X tg iter wi)
 (ht:∀C s₀ H₀ fp,dZ (DP X M xs scope cl C s₀ H₀ fp) ifs tt)(hg:∀C s₀ H₀ fp,PG (DP X M xs scope cl C s₀ H₀ fp) tg g)(he:∀C s₀ H₀ fp,PE (DP X M xs scope cl C s₀ H₀ fp) elt te)
 (hsw:swapsWith (.ListComp elt [⟨tg,iter,ifs,0⟩] scope pos) (some (.Name y py)) spos.line X.env=pure true:=by with_unfolding_all rfl)
 (hf:X.fn y=true\/X.env.scope.names.lookup y=some .local:=by first | exact .inl rfl | exact .inr rfl | assumption)
 (hs:∀x,foldedSetIterable iter X.env x=pure x:=by intro _;rfl):
 PS X (.Assign [.Name y py] (.ListComp elt [⟨tg,iter,ifs,0⟩] scope pos) spos) (bI (mR xs.length wi g tt te) (Hk i)):=by
 intro pins s Z H D I h;rw[exec_Assign_Name_used _ _ _ _ hsw];refine js (jo8 (js ?_));show wpAny _ X.A (do let _ <-comprehension (.ListComp elt [⟨tg,iter,ifs,0⟩] scope pos) scope X.env _ (newList []) false (eval iter X.env) (some (assign (.Name y py) X.env))) _ _ s;refine js (ja9 (jl8 (use:=some (assign (.Name y py) X.env)) (Q:=fun _ s'=>SP X pins D .next s') rfl hs ok.clos ok.kind ok.names
  (thn (hi s Z H _ I h) fun xv s1 h1=>thn h1 fun itv s2 h2=>?_)) (fun _ s' hq=>ya (ya hq)) fun _ _ e=>e)
 obtain⟨it,fp,tn,J,H2,e,I2,T,st2,f2,hW⟩:=h2;subst e;refine Tq (Q:=fun x H1=>Hk i x Z H1 D.nx) hc ok ht hg he I2 T st2 f2 hW (compPost (model X.prog X.w) X.A X.xe (some (assign (.Name y py) X.env)) (fun _ s'=>SP X pins D .next s')) fun Dd C H3 s4 I4 hm fC q=>?_
 obtain⟨m,hn⟩:=hm;show wpAny _ X.A (assign (.Name y py) X.env (.ref Dd)) _ _ _;refine wpAny_assign_Name (NZ I4 hN hiy hy (v:=.ref Dd) rfl (fun s5 I5 hsb=>?_) hf);obtain⟨a,sb,ha⟩:=hsb;have hCa:C≠a:=by
  rcases ha with rfl | ha
  ·exact fC.2.1
  ·exact(fC.2.2.2.2.1 _ _ ha).symm
 exact⟨m,hn.sameBut sb hCa,fun h' hsb'=>⟨_,H3,I5.turned (t':=s5.toks) (fun b o hb e=>hsb'.extBut b o hb e) fC.1 fC.2.1 fC.2.2.2.1 fC.2.2.2.2.1 fC.2.2.2.2.2,q⟩⟩
end
structure ADd(K:Fr)(mg:Str->Option Value)(x:Str)(CB f:Addr):Prop where
 bound:mg x=some (.ref CB)
 sp:PySem.W.specialIn K (.ref CB) "__getattribute__"=some (some (.builtin "type.__getattribute__"))
 rd:PySem.W.readsIn K CB (.type "type")=true
 fc:PySem.W.findCls K (.ref CB) (.type "type") "__init__"=some (.val (.ref f))
 kp:PySem.W.keepIn K (.ref f)=true
structure ABc(P:Program)(w:World)(K:Fr)(mg:Str->Option Value)(base:Heap)(k:Nat)(x:Str)(ps:List Str)(sp:Sp):Prop where
 ex:∃(f CB:Addr) (fd:FuncData),FN P w K mg base CX0 k f fd ps sp/\Binds K fd ps []/\ADd K mg x CB f
section
variable{X:Cx}
theorem Dw{k:Nat}{ps:List Str}{e:Expr}{es:List Expr}{t:TA}{p apos:Pos}{pl:Sem Bool}(O:ABc X.prog X.w X.K X.mg X.base k x ps sp)(ha:PA X (e::es) t)(hr:Ek k X.A:=by walk_at"hr")(hg:Gl X x:=by exact rfl)
 (hdb:(x==("__debug__":Str))=false:=by decide)(hst:‹starEach (e::es) X.env=(false,eval e X.env)::starEach es X.env›)(hpl:‹(backTo pos (starEach es X.env)).any (·.1)=false›)
 (ht:‹eval (.Call (.Attribute (.Name x p) "__init__" apos) (e::es) [] pos) X.env=(do
  let ov <-eval (.Name x p) X.env
  standAt apos.atName
  let (f,first) <-holding [ov] (getMethod ov "__init__" pl)
  callWith pos f first (backTo pos (starEach (e::es) X.env)) (backToKw pos (keywordEach [] X.env)))›):
 PE X (.Call (.Attribute (.Name x p) "__init__" apos) (e::es) [] pos) (Jl sp [] E0 t):=by
 intro pins s Z H Q I h;obtain⟨f,CB,fd,F,hb,N⟩:=O.ex;refine jg5 (pl:=pl) (Ml I hg N.bound ?_ hdb) ht;refine PySem.W.method_cls I.kIn N.sp (PySem.W.cls_value I.kIn N.rd N.fc rfl ?_);have I1:Inv X pins Z H { s with toks:=s.toks+1 }:=I.tok _;refine je1 (first:=[]) (h₀:=X.base) I.ok.mod.kin N.kp (thn (ha pins _ Z H _ I1 h) fun us s2 ⟨vs,H2,I2,r,q2⟩=>⟨I2.kIn,?_⟩) hst hpl
 exact Nu (us:=us) (vs:=vs) F hr hb .nil MT I2 r q2
theorem cJ{k:Nat}{C:Addr}{ps:List Str}{p:Pos}(O:lO X.prog X.w X.K X.mg X.base CX0 k x C ps sp)(hr:Ek (k+1) X.A)(hg:Gl X x)
 (hdb:(x==("__debug__":Str))=false:=by decide):PE X (.Call (.Name x p) [] [] pos) (Vk C sp [] E0 Iz):=by
 obtain⟨f,fd,F,hb,M,hm⟩:=O.ex;exact pA M F hr hg hm hb .nil MT hdb
end
section
variable{X:Cx}
end
section
variable{X:Cx}
end
end L2
namespace L2
open PySem PySem.Spec PyProof.Rows PySem.Builtin PySem.Builtin.Str
noncomputable def plc(c:Nat):Nat->List Nat->List Nat
 | _,[]=>[]
 | k,a::l=>if a=c then k::plc c (k+1) l else plc c (k+1) l
noncomputable def spl(c:Nat):List Nat->List (List Nat)
 | []=>[[]]
 | a::l=>if a=c then []::spl c l else ((a::(spl c l).headD [])::(spl c l).drop 1)
theorem mq(c:Nat)(l:List Nat):spl c (c::l)=[]::spl c l:=by
 conv=>lhs;unfold spl
 rw[xy rfl]
theorem Wz{c a:Nat}(l:List Nat)(h:a≠c):spl c (a::l)=(a::(spl c l).headD [])::(spl c l).drop 1:=by
 conv=>lhs;unfold spl
 rw[xp h]
theorem RP{a b:Str}(h:a.cps=b.cps):a=b:=by
 cases a;cases b;exact yk Str.mk h
theorem yd(c:Nat):∀l,spl c l≠[]
 | []=>fun h=>nomatch h
 | a::l=>by
  unfold spl;split
  ·exact fun h=>nomatch h
  ·exact fun h=>nomatch h
theorem Qu(c:Nat)(l:List Nat):spl c l=(spl c l).headD []::(spl c l).drop 1:=by
 have:=yd c l;cases h:spl c l with
 | nil=>exact absurd h this
 | cons p ps=>rfl
theorem fU(c:Nat):∀(l:List Nat) (k:Nat),(plc c k l).length+1=(spl c l).length
 | [],_=>rfl
 | a::l,k=>by
  have ih:=fU c l (k+1);unfold plc spl;split
  ·rw[qr,qr,ih]
  ·rw[ih,Qu c l];rfl
theorem Vp(c:Nat):∀(l:List Nat) (k:Nat),(plc c k l).length=l.count c
 | [],_=>rfl
 | a::l,k=>by
  have ih:=Vp c l (k+1);unfold plc;rw[List.count_cons];split
  ·rename_i h
   rw[qr,ih,xy (by simpa using h)]
  ·rename_i h
   rw[ih,xp (by simpa using h)];rfl
theorem Lj(c:Nat):∀(p l:List Nat),c∉p->spl c (p++c::l)=p::spl c l
 | [],l,_=>mq c l
 | a::p,l,h=>by
  have ih:=Lj c p l fun z=>h (qk _ z);show spl c (a::(p++c::l))=_;rw[Wz _ (fun z=>h (by rw[z];exact qc)),ih];rfl
theorem Wy(c:Nat):∀(p:List Nat),c∉p->spl c p=[p]
 | [],_=>rfl
 | a::p,h=>by
  rw[Wz _ (fun z=>h (by rw[z];exact qc)),Wy c p fun z=>h (qk _ z)];rfl
theorem N6(c:Nat)(L:List Nat):∀(l:List Nat) (k s0:Nat),L.drop k=l->s0<=k->k<=L.length->
 ((s0::(plc c k l).map (· +1)).zip (plc c k l++[L.length])).map (fun (ij:Nat×Nat)=>(L.drop ij.1).take (ij.2-ij.1))=((L.drop s0).take (k-s0)++(spl c l).headD [])::(spl c l).drop 1
 | [],k,s0,h,h1,h2=>by
  have e:k=L.length:=by
   have:=yk List.length h;rw[jc0] at this;simp at this;lia
  subst e;show[(L.drop s0).take (L.length-s0)]=[(L.drop s0).take (L.length-s0)++[]];rw[yy]
 | a::l,k,s0,h,h1,h2=>by
  have kl:k<L.length:=by
   have:=yk List.length h;rw[jc0,qr] at this;lia
  have hd:L.drop (k+1)=l:=by
   rw[<-List.drop_drop,h];rfl
  unfold plc spl;split
  ·have ih:=N6 c L l (k+1) (k+1) hd (qq _) kl;rw[zw,ji6,List.zip_cons_cons,zw,ih,Nat.sub_self,jq7,jk2,<-Qu];show _=((L.drop s0).take (k-s0)++[])::spl c l;rw[yy]
  ·have ih:=N6 c L l (k+1) s0 hd ⋯ kl;rw[ih];have e:(L.drop s0).take (k+1-s0)=(L.drop s0).take (k-s0)++[a]:=by
    have hk:(L.drop s0)[k-s0]?=some a:=by
     rw[List.getElem?_drop,show s0+(k-s0)=k by lia];have:=yk (fun z=>z[0]?) h;simpa [List.getElem?_drop] using this
    rw[show k+1-s0=(k-s0)+1 by lia,kx,hk];rfl
   rw[e,jc4];rfl
noncomputable def cps(z:Str):List Nat:=z.cps.toList
theorem Kp(z:Str):(cps z).length=z.length:=Qb
theorem Xp(x:Str)(c:Nat):∀(n k free:Nat) (acc:Array Nat),k+n=x.length+1->free<=k->acc.size<=k->
 (forIn (List.range' k n) (acc,free) (StrLaws.occBody x ⟨#[c]⟩ x.length (x.length+1))).run.fst.toList=acc.toList++plc c k ((cps x).drop k)
 | 0,k,free,acc,h,_,_=>by
  rw[uj (by rw[Kp];lia)];show acc.toList=acc.toList++[];rw[yy]
 | n+1,k,free,acc,h,hf,ha=>by
  rw[List.range'_succ,jm2];have one:(⟨#[c]⟩:Str).length=1:=rfl;by_cases z:(cps x)[k]?=some c
  ·have kl:k<(cps x).length:=(qv.mp z).1;have hs:=(StrLaws.subAt_one x c k).mpr z;have ed:(cps x).drop k=c::(cps x).drop (k+1):=by
    rw[jb6 kl,(qv.mp z).2]
   have ih:=Xp x c n (k+1) (k+1) (acc.push k) ⋯ (qq _) (by rw[Array.size_push];lia);unfold StrLaws.occBody;rw[xy ⟨⟨⟨by show acc.size<x.length+1;lia,hf⟩,hs.1⟩,hs.2⟩,ed];unfold plc;rw[xy rfl];have e2:acc.toList++k::plc c (k+1) ((cps x).drop (k+1))=(acc.push k).toList++plc c (k+1) ((cps x).drop (k+1)):=by
    rw[Array.toList_push,jc4];rfl
   rw[e2];exact ih
  ·have hs:¬(k+(⟨#[c]⟩:Str).length<=x.length/\subAt x ⟨#[c]⟩ k=true):=fun y=>z ((StrLaws.subAt_one x c k).mp y);have ih:=Xp x c n (k+1) free acc ⋯ ⋯ ⋯;have ep:plc c k ((cps x).drop k)=plc c (k+1) ((cps x).drop (k+1)):=by
    by_cases kl:k<(cps x).length
    ·rw[jb6 kl];have:(cps x)[k]≠c:=fun y=>z (by rw[qm kl,y]);show(if (cps x)[k]=c then _ else _)=_;rw[xp this]
    ·rw[uj ⋯,uj ⋯];rfl
   unfold StrLaws.occBody;rw[xp fun y=>hs ⟨y.1.2,y.2⟩,ep];exact ih
theorem f9(x:Str)(c:Nat):occurrences x ⟨#[c]⟩ 0 x.length (x.length+1)=plc c 0 (cps x):=by
 rw[StrLaws.occ_eq];have:=Xp x c (x.length+1) 0 0 #[] ⋯ (qq _) (qq _);simpa using this
theorem Zf(x:Str)(c:Nat):partsBetween x (plc c 0 (cps x)) 1=(spl c (cps x)).map fun p=>(⟨p.toArray⟩:Str):=by
 have h:=N6 c (cps x) (cps x) 0 0 rfl (qq _) (ke _);rw[jq7,jk2,<-Qu] at h;rw[<-h,va];unfold partsBetween;rw[<-Kp];refine jp1 fun ij _=>?_;refine RP (jf7.mp ?_);rw[StrLaws.strSub_toList];rfl
section
variable{X:Cx}
theorem Wv:∀(ps:List Str) (tk:Nat),Vals (ps.map V.str) (strsFrom tk ps)
 | [],_=>.nil
 | p::ps,tk=>.cons ⟨tk,rfl⟩ (Wv ps (tk+1))
theorem RN:∀{zs:List Str} {us:List Value},Vals (zs.map V.str) us->StrsAre us zs
 | [],_,.nil=>.nil
 | z::zs,_,.cons r rs=>by
  obtain⟨t,rfl⟩:=(show ∃t,_=Value.str z t from r);exact .cons z t (RN rs)
noncomputable def JP(c:Nat)(z:Str):List Str:=(spl c (cps z)).map fun p=>(⟨p.toArray⟩:Str)
theorem Yo(c:Nat)(z:Str):(JP c z).length<=z.length+1:=by
 unfold JP;rw[jp,<-fU c (cps z) 0,Vp,<-Kp];exact Nat.succ_le_succ List.count_le_length
theorem O2{c:Nat}{z:Str}(h:plc c 0 (cps z)=[]):JP c z=[z]:=by
 have e:=Zf z c;rw[h] at e;unfold JP;rw[<-e];show[strSub z 0 z.length]=[z];refine yk (fun y=>[y]) (RP (jf7.mp ?_));rw[StrLaws.strSub_toList,jl1,Nat.sub_zero];exact uk (by show z.cps.toList.length<=z.cps.size;rw[Qb];exact qq _)
def zm:V->List V->Hp->VK->Prop:=fun x xs H Q=>∃z c,x=.str z/\xs=[.str ⟨#[c]⟩]/\c<256/\z.length<=1000000/\∀l,H l=none->Q (.ref l) (upd H l (.lst ((JP c z).map V.str)))
theorem JC:MtR X "str.split" zm:=by
 intro pins s Z H x xs v us Q I rx rs h;obtain⟨z,c,rfl,rfl,hc,hz,q⟩:=h;obtain⟨t,rfl⟩:=(show ∃t,v=Value.str z t from rx);obtain⟨u,rfl,ru⟩:=vals1 rs;obtain⟨t',rfl⟩:=(show ∃t,u=Value.str ⟨#[c]⟩ t from ru);have sl:z.length+1<=sizeLine:=zv (Nat.succ_le_succ hz) nofun;have one:(⟨#[c]⟩:Str).length=1:=rfl;have itself:JP c z=[z]->EP X pins Z Q (.ref s.heap.objs.size) { s with heap:=s.heap.push { cls:=.type "list",data:=.seq [Value.str z t].toArray } }:=fun e=>by
  refine⟨.ref _,_,I.laid (a:=s.heap.objs.size) (o:=.lst ((JP c z).map V.str)) (fun _ _ e=>qf _ e) (qq _) ⟨by rw[e];show 1<=sizeLine;decide,[Value.str z t],0,by rw[e];exact .cons ⟨t,rfl⟩ .nil,xb _ rfl⟩,rfl,q _ I.fresh⟩
 by_cases h1:(decide (z.length<(⟨#[c]⟩:Str).length)||decide (PySem.Builtin.Str.strKind z<PySem.Builtin.Str.strKind ⟨#[c]⟩))=true
 ·have e:JP c z=[z]:=by
   have k1:PySem.Builtin.Str.strKind (⟨#[c]⟩:Str)=1:=by
    unfold PySem.Builtin.Str.strKind;simp[hc]
   have k0:1<=PySem.Builtin.Str.strKind z:=by
    unfold PySem.Builtin.Str.strKind
    repeat' split
    all_goals lia
   rw[k1,one,decide_eq_false (show ¬PySem.Builtin.Str.strKind z<1 by lia),jo7,decide_eq_true_eq] at h1;refine O2 ?_;have:cps z=[]:=jd1.mp (by rw[Kp];lia);rw[this];rfl
  exact call_meets F.slot_str_split (typeIs_str _ _ _) F.entry_str_split (F.args_str_split_2 _ _) (meets_str_split_cannot_occur z ⟨#[c]⟩ t t' h1) (itself e)
 ·have h1':=(jo2 _).mp h1;by_cases h2:(occurrences z ⟨#[c]⟩ 0 z.length (z.length+1)).isEmpty=true
  ·have e:JP c z=[z]:=by
    rw[f9,List.isEmpty_iff] at h2;exact O2 h2
   exact call_meets F.slot_str_split (typeIs_str _ _ _) F.entry_str_split (F.args_str_split_2 _ _) (meets_str_split_not_found z ⟨#[c]⟩ t t' h1' rfl h2) (itself e)
  ·have h2':=(jo2 _).mp h2;have ep:partsBetween z (occurrences z ⟨#[c]⟩ 0 z.length (z.length+1)) (⟨#[c]⟩:Str).length=JP c z:=by rw[f9];exact Zf z c
   refine call_meets F.slot_str_split (typeIs_str _ _ _) F.entry_str_split (F.args_str_split_2 _ _) (meets_str_split_sep z ⟨#[c]⟩ t t' h1' rfl h2' ⋯ (by rw[ep];exact zv (Yo c z) sl)) ?_;rw[ep];exact⟨.ref _,_,I.laid (a:=s.heap.objs.size) (o:=.lst ((JP c z).map V.str)) (fun _ _ e=>qf _ e) (qq _) ⟨by rw[jp];exact zv (Yo c z) sl,strsFrom s.toks (JP c z),0,Wv _ _,xb _ rfl⟩,rfl,q _ I.fresh⟩
def rJoin(K:Fr):V->List V->Hp->VK->Prop:=fun x xs H Q=>∃z l zs,x=.str z/\xs=[.ref l]/\SqL K H l (zs.map V.str)/\(zs.map (·.length)).sum+zs.length*z.length<=16777216/\Q (.str (Txt.join z zs)) H
theorem gC:MtR X "str.join" (rJoin X.K):=by
 intro pins s Z H x xs v us Q I rx rs h;obtain⟨z,l,zs,rfl,rfl,hl,hz,q⟩:=h;obtain⟨t,rfl⟩:=(show ∃t,v=Value.str z t from rx);obtain⟨u,rfl,ru⟩:=vals1 rs;obtain rfl:u=Value.ref l:=ru;obtain⟨its,r,pl,_⟩:=I.list hl;exact join_list pl.isList (by simpa using RN r) hz fun t' k=>⟨.str _,H,I.tok _,⟨_,rfl⟩,q⟩
end
end L2
namespace L2
open PySem PySem.Spec PyProof.Rows
section
variable{s:Shared}{A:Around}{w:World}{prog:Program}
theorem AAd{R:Result->Shared->Prop}{g:Addr}{x y d:Int}{t1 t2 t3:Tok}{k:Nat}(ha:A.handled=none)(hg:IsRange s.heap g x y d t1 t2 t3)(big:Builtin.Range.small x y d=false)(ek:Builtin.Range.rangeSize x y d=k)(fits:k<=2^24)(L:Addr)(res:Value)(m0:Nat)
 (hL:s.heap.get? L=some { cls:=.type "list",data:=.seq #[] m0 })
 (fin:∀hp tk ys m,(∀e o,e≠L->s.heap.get? e=some o->hp.get? e=some o)->hp.get? L=some { cls:=.type "list",dict:=none,data:=.seq ys m,slots:= #[] }->ItemsOf (fun i v=>∃t,v=.int (x+i*d) t) ys k->R (.ok (.ret res)) { s with heap:=hp,toks:=tk }):
 wpAny (model prog w) A.in1 (Builtin.List.listExtendWith (.ref L) (.ref g) res)
  (fun z s'=>match z with | .done f=>R (.ok f) s' | .again m=>m.quiet=true/\codeAny (model prog w) A m R s') (fun e s'=>R (.error e) s') s:=by
 have Lg:L≠g:=fun z=>by rw[z,hg] at hL;simp at hL
 have Ll:L<s.heap.objs.size:=xi hL;have Ln:L≠s.heap.objs.size:=ku Ll;have Lm:L∉[s.heap.objs.size]:=fun z=>Ln (xc.mp z);have Wl:=(Walks.longrange (prog:=prog) (w:=w) (A:=A.in1) ha s.heap.objs.size x d k).toS;have loop:∀(hp:Heap) (m tk:Nat),IsLongIter hp s.heap.objs.size (x+((0:Nat):Int)*d) ((k:Int)-((0:Nat):Int)) d->(∀e o,e≠L->s.heap.get? e=some o->hp.get? e=some o)->hp.get? L=some { cls:=.type "list",data:=.seq #[] m }->
  codeAny (model prog w) A (.builtin "list.extend.loop" ⟨[.ref L,.ref s.heap.objs.size,res],[]⟩) R { s with heap:=hp,toks:=tk }:=fun hp m tk it keep hL1=>by
  refine codeAny_extend_loopS Wl (by rw[sizeLine_eq];lia) L Lm res k 0 _ #[] m rfl (ke _) it hL1 (ItemsOf.nil _) fun s2 ys m2 mv hL2 hy=>?_;rw[Moved.eq_with mv];refine fin s2.heap s2.toks ys m2 (fun e o ne he=>mv.heap e o (fun z=>?_) (keep e o ne he)) hL2 hy;have el:=xi he;rcases zo.mp z with z1 | z1
  ·exact ne z1
  ·exact absurd el (by rw[xc.mp z1];exact jg4 _)
 unfold Builtin.List.listExtendWith;refine js (wpAny_typeOf (T:="range") ⟨_,hg,rfl⟩ ?_);have q1:Builtin.List.listSameRef (.ref L) (.ref g)=false:=by unfold Builtin.List.listSameRef;simp[Lg]
 simp only[q1,show(Value.type "range"==Value.type "list")=false by decide,show(Value.type "range"==Value.type "tuple")=false by decide,jo7,Bool.false_eq_true,if_false];refine js (wpAny_pyIter_longrange hg big ?_);refine js (wpAny_holding (wpAny_hint_range (n:=k) (qf _ hg) ek fits ?_));have it1:IsLongIter (s.heap.push { cls:=.type "longrange_iterator",data:=.fields #[rawInt x,rawInt (Builtin.Range.rangeSize x y d),rawInt d] }) s.heap.objs.size (x+((0:Nat):Int)*d) ((k:Int)-((0:Nat):Int)) d:=by
  rw[ek];show Heap.get? _ _=_;simpa using xb s.heap rfl
 have L1:=qf { cls:=.type "longrange_iterator",data:=.fields #[rawInt x,rawInt (Builtin.Range.rangeSize x y d),rawInt d] } hL;refine wpAny_ite_split (fun _=>?_) (fun _=>ya ⟨plainId_quiet F.plain_extend_loop _,loop _ m0 _ it1 (fun e o _ he=>qf _ he) L1⟩);refine js (wpAny_rule (js ?_));show wpAny _ _ (updateSeq L (·.push .none) >>= fun _=>updateSeq L (·.pop)) _ _ _;refine js (wpAny_updateSeq L1 rfl ?_);have L2':=jg0 (Obj.mapSeq (·.push Value.none)) L1 rfl;refine wpAny_updateSeq (hz:=by seq_fits) L2' rfl ?_;have L3:=jg0 (Obj.mapSeq (·.pop)) L2' rfl;refine ya ⟨plainId_quiet F.plain_extend_loop _,loop _ _ _ ?_ (fun e o ne he=>?_) L3⟩
 ·exact(jb2 _ _ Ln).trans ((jb2 _ _ Ln).trans it1)
 ·rw[jb2 _ _ (Ne.symm ne),jb2 _ _ (Ne.symm ne)];exact qf _ he
theorem vG{R:Result->Shared->Prop}{g:Addr}{x y d:Int}{t1 t2 t3:Tok}{k:Nat}(ha:A.handled=none)(hg:IsRange s.heap g x y d t1 t2 t3)(big:Builtin.Range.small x y d=false)(ek:Builtin.Range.rangeSize x y d=k)(fits:k<=2^24)(L:Addr)
 (hL:s.heap.get? L=some { cls:=.type "list",data:=.seq #[] })
 (fin:∀hp tk ys m,(∀e o,e≠L->s.heap.get? e=some o->hp.get? e=some o)->hp.get? L=some { cls:=.type "list",dict:=none,data:=.seq ys m,slots:= #[] }->ItemsOf (fun i v=>∃t,v=.int (x+i*d) t) ys k->R (.ok (.ret .none)) { s with heap:=hp,toks:=tk }):
 wpAny (model prog w) A.in1 (Builtin.«list.__init__» ⟨[.ref L,.ref g],[]⟩)
  (fun z s'=>match z with | .done f=>R (.ok f) s' | .again m=>m.quiet=true/\codeAny (model prog w) A m R s') (fun e s'=>R (.error e) s') s:=by
 have Lg:L≠g:=fun z=>by rw[z,hg] at hL;simp at hL
 show wpAny _ _ (Builtin.List.listItems (.ref L) >>= fun old=>Builtin.List.listUpdate (.ref L) (fun _=> #[]) >>= fun _=>letGo old.toList.reverse >>= fun _=>Builtin.List.listExtendWith (.ref L) (.ref g) .none) _ _ s;refine js ?_;unfold Builtin.List.listItems;refine js (je6 hL rfl (ya ?_));show wpAny _ _ (updateSeq L (fun _=> #[]) >>= fun _=>letGo (#[]:Array Value).toList.reverse >>= fun _=>Builtin.List.listExtendWith (.ref L) (.ref g) .none) _ _ s;refine js (wpAny_updateSeq hL rfl ?_);have L1:=jg0 (Obj.mapSeq (fun _=>(#[]:Array Value))) hL rfl;have keep:∀e o,e≠L->s.heap.get? e=some o->(s.heap.update L (Obj.mapSeq (fun _=>(#[]:Array Value)))).get? e=some o:=fun e o ne he=>by
  rw[jb2 _ _ (Ne.symm ne)];exact he
 refine js (wpAny_letGo (AAd ha (keep g _ (Ne.symm Lg) hg) big ek fits L .none _ L1 fun hp tk ys m k1 k2 k3=>?_));exact fin hp tk ys m (fun e o ne he=>k1 e o ne (keep e o ne he)) k2 k3
theorem vH{E:Value->Shared->Prop}{Q:Value->Shared->Prop}{g:Addr}{x y d:Int}{t1 t2 t3:Tok}{k:Nat}(ha:A.handled=none)(hg:IsRange s.heap g x y d t1 t2 t3)(ek:Builtin.Range.rangeSize x y d=k)(fits:k<=2^24)
 (fin:∀hp tk ys m,(∀e o,s.heap.get? e=some o->hp.get? e=some o)->hp.get? s.heap.objs.size=some { cls:=.type "list",dict:=none,data:=.seq ys m,slots:= #[] }->ItemsOf (fun i v=>∃t,v=.int (x+i*d) t) ys k->Q (.ref s.heap.objs.size) { s with heap:=hp,toks:=tk }):
 wpAny (model prog w) A (call (.type "list") [.ref g]) Q E s:=by
 by_cases sm:Builtin.Range.small x y d=true
 ·exact call_list_range ha hg sm ek fits fin
 have big:Builtin.Range.small x y d=false:=by simpa using sm
 refine callType_codes (Q₁:=fun u s2=>u=.ref s.heap.objs.size/\s2={ s with heap:=s.heap.push { cls:=.type "list",data:=.seq #[] } }) F.called_list (F.typeCall_list_1 _) F.entry_list_init (code_list_new _ ⟨rfl,rfl⟩) fun u s2 z=>?_;obtain⟨rfl,rfl⟩:=z;have L0:(s.heap.push { cls:=.type "list",data:=.seq #[] }).get? s.heap.objs.size=some { cls:=.type "list",data:=.seq #[] }:=xb _ rfl;refine⟨⟨_,L0,rfl⟩,F.args_list_init_2 _ _,vG (A:=A.in1) ha (qf _ hg) big ek fits _ L0 fun hp tk ys m k1 k2 k3=>⟨rfl,?_⟩⟩;refine fin hp tk ys m (fun e o he=>k1 e o ?_ (qf _ he)) k2 k3;exact ku (xi he)
end
section
variable{X:Cx}
def ABl(ta:TA):TE:=fun Z H Q=>ta Z H fun vs H1=>∃(i j:Int),vs=[.int i,.int j]/\i<=j/\j-i<=1000000/\
 ∀l,H1 l=none->Q (.ref l) (upd H1 l (.lst ((List.range (j-i).toNat).map fun(k:Nat)=>V.int (i+(k:Int)))))
theorem cL{a b:Expr}{ta:TA}{p p2 pos pos2:Pos}(hc:X.calm=true)(hgl:Gl X "list")(hml:X.mg "list"=none)(hgr:Gl X "range")(hmr:X.mg "range"=none)(ha:PA X [a,b] ta)
 (hs:‹starEach [a,b] X.env=(false,eval a X.env)::starEach [b] X.env›)(hpl:‹(backTo pos2 (starEach [b] X.env)).any (·.1)=false›)
 (hs1:‹starEach [.Call (.Name "range" p2) [a,b] [] pos2] X.env=(false,eval (.Call (.Name "range" p2) [a,b] [] pos2) X.env)::starEach [] X.env›):
 PE X (.Call (.Name "list" p) [.Call (.Name "range" p2) [a,b] [] pos2] [] pos) (ABl ta):=by
 intro pins s Z H Q I h;refine je2 (JW I hgl hml boot_list ?_ nofun nofun);refine Zs ?_ hs1 rfl;rw[hs1];show wpAny _ _ (spliced ((false,eval _ X.env)::backTo pos (starEach [] X.env))) _ _ s;refine Calls.spliced_cons ?_;refine Call_ (JW I hgr hmr boot_range (Zs (thn (ha (pos:=pos2) pins s Z H _ I h) fun us s1 hZ=>?_) hs hpl));obtain⟨vs,H1,I1,r1,q1⟩:=hZ;obtain⟨i,j,rfl,ij,hz,q⟩:=q1;cases r1 with
 | cons r rr=>
  cases rr with
  | cons r' rr=>
   cases rr;obtain⟨t,rfl⟩:=r;obtain⟨t',rfl⟩:=r';refine call_range_2 (Calls.spliced_nil ?_);have I2:Inv X pins Z H1 { s1 with heap:=s1.heap.push { cls:=.type "range",data:=.fields #[.int i t,.int j t',.int 1 s1.toks] },toks:=s1.toks+1 }:=I1.kept fun b o e=>qf _ e;have en:Builtin.Range.rangeSize i j 1=(((j-i).toNat:Nat):Int):=by rw[rangeSize_one];split<;>lia
   refine vH (I2.ok.hd hc) (IsRange.new ..) en ⋯ fun h' tk acc' c' hk hS' hacc=>?_;have hl:acc'.toList.length=(j-i).toNat:=by simpa using hacc.1
   have ef:(fun (k:Nat)=>V.int (i+(k:Int)))=fun(k:Nat)=>V.int (i+(k:Int)*1):=by funext k;rw[jc9]
   rw[ef] at q;refine⟨.ref _,_,I2.laid (o:=.lst ((List.range (j-i).toNat).map fun(k:Nat)=>V.int (i+(k:Int)*1))) hk (qq _) ⟨?_,acc'.toList,c',?_,by simpa using hS'⟩,rfl,q _ I2.fresh⟩
   ·rw[jp,vc,sizeLine_eq];lia
   ·have:=Js (lo:=i) (c:=1) acc'.toList 0 fun j v hv=>by rw[jq5];exact hacc.2 j v (by simpa using hv)
    rw[hl,<-List.range_eq_range'] at this;exact this
end
section
variable{X:Cx}
noncomputable def isZ(z:Str)(v:Value):Bool:=match v with | .str y _=>y==z | _=>false
theorem PlainL.at'{h:Heap}{a:Addr}{its:Array Value}(p:PlainL h a its):∃n dd sl,h.get? a=some { cls:=.type "list",dict:=dd,data:=.seq its n,slots:=sl }:=by
 obtain⟨⟨cl,di,da,sl⟩,n,e,e1,e2,e3⟩:=p;cases e1;cases e3;exact⟨n,di,sl,e⟩
theorem RK:∀{zs:List Str} {us:List Value},Vals (zs.map V.str) us->us.length=zs.length/\∀(j:Nat) (z:Str),zs[j]?=some z->∃t,us[j]?=some (Value.str z t)
 | [],_,.nil=>⟨rfl,fun j z h=>by simp at h⟩
 | y::zs,_,.cons r rs=>by
  obtain⟨t,rfl⟩:=(show ∃t,_=Value.str y t from r);obtain⟨l,h⟩:=RK rs;refine⟨by rw[qr,qr,l],fun j z hj=>?_⟩;cases j with
  | zero=>
   simp at hj;exact⟨t,by rw[hj];rfl⟩
  | succ j=>exact h j z (by simpa using hj)
theorem Vg{zs:List Str}{us:List Value}(r:Vals (zs.map V.str) us){v:Value}(h:v∈us):∃z t,v=Value.str z t:=by
 obtain⟨l,g⟩:=RK r;obtain⟨j,hj,rfl⟩:=List.getElem_of_mem h;obtain⟨t,ht⟩:=g j (zs[j]'⋯) (qm _);rw[qm hj] at ht;exact⟨_,t,ub ht⟩
theorem WM(z:Str):∀{zs:List Str} {us:List Value},Vals (zs.map V.str) us->us.countP (isZ z)=zs.count z
 | [],_,.nil=>rfl
 | y::zs,_,.cons r rs=>by
  obtain⟨t,rfl⟩:=(show ∃t,_=Value.str y t from r);rw[List.countP_cons,WM z rs,List.count_cons];rfl
def um(K:Fr):V->List V->Hp->VK->Prop:=fun x xs H Q=>∃(l:Addr) (zs:List Str) (z:Str),x=.ref l/\xs=[.str z]/\SqL K H l (zs.map V.str)/\Q (.int ((zs.count z:Nat):Int)) H
theorem jg:MtR X "list.count" (um X.K):=by
 intro pins s Z H x xs v us Q I rx rs h;obtain⟨l,zs,z,rfl,rfl,hl,q⟩:=h;obtain rfl:v=Value.ref l:=rx;obtain⟨u,rfl,ru⟩:=vals1 rs;obtain⟨t',rfl⟩:=(show ∃t,u=Value.str z t from ru);obtain⟨its,r,pl,_⟩:=I.list hl;obtain⟨c0,dd,sl,at0⟩:=PlainL.at' pl;have eq:∀y∈its.toArray,SeqAt.EqAt X.A.in1 s y (Value.str z t') (isZ z y):=fun y hy=>by
  obtain⟨a,t,rfl⟩:=Vg r (by simpa using hy);exact SeqAt.EqAt.str_str a t z t'
 refine call_meets F.slot_list_count pl.isList.typeIs F.entry_list_count (F.args_list_count_2 _ _) (SeqAt.list_countAt l its.toArray _ _ _ (Value.str z t') (isZ z)) ⟨at0,eq,?_⟩;have ec:its.toArray.toList.countP (isZ z)=zs.count z:=WM z r;rw[ec];exact⟨.int _,H,I.tok _,⟨_,rfl⟩,q⟩
def uh(K:Fr):V->List V->Hp->VK->Prop:=fun x xs H Q=>∃(l:Addr) (zs:List Str) (z:Str) (j:Nat),x=.ref l/\xs=[.str z]/\SqL K H l (zs.map V.str)/\zs[j]?=some z/\(∀m,m<j->zs[m]?≠some z)/\Q (.int ((j:Nat):Int)) H
theorem jf:MtR X "list.index" (uh X.K):=by
 intro pins s Z H x xs v us Q I rx rs h;obtain⟨l,zs,z,j,rfl,rfl,hl,hj,hno,q⟩:=h;obtain rfl:v=Value.ref l:=rx;obtain⟨u,rfl,ru⟩:=vals1 rs;obtain⟨t',rfl⟩:=(show ∃t,u=Value.str z t from ru);obtain⟨its,r,pl,lim⟩:=I.list hl;obtain⟨c0,dd,sl,at0⟩:=PlainL.at' pl;obtain⟨il,ig⟩:=RK r;have jl:j<zs.length:=(qv.mp hj).1;rw[jp,sizeLine_eq] at lim;have eq:∀y∈its.toArray,SeqAt.EqAt X.A.in1 s y (Value.str z t') (isZ z y):=fun y hy=>by
  obtain⟨a,t,rfl⟩:=Vg r (by simpa using hy);exact SeqAt.EqAt.str_str a t z t'
 have at_:∀m (hm:m<its.toArray.size),∃a t,zs[m]?=some a/\its.toArray[m]=Value.str a t:=fun m hm=>by
  have hm':m<its.length:=by simpa using hm
  obtain⟨t,ht⟩:=ig m (zs[m]'⋯) (qm _);refine⟨_,t,qm ⋯,?_⟩;rw[qm hm'] at ht;simpa using ub ht
 refine call_meets F.slot_list_index pl.isList.typeIs F.entry_list_index (F.args_list_index_2 _ _) (SeqAt.list_indexAt l its.toArray _ _ _ (Value.str z t') (isZ z) j (by simpa using (show j<its.length by lia)) ⋯ ?_ fun m hm lt=>?_) ⟨at0,eq,?_⟩
 ·obtain⟨a,t,ha,e⟩:=at_ j (by simpa using (show j<its.length by lia));rw[e];rw[hj] at ha;cases ha;show(z==z)=true;simp
 ·obtain⟨a,t,ha,e⟩:=at_ m hm;rw[e];show(a==z)=false;have:a≠z:=fun y=>hno m lt (by rw[ha,y]);simpa using this
 ·exact⟨.int _,H,I.tok _,⟨_,rfl⟩,q⟩
end
section
variable{M:Model}{A:Around}{E:Value->Shared->Prop}{s:Shared}{base:Heap}{env:Env}{outer l:List Env}{L e:Addr}{cls:Value}{dd:Option Addr}{fl:Value}
end
section
variable{X:Cx}{pins:List (Addr×Obj)}{Z:St}{H H':Hp}{s:Shared}{C ea:Addr}{cls:Value}{dx:Option Addr}{B h1 h2 h3:Heap}{fl:Value}
end
section
variable{X:Cx}{pins:List (Addr×Obj)}{Z:St}{H2:Hp}{s2:Shared}{M:List Str}{x:Str}{scope:Scope}{cl:List (Str×Addr)}{C:Addr}{fp:List Addr}{E:XK}{Qe:Value->Shared->Prop}{acc:Value}
end
section
variable{X:Cx}
end
end L2
namespace L2
open PySem PySem.Spec PyProof.Rows Builtin.Str
section
variable{X:Cx}
theorem jd:MtR X "str.rstrip" (fun x xs H Q=>∃z y,x=.str z/\xs=[.str y]/\z.length<=sizeLine/\Q (.str (if stripSame y.cps.contains false true z then z else stripped y.cps.contains false true z)) H):=by
 intro pins s Z H x xs v us Q I rx rs h;obtain⟨z,y,rfl,rfl,hz,q⟩:=h;obtain⟨t,rfl⟩:=(show ∃t,v=Value.str z t from rx);obtain⟨u,rfl,ru⟩:=vals1 rs;obtain⟨t',rfl⟩:=(show ∃t,u=Value.str y t from ru);refine call_gives F.slot_str_rstrip (typeIs_str _ _ _) F.entry_str_rstrip (F.args_str_rstrip_2 _ _) (gives_str_rstrip_chars z y t t') ?_;by_cases c:stripSame y.cps.contains false true z=true
 ·rw[xy c] at q ⊢;exact⟨.str _,H,I,⟨_,rfl⟩,q⟩
 ·rw[xp c] at q ⊢;exact⟨fits_stripped _ _ _ hz,.str _,H,I.tok _,⟨_,rfl⟩,q⟩
end
end L2
namespace L2
open PySem PySem.Spec PyProof.Rows
section
variable{prog:Program}{w:World}{A:Around}{R:Result->Shared->Prop}{I:Addr}{fp wr:List Addr}{n:Nat}{P:Nat->Value->Prop}{St:Nat->Heap->Prop}
end
section
variable{prog:Program}{w:World}{A:Around}{E:Value->Shared->Prop}{s:Shared}
end
section
variable{X:Cx}
end
end L2
namespace L2
open PySem
@[elab_as_elim] theorem fresh{P:Hp->Prop}{H:Hp}{l:Addr}{o:HO}(h:H l=none)(q:∀H',Az H H'->H' l=some o->P H'):P (upd H l o):=q _ (Ar h o) Am
example {Q:V->Hp->Prop} {H:Hp} (q:∀l H',Az H H'->H' l=some (.lst [.int 1])->Q (.ref l) H'):∀l,H l=none->Q (.ref l) (upd H l (.lst [.int 1])):=fun l hl=>by
 refine fresh hl fun H1 s1 t1=>?_;exact q l H1 s1 t1
end L2
namespace L2
open PySem PySem.Spec PyProof.Rows
section
variable{X:Cx}
end
section
variable{X:Cx}{M:List Str}{x:Str}{scope:Scope}{cl:List (Str×Addr)}{C:Addr}{s₀:Shared}{H₀:Hp}{fp:List Addr}
end
def FnG(K:Fr)(g n q:Str)(st:Stmt):Prop:=∃f fd,PySem.W.nsIn K mainGlobals g=some (some (.ref f))/\Fun K n q st f fd
def FnM(K:Fr)(C:Addr)(x n q:Str)(st:Stmt):Prop:=∃f fd,PySem.W.findIn K (.ref C) x=some (some (.ref f))/\Fun K n q st f fd/\PySem.W.typeIn K (.ref f)=some (.type "function")
def Ia(n q:Str)(st:Stmt)(ps:List Str):Prop:=∀(kV doc pm:Value) (an:Option Addr) (cdv ct:Value) (us:List Value),us.length=ps.length->bindArgs (PySem.W.fnOf n q (FZ st) (Df st) (BX st) .none kV doc pm an cdv ct) ⟨us,[]⟩=pure (ps.zip us)
theorem qY{K:Fr}{g n q:Str}{st:Stmt}{f:Addr}{oc:Value}{od an:Option Addr}{osl:Array (Option Value)}{kV doc pm cdv ct:Value}(a:PySem.W.nsIn K mainGlobals g=some (some (.ref f)))(l:K.lookup f=some ⟨oc,od,.func (PySem.W.fnOf n q (FZ st) (Df st) (BX st) .none kV doc pm an cdv ct),osl⟩)
 (c:PySem.W.codeIn K cdv q=true)(k:PySem.W.keepIn K (.ref f)=true):FnG K g n q st:=⟨f,_,a,qW l c k⟩
theorem AAt{K:Fr}{C:Addr}{x n q:Str}{st:Stmt}{f:Addr}{oc:Value}{od an:Option Addr}{osl:Array (Option Value)}{kV doc pm cdv ct:Value}(a:PySem.W.findIn K (.ref C) x=some (some (.ref f)))(l:K.lookup f=some ⟨oc,od,.func (PySem.W.fnOf n q (FZ st) (Df st) (BX st) .none kV doc pm an cdv ct),osl⟩)
 (c:PySem.W.codeIn K cdv q=true)(k:PySem.W.keepIn K (.ref f)=true)(u:PySem.W.typeIn K (.ref f)=some (.type "function")):FnM K C x n q st:=⟨f,_,a,qW l c k,u⟩
section
variable{P:Program}{w:World}{K:Fr}{h:Heap}{mg:Str->Option Value}{base:Heap}{g n q:Str}{st:Stmt}{ps:List Str}{k:Nat}{sp:Sp}
theorem dR(X:K.In h)(G:h.Ns mainGlobals mg)(Q:FnG K g n q st)(b:Ia n q st ps)(ok:∀{f:Addr} {fd:FuncData},Fun K n q st f fd->FN P w K mg base CX0 k f fd ps sp):Cal P w K mg base k g ps sp:=by
 obtain⟨f,fd,a,F⟩:=Q;exact⟨⟨f,fd,ok F,F.binds b,F.kp,ji2 X G a⟩⟩
theorem wB{CX:CXT}{C:Addr}(Q:FnM K C g n q st)(b:Ia n q st ps)(ok:∀{f:Addr} {fd:FuncData},Fun K n q st f fd->FN P w K mg base CX k f fd ps sp):lM P w K mg base CX k C g ps sp:=by
 obtain⟨f,fd,a,F,u⟩:=Q;exact⟨⟨f,fd,ok F,F.binds b,⟨a,jc6.mpr u,F.kp⟩⟩⟩
theorem wD{CX:CXT}{x:Str}{C:Addr}(X:K.In h)(G:h.Ns mainGlobals mg)(mk:PySem.W.makesIn K C=true)(kp:PySem.W.keepIn K (.ref C)=true)(nC:PySem.W.nsIn K mainGlobals x=some (some (.ref C)))(Q:FnM K C "__init__" n q st)(b:Ia n q st ps)(ok:∀{f:Addr} {fd:FuncData},Fun K n q st f fd->FN P w K mg base CX k f fd ps sp):lO P w K mg base CX k x C ps sp:=by
 obtain⟨f,fd,a,F,u⟩:=Q;exact⟨⟨f,fd,ok F,F.binds b,⟨mk,a,jc6.mpr u,kp⟩,ji2 X G nC⟩⟩
end
theorem Rx{P:Program}{w:World}{K:Fr}{mg:Str->Option Value}{base:Heap}{CX:CXT}{k0:Nat}{m n q:Str}{st:Stmt}{ps:List Str}{Cs:List Addr}{sp:Nat->Sp}
 (hC:∀C∈Cs,Cls K C/\FnM K C m n q st)(b:Ia n q st ps)(z:∀vs H Q E,¬sp 0 vs H Q E)
 (step:∀(d:Nat) {f:Addr} {fd:FuncData},Ie P w K mg base CX (k0+d) m ps (Cs.map fun C=>(C,sp d))->Fun K n q st f fd->FN P w K mg base CX (k0+d+1) f fd ps (sp (d+1))):
 ∀d,Ie P w K mg base CX (k0+d) m ps (Cs.map fun C=>(C,sp d))
 | 0=>⟨fun p hp=>by
  obtain⟨C,hC',rfl⟩:=ui.mp hp;obtain⟨c,f,fd,a,F,u⟩:=hC C hC';exact⟨c,f,fd,⟨fun vs H Q E h=>absurd h (z vs H Q E),fun A outer s H args us vs Q E _ _ _ _ h=>absurd h (z vs H Q E)⟩,F.binds b,⟨a,jc6.mpr u,F.kp⟩⟩⟩
 | d+1=>⟨fun p hp=>by
  have R:=Rx hC b z step d;obtain⟨C,hC',rfl⟩:=ui.mp hp;obtain⟨c,f,fd,a,F,u⟩:=hC C hC';exact⟨c,f,fd,step d R F,F.binds b,⟨a,jc6.mpr u,F.kp⟩⟩⟩
theorem all_nil{α:Type}{p:α->Prop}:∀x∈([]:List α),p x:=fun _ h=>(nomatch h)
theorem all_cons{α:Type}{p:α->Prop}{a:α}{l:List α}(h:p a)(t:∀x∈l,p x):∀x∈a::l,p x:=fun x hx=>by
 rcases zo.mp hx with e | e
 ·exact e ▸ h
 ·exact t x e
section
variable{X:Cx}{k:Nat}{q:Addr}{fd:FuncData}{p:Str}{sp:Sp}{xs:List V}{kf:Nat->Int}{J:Hp->Prop}{l:Addr}{pins:List (Addr×Obj)}{Z:St}
end
section
variable{prog:Program}{w:World}{A:Around}{E:Value->Shared->Prop}{s:Shared}
theorem cU{it t:Addr}{i:Nat}{items:Array Value}{x:Value}{Q:Value->Shared->Prop}(hit:s.heap.IsTupleIter it t i)(ht:s.heap.IsTuple t items)(hx:items[i]?=some x)
 (hQ:∀h',h'.IsTupleIter it t (i+1)->Heap.SameBut it s.heap h'->Q x { s with heap:=h' }):wpAny (model prog w) A (Builtin.SmallTypes.nextOf (.ref it)) Q E s:=by
 obtain⟨o,ho,hc,hd⟩:=id hit;obtain⟨ol,hol,_,nl,hdl⟩:=ht;unfold Builtin.SmallTypes.nextOf;refine js (ji4 (name:=Str.ofString "__next__") hit.typeIs F.slot_tuple_iterator_next (jo6 F.slot_tuple_iterator_next hit.typeIs F.entry_tuple_iterator_next ?_ (F.args_tuple_iterator_next_1 _)));show wpAny _ _ (field (.ref it) 0 >>= _) _ _ s;refine js (jf4 ho hd (x:=.ref t) rfl ?_);show wpAny _ _ (if (Value.ref t==Value.none)=true then _ else _) _ _ s;rw[xp (show ¬((Value.ref t==Value.none)=true) from zi)];show wpAny _ _ (field (.ref it) 1 >>= _) _ _ s;refine js (jf4 ho hd (x:=.int i 0) rfl ?_);show wpAny _ _ (seqItems? (.ref t) >>= _) _ _ s;refine js (je6 hol hdl ?_);simp only[xa,hx];refine js (wpAny_setField ho hd (by simp) (ya ⟨x,rfl,ya (hQ _ ?_ (Heap.SameBut.update ..))⟩));exact⟨_,jg0 _ ho (Obj.isFreed_of_fields (Obj.data_mapFields hd _)),(Obj.cls_mapFields ..).trans hc,by rw[Obj.data_mapFields hd];simp[rawInt]⟩
theorem jb{it t:Addr}{i:Nat}{items:Array Value}{Q:Value->Shared->Prop}(hh:A.handled=none)(hit:s.heap.IsTupleIter it t i)(ht:s.heap.IsTuple t items)(hx:items[i]?=none)
 (hE:∀h' e,Heap.ExtBut it s.heap h'->(∃o,h'.get? e=some o/\o.cls=.type "StopIteration")->E (.ref e) { s with heap:=h' }):wpAny (model prog w) A (Builtin.SmallTypes.nextOf (.ref it)) Q E s:=by
 obtain⟨o,ho,hc,hd⟩:=id hit;obtain⟨ol,hol,_,nl,hdl⟩:=ht;unfold Builtin.SmallTypes.nextOf;refine js (ji4 (name:=Str.ofString "__next__") hit.typeIs F.slot_tuple_iterator_next (jo6 F.slot_tuple_iterator_next hit.typeIs F.entry_tuple_iterator_next ?_ (F.args_tuple_iterator_next_1 _)));show wpAny _ _ (field (.ref it) 0 >>= _) _ _ s;refine js (jf4 ho hd (x:=.ref t) rfl ?_);show wpAny _ _ (if (Value.ref t==Value.none)=true then _ else _) _ _ s;rw[xp (show ¬((Value.ref t==Value.none)=true) from zi)];show wpAny _ _ (field (.ref it) 1 >>= _) _ _ s;refine js (jf4 ho hd (x:=.int i 0) rfl ?_);show wpAny _ _ (seqItems? (.ref t) >>= _) _ _ s;refine js (je6 hol hdl ?_);simp only[xa,hx];refine js (wpAny_rule (js (wpAny_setField ho hd (by simp) ?_)));show wpAny _ _ (newExc (.type "StopIteration") [] >>= _) _ _ _;refine js ?_;simp only[newExc,newTuple];refine js (jn3 ?_ (by size_fits));refine js (m:=firstArgMember _ _) (wpAny_of_eq (a:=Value.none) (by first | rfl | (simp only[firstArgMember];rfl)) ?_)
 refine jn3 ?_ (by size_fits);simp only[raiseNew];refine js (wpAny_handled ?_)
 first | rw[show A.in1.handled=none from hh] | rw[hh]
 refine js (ya (wpAny_throw ?_));exact hE _ _ (((Heap.SameBut.update ..).extBut.push _).push _) ⟨_,xb _ rfl,rfl⟩
end
theorem AAw{prog:Program}{w:World}{A:Around}(hh:A.handled=none)(it t:Addr)(hne:t≠it)(items:Array Value):
 Draws prog w A it [it,t] items.size (fun i v=>items[i]?=some v) (fun i h=>h.IsTupleIter it t i/\h.IsTuple t items) where
 live:=fun i h st=>let ⟨o,e,_⟩:=st.1;⟨o,e⟩
 frame:=fun i h h' st k=>⟨let ⟨o,e,r⟩:=st.1;⟨o,k it (by simp) o e,r⟩,let ⟨o,e,r⟩:=st.2;⟨o,k t (by simp) o e,r⟩⟩
 item:=fun i s Q E hi st hQ=>cU st.1 st.2 (x:=items[i]) (by simp[hi]) fun h' hit hs=>hQ _ h' s.toks (by simp[hi]) ⟨hit,st.2.extBut hs.extBut hne⟩ hs
 done:=fun s Q E st hE=>jb hh st.1 st.2 (by simp) hE
structure dw(z TI TO i1 i2:Addr)(f1 f2:List Addr):Prop where
 zTO:TO≠z
 zTI:TI≠z
 tt:TI≠TO
 t1:TI≠i1
 t2:TI≠i2
 m1:i1∈f1
 m2:i2∈f2
 z1:z∉f1
 z2:z∉f2
 o1:TO∉f1
 o2:TO∉f2
 n1:i2∉f1
 n2:i1∉f2
theorem Draws.sb{prog:Program}{w:World}{A:Around}{it c:Addr}{fp:List Addr}{n i:Nat}{P:Nat->Value->Prop}{St:Nat->Heap->Prop}{h h':Heap}(D:Draws prog w A it fp n P St)(st:St i h)(k:Heap.SameBut c h h')(nc:c∉fp):St i h':=
 D.frame i h h' st fun b hb o e=>k.extBut b o (fun z=>nc (z ▸ hb)) e
section
variable{prog:Program}{w:World}{A:Around}{E:Value->Shared->Prop}{s:Shared}{z TI TO i1 i2:Addr}{f1 f2:List Addr}{n1 n2 k:Nat}{P1 P2:Nat->Value->Prop}{S1 S2:Nat->Heap->Prop}{a b:Value}
theorem iU{Q:Value->Shared->Prop}(D:dw z TI TO i1 i2 f1 f2)(D1:Draws prog w A i1 f1 n1 P1 S1)(D2:Draws prog w A i2 f2 n2 P2 S2)
 (hz:IsZip s.heap z TI TO .none)(hTI:IsPair s.heap TI (.ref i1) (.ref i2))(hTO:IsPair s.heap TO a b)(h1:S1 k s.heap)(h2:S2 k s.heap)(l1:k<n1)(l2:k<n2)
 (hQ:∀x y h' tk,P1 k x->P2 k y->IsZip h' z TI TO (rawInt s.heap.objs.size)->IsPair h' TO x y->S1 (k+1) h'->S2 (k+1) h'->IsPair h' s.heap.objs.size x y->
  (∀c o,c≠z->c≠TO->c≠i1->c≠i2->s.heap.get? c=some o->h'.get? c=some o)->Q (.ref s.heap.objs.size) { s with heap:=h',toks:=tk }):
 wpAny (model prog w) A (Builtin.«zip.__next__» ⟨[.ref z],[]⟩) (fun fin s'=>∃v,fin=.done (.ret v)/\Q v s') E s:=by
 have zi1:z≠i1:=fun e=>D.z1 (e ▸ D.m1);have zi2:z≠i2:=fun e=>D.z2 (e ▸ D.m2);have oi1:TO≠i1:=fun e=>D.o1 (e ▸ D.m1);have oi2:TO≠i2:=fun e=>D.o2 (e ▸ D.m2);show wpAny _ _ (field (.ref z) 2 >>= _) _ _ _;refine js (jf4 hz rfl (x:=.bool false) rfl ?_);show wpAny _ _ (field (.ref z) 3 >>= _) _ _ _;refine js (jf4 hz rfl (x:=.ref TI) rfl ?_);refine js (je6 hTI rfl ?_);show wpAny _ _ (Builtin.SmallTypes.ownedTupleIsFree (.ref z) >>= _) _ _ _;refine js ?_;unfold Builtin.SmallTypes.ownedTupleIsFree;refine js (jf4 hz rfl (x:=.none) rfl (ya ?_));simp only[if_true];refine js (wpAny_rule (js (jf4 hz rfl (x:=.ref TO) rfl ?_)));refine js (jg6 hz (by simp) fun g1 hz1 q1=>js ?_);replace hz1:IsZip g1 z TI TO .ellipsis:=hz1;simp only[List.zipIdx_cons,List.zipIdx_nil,jm2,jq6];refine js (js (wpAny_onRaise ?_));show wpAny _ _ (Builtin.SmallTypes.nextOf (.ref i1) >>= _) _ _ _;refine(js (D1.item k _ _ _ l1 (Draws.sb D1 h1 q1 D.z1) fun x g2 tk2 px s2 q2=>ya ?_));have p2:IsPair g2 TO a b:=q2.extBut _ _ oi1 (q1.extBut _ _ D.zTO hTO);refine js (je6 p2 rfl (js (wpAny_updateSeq_pair p2 fun g3 p3 q3=>js (wpAny_letGo (ya ?_)))));replace p3:IsPair g3 TO x b:=p3;refine js (js (wpAny_onRaise ?_));show wpAny _ _ (Builtin.SmallTypes.nextOf (.ref i2) >>= _) _ _ _;refine(js (D2.item k _ _ _ l2 (Draws.sb D2 (Draws.sb D2 (Draws.sb D2 h2 q1 D.z2) q2 D.n2) q3 D.o2) fun y g4 tk4 py s4 q4=>ya ?_));have p4:IsPair g4 TO x b:=q4.extBut _ _ oi2 p3;refine js (je6 p4 rfl (js (wpAny_updateSeq_pair p4 fun g5 p5 q5=>js (wpAny_letGo (ya (ya ?_))))));replace p5:IsPair g5 TO x y:=p5;refine js (je6 p5 rfl (js (wpAny_newTuple ?_)));have hsz:g5.objs.size=s.heap.objs.size:=by rw[q5.1,q4.1,q3.1,q2.1,q1.1]
 have z5:IsZip g5 z TI TO .ellipsis:=q5.extBut _ _ D.zTO.symm (q4.extBut _ _ zi2 (q3.extBut _ _ D.zTO.symm (q2.extBut _ _ zi1 hz1)));have zlt:z<g5.objs.size:=xi z5;have e1:S1 (k+1) g5:=Draws.sb D1 (Draws.sb D1 (Draws.sb D1 s2 q3 D.o1) q4 D.n1) q5 D.o1;have e2:S2 (k+1) g5:=Draws.sb D2 s4 q5 D.o2;show wpAny _ _ (Builtin.SmallTypes.ownedTupleHandOut (.ref z) (.ref g5.objs.size) >>= _) _ _ _;refine js ?_;unfold Builtin.SmallTypes.ownedTupleHandOut;have z6:IsZip (g5.push { cls:=.type "tuple",data:=.seq #[x,y] }) z TI TO .ellipsis:=qf _ z5;refine js (jg6 z6 (by simp) fun g7 z7 q7=>?_);replace z7:IsZip g7 z TI TO (rawInt g5.objs.size):=z7;refine jg6 z7 (by simp) fun g8 z8 q8=>?_;replace z8:IsZip g8 z TI TO (rawInt g5.objs.size):=z8;have up:∀c o,c≠z->g5.get? c=some o->g8.get? c=some o:=fun c o n e=>q8.extBut _ _ n (q7.extBut _ _ n (qf _ e));have t8:IsPair g8 g5.objs.size x y:=q8.extBut _ _ (Nat.ne_of_gt zlt) (q7.extBut _ _ (Nat.ne_of_gt zlt) (xb _ rfl));rw[hsz] at z8 t8;refine ya ⟨_,rfl,?_⟩;show Q (.ref g5.objs.size) _;rw[hsz];exact hQ x y g8 tk4 px py z8 (up _ _ D.zTO p5) (D1.frame _ _ _ e1 fun c hc o e=>up c o (fun q=>D.z1 (q ▸ hc)) e) (D2.frame _ _ _ e2 fun c hc o e=>up c o (fun q=>D.z2 (q ▸ hc)) e) t8
  fun c o c1 c2 c3 c4 e=>up c o c1 (q5.extBut _ _ c2 (q4.extBut _ _ c4 (q3.extBut _ _ c2 (q2.extBut _ _ c3 (q1.extBut _ _ c1 e)))))
theorem lQ{Q:PySem.Fin->Shared->Prop}(D:dw z TI TO i1 i2 f1 f2)(D1:Draws prog w A i1 f1 n1 P1 S1)(D2:Draws prog w A i2 f2 n2 P2 S2)
 (hz:IsZip s.heap z TI TO .none)(hTI:IsPair s.heap TI (.ref i1) (.ref i2))(hTO:IsPair s.heap TO a b)(h1:S1 k s.heap)(h2:S2 k s.heap)(hk:k=n1\/k<n1/\k=n2)
 (hE:∀h' tk e,(∀c o,c≠z->c≠TO->c≠i1->c≠i2->s.heap.get? c=some o->h'.get? c=some o)->(∃o,h'.get? e=some o/\o.cls=.type "StopIteration")->E (.ref e) { s with heap:=h',toks:=tk }):
 wpAny (model prog w) A (Builtin.«zip.__next__» ⟨[.ref z],[]⟩) Q E s:=by
 have zi1:z≠i1:=fun e=>D.z1 (e ▸ D.m1);have zi2:z≠i2:=fun e=>D.z2 (e ▸ D.m2);have oi1:TO≠i1:=fun e=>D.o1 (e ▸ D.m1);have oi2:TO≠i2:=fun e=>D.o2 (e ▸ D.m2);show wpAny _ _ (field (.ref z) 2 >>= _) _ _ _;refine js (jf4 hz rfl (x:=.bool false) rfl ?_);show wpAny _ _ (field (.ref z) 3 >>= _) _ _ _;refine js (jf4 hz rfl (x:=.ref TI) rfl ?_);refine js (je6 hTI rfl ?_);show wpAny _ _ (Builtin.SmallTypes.ownedTupleIsFree (.ref z) >>= _) _ _ _;refine js ?_;unfold Builtin.SmallTypes.ownedTupleIsFree;refine js (jf4 hz rfl (x:=.none) rfl (ya ?_));simp only[if_true];refine js (wpAny_rule (js (jf4 hz rfl (x:=.ref TO) rfl ?_)));refine js (jg6 hz (by simp) fun g1 hz1 q1=>js ?_);replace hz1:IsZip g1 z TI TO .ellipsis:=hz1;simp only[List.zipIdx_cons,List.zipIdx_nil,jm2,jq6];refine js (js (wpAny_onRaise ?_));show wpAny _ _ (Builtin.SmallTypes.nextOf (.ref i1) >>= _) _ _ _;rcases hk with e | ⟨l1,e⟩
 ·subst e;refine js (D1.done _ _ _ (Draws.sb D1 h1 q1 D.z1) fun g2 e q2 hZ=>?_);obtain⟨oe,hoe,hce⟩:=hZ;have z2:IsZip g2 z TI TO .ellipsis:=q2 _ _ zi1 hz1;have ez:e≠z:=fun x=>by subst x;rw[z2] at hoe;cases hoe;simp at hce
  exact jg6 z2 (by simp) fun g3 _ q3=>hE g3 s.toks e (fun c o c1 _ c3 _ x=>q3.extBut _ _ c1 (q2 _ _ c3 (q1.extBut _ _ c1 x))) ⟨oe,q3.extBut _ _ ez hoe,hce⟩
 ·subst e;refine js (D1.item k _ _ _ l1 (Draws.sb D1 h1 q1 D.z1) fun x g2 tk2 px s2 q2=>ya ?_);have p2:IsPair g2 TO a b:=q2.extBut _ _ oi1 (q1.extBut _ _ D.zTO hTO);refine js (je6 p2 rfl (js (wpAny_updateSeq_pair p2 fun g3 p3 q3=>js (wpAny_letGo (ya ?_)))));refine js (js (wpAny_onRaise ?_));show wpAny _ _ (Builtin.SmallTypes.nextOf (.ref i2) >>= _) _ _ _;refine js (D2.done _ _ _ (Draws.sb D2 (Draws.sb D2 (Draws.sb D2 h2 q1 D.z2) q2 D.n2) q3 D.o2) fun g4 e q4 hZ=>?_);obtain⟨oe,hoe,hce⟩:=hZ;have z4:IsZip g4 z TI TO .ellipsis:=q4 _ _ zi2 (q3.extBut _ _ D.zTO.symm (q2.extBut _ _ zi1 hz1));have ez:e≠z:=fun x=>by subst x;rw[z4] at hoe;cases hoe;simp at hce
  exact jg6 z4 (by simp) fun g5 _ q5=>hE g5 tk2 e (fun c o c1 c2 c3 c4 x=>q5.extBut _ _ c1 (q4 _ _ c4 (q3.extBut _ _ c2 (q2.extBut _ _ c3 (q1.extBut _ _ c1 x))))) ⟨oe,q5.extBut _ _ ez hoe,hce⟩
end
section
variable{prog:Program}{w:World}{A:Around}{E:Value->Shared->Prop}{s:Shared}{z TI TO i1 i2 l1 l2:Addr}{k:Nat}{xs ys:Array Value}{a b:Value}
theorem apart2(D:ZipApart z TI TO i1 i2 l1 l2):dw z TI TO i1 i2 [i1,l1] [i2,l2]:=
 ⟨D.TOz,D.TIz,D.TITO,D.TIi1,D.TIi2,by simp,by simp,by simp[D.i1z.symm,D.l1z.symm],by simp[D.i2z.symm,D.l2z.symm],by simp[D.TOi1,D.l1TO.symm],by simp[D.TOi2,D.l2TO.symm],by simp[D.i12.symm,D.l1i2.symm],by simp[D.i12,D.l2i1.symm]⟩
end
noncomputable abbrev zT1(h:Heap)(a:Addr):Heap:=h.push { cls:=.type "tuple_iterator",data:=.fields #[.ref a,.int 0 0] }
section
variable{X:Cx}
end
section
variable{P:Program}{w:World}{K:Fr}{h:Heap}{mg:Str->Option Value}{base:Heap}{k0 J:Nat}{g n q:Str}{st:Stmt}{ps:List Str}{sp:Nat->Sp}
theorem Xb(X:K.In h)(G:h.Ns mainGlobals mg)(F:FnG K g n q st)(b:Ia n q st ps)(z:∀vs H Q E,¬sp 0 vs H Q E)
 (step:∀(d:Nat) {f:Addr} {fd:FuncData},Cal P w K mg base (k0+J*d) g ps (sp d)->Fun K n q st f fd->FN P w K mg base CX0 (k0+J*d+J) f fd ps (sp (d+1))):
 ∀d,Cal P w K mg base (k0+J*d) g ps (sp d)
 | 0=>dR X G F b fun _=>⟨fun vs H Q E h=>absurd h (z vs H Q E),fun A outer s H args us vs Q E _ _ _ _ h=>absurd h (z vs H Q E)⟩
 | d+1=>by
  have R:=Xb X G F b z step d;rw[show k0+J*(d+1)=k0+J*d+J by rw[Nat.mul_succ,Nat.add_assoc]];exact dR X G F b fun F'=>step d R F'
end
end L2
namespace L2
open PySem PySem.Spec PyProof.Rows Builtin.Str
section
variable{X:Cx}
theorem je:MtR X "str.lstrip" (fun x xs H Q=>∃z y,x=.str z/\xs=[.str y]/\z.length<=sizeLine/\Q (.str (if stripSame y.cps.contains true false z then z else stripped y.cps.contains true false z)) H):=by
 intro pins s Z H x xs v us Q I rx rs h;obtain⟨z,y,rfl,rfl,hz,q⟩:=h;obtain⟨t,rfl⟩:=(show ∃t,v=Value.str z t from rx);obtain⟨u,rfl,ru⟩:=vals1 rs;obtain⟨t',rfl⟩:=(show ∃t,u=Value.str y t from ru);refine call_gives F.slot_str_lstrip (typeIs_str _ _ _) F.entry_str_lstrip (F.args_str_lstrip_2 _ _) (gives_str_lstrip_chars z y t t') ?_;by_cases c:stripSame y.cps.contains true false z=true
 ·rw[xy c] at q ⊢;exact⟨.str _,H,I,⟨_,rfl⟩,q⟩
 ·rw[xp c] at q ⊢;exact⟨fits_stripped _ _ _ hz,.str _,H,I.tok _,⟨_,rfl⟩,q⟩
end
end L2
namespace L2
open PySem PySem.W PySem.Spec PyProof.Rows
section
variable{κ:Type}[DecidableEq κ]
noncomputable def GF(kvs:List (κ×V))(k:κ):Option V:=(kvs.find? fun kv=>decide (kv.1=k)).map (·.2)
noncomputable def putK(kvs:List (κ×V))(k:κ)(v:V):List (κ×V):=
 if (kvs.any fun kv=>decide (kv.1=k))=true then kvs.map (fun kv=>if kv.1=k then (kv.1,v) else kv) else kvs++[(k,v)]
theorem Fp{p:κ×V}{r:List (κ×V)}{k:κ}(e:p.1=k):GF (p::r) k=some p.2:=by simp[GF,jj9,e]
theorem Fq{p:κ×V}{r:List (κ×V)}{k:κ}(e:¬p.1=k):GF (p::r) k=GF r k:=by simp[GF,jj9,e]
theorem Lf(k:κ):∀kvs:List (κ×V),(kvs.any fun kv=>decide (kv.1=k))=(GF kvs k).isSome
 | []=>rfl
 | p::r=>by
  rw[jk7];by_cases e:p.1=k
  ·simp only[Fp e,decide_eq_true e,Bool.true_or,Option.isSome_some]
  ·rw[Fq e,decide_eq_false e,Bool.false_or];exact Lf k r
theorem Yh(k j:κ)(y:V):∀kvs:List (κ×V),GF (kvs.map fun kv=>if kv.1=k then (kv.1,y) else kv) j=(GF kvs j).map fun x=>if j=k then y else x
 | []=>rfl
 | p::r=>by
  have ih:=Yh k j y r;rw[zw];by_cases h:p.1=k
  ·rw[xy h];by_cases e:p.1=j
   ·rw[Fp (p:=(p.1,y)) e,Fp e,jp8,xy (e.symm.trans h)]
   ·rw[Fq (p:=(p.1,y)) e,Fq e,ih]
  ·rw[xp h];by_cases e:p.1=j
   ·rw[Fp (p:=p) e,Fp e,jp8,xp (fun z=>h (e.trans z))]
   ·rw[Fq (p:=p) e,Fq e,ih]
theorem Vi(k j:κ)(y:V):∀kvs:List (κ×V),GF kvs k=none->GF (kvs++[(k,y)]) j=if j=k then some y else GF kvs j
 | [],_=>by
  by_cases e:k=j
  ·rw[xy e.symm];exact Fp (p:=(k,y)) e
  ·rw[xp (fun z=>e z.symm)];exact Fq (p:=(k,y)) e
 | p::r,hn=>by
  rw[ji6];have hk:¬p.1=k:=fun z=>by rw[Fp z] at hn;cases hn
  rw[Fq hk] at hn;have ih:=Vi k j y r hn;by_cases e:p.1=j
  ·rw[Fp e,Fp e,xp (fun z=>hk (e.trans z))]
  ·rw[Fq e,Fq e,ih]
theorem lY(kvs:List (κ×V))(k j:κ)(y:V):GF (putK kvs k y) j=if j=k then some y else GF kvs j:=by
 unfold putK;by_cases a:(kvs.any fun kv=>decide (kv.1=k))=true
 ·rw[xy a,Yh];rw[Lf] at a;by_cases e:j=k
  ·obtain⟨x,hx⟩:=jh5.mp a;rw[xy e,e,hx,jp8,xy rfl]
  ·rw[xp e];cases GF kvs j with
   | none=>rfl
   | some x=>rw[jp8,xp e]
 ·rw[xp a];refine Vi k j y kvs ?_;rw[Lf] at a;cases q:GF kvs k with
  | none=>rfl
  | some x=>rw[q] at a;exact(a rfl).elim
theorem J6(kvs:List (κ×V))(k:κ)(v:V):(putK kvs k v).length<=kvs.length+1:=by
 unfold putK;split
 ·rw[jp];lia
 ·rw[zh,qr,jk1];lia
theorem Jk.isSome_eq{o:Option V}{u:Option Value}(r:Jk o u):o.isSome=u.isSome:=by
 cases o with
 | none=>cases u with
  | none=>rfl
  | some _=>exact(show False from r).elim
 | some _=>cases u with
  | none=>exact(show False from r).elim
  | some _=>rfl
theorem KV.val{kvs:List (κ×V)}{vs:List (κ×Value)}(r:KV kvs vs)(k:κ):Jk (GF kvs k) (valueAt vs k):=by
 unfold KV at r
 induction r with
 | nil=>exact True.intro
 | @cons p q ps qs h t ih=>
  obtain⟨h1,h2⟩:=h;by_cases e:p.1=k
  ·have e':q.1=k:=h1.symm.trans e;have b:valueAt (q::qs) k=some q.2:=by simp[valueAt,jj9,e']
   rw[Fp e,b];exact h2
  ·have e':¬q.1=k:=fun z=>e (h1.trans z);have b:valueAt (q::qs) k=valueAt qs k:=by simp[valueAt,jj9,e']
   rw[Fq e,b];exact ih
theorem KV.any{kvs:List (κ×V)}{vs:List (κ×Value)}(r:KV kvs vs)(k:κ):(kvs.any fun kv=>decide (kv.1=k))=vs.any fun kv=>decide (kv.1=k):=by
 unfold KV at r
 induction r with
 | nil=>rfl
 | cons h t ih=>rw[jk7,jk7,ih,h.1]
theorem KV.repl{kvs:List (κ×V)}{vs:List (κ×Value)}(r:KV kvs vs)(k:κ){y:V}{u:Value}(ry:RelV y u):
 KV (kvs.map fun kv=>if kv.1=k then (kv.1,y) else kv) (vs.map fun kv=>if kv.1=k then (kv.1,u) else kv):=by
 unfold KV at r ⊢
 induction r with
 | nil=>exact .nil
 | @cons p q ps qs h t ih=>
  rw[zw,zw];refine .cons ?_ ih;obtain⟨h1,h2⟩:=h;by_cases e:p.1=k
  ·rw[xy e,xy (h1.symm.trans e)];exact⟨h1,ry⟩
  ·rw[xp e,xp (fun z=>e (h1.trans z))];exact⟨h1,h2⟩
theorem KV.put{kvs:List (κ×V)}{vs:List (κ×Value)}(r:KV kvs vs)(k:κ){y:V}{u:Value}(ry:RelV y u):KV (putK kvs k y) (stored vs k u):=by
 unfold putK stored;rw[r.any k];by_cases e:(vs.any fun kv=>decide (kv.1=k))=true
 ·rw[xy e,xy e];exact r.repl k ry
 ·rw[xp e,xp e];exact Paired.snoc r ⟨rfl,ry⟩
theorem KV.length{kvs:List (κ×V)}{vs:List (κ×Value)}(r:KV kvs vs):kvs.length=vs.length:=Paired.length r
end
theorem TQ{P:Program}{w:World}{k:Key}{u:Value}(r:RelV (kV k) u):(Et P w).is k u=true:=by
 cases k with
 | inl i=>obtain⟨t,e⟩:=(show ∃t,u=Value.int i t from r);subst e;exact Zk P w i t
 | inr x=>obtain⟨t,e⟩:=(show ∃t,u=Value.str x t from r);subst e;exact J5 P w x t
theorem V2{P:Program}{w:World}:∀{ks:List Key} {us:List Value},Vals (ks.map kV) us->ItemsAre (Et P w) ks us
 | [],_,r=>by rw[jl6] at r;cases r;exact .nil
 | k::ks,_,r=>by
  rw[zw] at r;cases r with
  | cons h t=>exact .cons (TQ h) (V2 t)
abbrev KT(H:Hp):List (List Key×V)->List (List Key×Addr×Value)->Prop:=Paired fun p q=>p.1=q.1/\H q.2.1=some (.tup (p.1.map kV))/\RelV p.2 q.2.2
variable{H:Hp}
theorem KT.val{kvs:List (List Key×V)}{xs:List (List Key×Addr×Value)}(r:KT H kvs xs)(k:List Key):Jk (GF kvs k) ((atKey xs k).map (·.2)):=by
 induction r with
 | nil=>exact True.intro
 | @cons p q ps qs h t ih=>
  obtain⟨h1,_,h2⟩:=h;by_cases e:p.1=k
  ·have e':q.1=k:=h1.symm.trans e;have b:atKey (q::qs) k=some q.2:=by simp[atKey,jj9,e']
   rw[Fp e,b];exact h2
  ·have e':¬q.1=k:=fun z=>e (h1.trans z);have b:atKey (q::qs) k=atKey qs k:=by simp[atKey,jj9,e']
   rw[Fq e,b];exact ih
theorem KT.repl{kvs:List (List Key×V)}{xs:List (List Key×Addr×Value)}(r:KT H kvs xs)(k:List Key){y:V}{u:Value}(ry:RelV y u):
 KT H (kvs.map fun kv=>if kv.1=k then (kv.1,y) else kv) (xs.map (putAt k u)):=by
 induction r with
 | nil=>exact .nil
 | @cons p q ps qs h t ih=>
  rw[zw,zw];refine .cons ?_ ih;obtain⟨h1,h2,h3⟩:=h;unfold putAt;by_cases e:p.1=k
  ·rw[xy e,xy (h1.symm.trans e)];exact⟨h1,h2,ry⟩
  ·rw[xp e,xp (fun z=>e (h1.trans z))];exact⟨h1,h2,h3⟩
theorem KT.put{kvs:List (List Key×V)}{xs:List (List Key×Addr×Value)}(r:KT H kvs xs)(k:List Key){b:Addr}{y:V}{u:Value}(hb:H b=some (.tup (k.map kV)))(ry:RelV y u):
 KT H (putK kvs k y) (storedH xs k b u):=by
 have e:(kvs.any fun kv=>decide (kv.1=k))=(atKey xs k).isSome:=by
  rw[Lf,(r.val k).isSome_eq,Option.isSome_map]
 unfold putK storedH;rw[e];by_cases q:(atKey xs k).isSome=true
 ·rw[xy q,xy q];exact r.repl k ry
 ·rw[xp q,xp q];exact Paired.snoc r ⟨rfl,hb,ry⟩
theorem KT.keeps{H':Hp}{kvs:List (List Key×V)}{xs:List (List Key×Addr×Value)}(r:KT H kvs xs)(ht:∀b ys,H b=some (.tup ys)->H' b=some (.tup ys)):KT H' kvs xs:=
 Paired.mapP r fun _ _ z=>⟨z.1,ht _ _ z.2.1,z.2.2⟩
section
variable{P:Program}{w:World}{H:Hp}{h:Heap}{a:Addr}
theorem xP{u:HO}(ok:HOk P w H h)(e:Rd H a u):Er P w H h a u:=e.ok ok
theorem gb{kvs:List (Key×V)}(ok:HOk P w H h)(e:Rd H a (.dK kvs)):kvs.length<=sizeLine/\(a==sysModules)=false/\∃vs,KV kvs vs/\h.DictOf (Et P w) a vs:=
 show Er P w H h a (.dK kvs) from xP ok e
theorem ADK{kvs:List (Key×V)}(ok:HOk P w H h)(e:H a=some (.dK kvs)):kvs.length<=sizeLine/\(a==sysModules)=false/\∃vs,KV kvs vs/\h.DictOf (Et P w) a vs:=gb ok (.inl e)
theorem Xz{ks:List Key}(ok:HOk P w H h)(e:H a=some (.tup (ks.map kV))):(tupleKind (Et P w)).is h ks a:=by
 obtain⟨_,its,r,o,h1,h2,n,h3⟩:=(show Er P w H h a (.tup (ks.map kV)) from ok a _ e);exact⟨o,its.toArray,n,h1,h2,h3,by simpa using V2 r⟩
theorem gU{kvs:List (List Key×V)}(ok:HOk P w H h)(e:Rd H a (.dT kvs)):kvs.length<=sizeLine/\(a==sysModules)=false/\
 ∃xs,KT H kvs xs/\h.DictOfH (tupleKind (Et P w)) a xs:=by
 obtain⟨z,y,xs,r,o,es,ep,h1,h2,h3,h4,h5⟩:=(show Er P w H h a (.dT kvs) from xP ok e);refine⟨z,y,xs,r,o,es,ep,h1,h2,h3,h4,fun x hx=>?_,h5⟩;have all:∀{l:List (List Key×V)} {m:List (List Key×Addr×Value)},KT H l m->∀x∈m,(tupleKind (Et P w)).is h x.1 x.2.1:=by
  intro l m q
  induction q with
  | nil=>intro x hx;exact nomatch hx
  | @cons p q ps qs hq t ih=>
   intro x hx;rcases zo.mp hx with e | hx
   ·subst e;exact Xz ok (by rw[<-hq.1];exact hq.2.1)
   ·exact ih x hx
 exact all r x hx
theorem ADJ{kvs:List (List Key×V)}(ok:HOk P w H h)(e:H a=some (.dT kvs)):kvs.length<=sizeLine/\(a==sysModules)=false/\
 ∃xs,KT H kvs xs/\h.DictOfH (tupleKind (Et P w)) a xs:=gU ok (.inl e)
end
def Qs(H:Hp)(a:Addr)(y:V)(r:Option V):Prop:=
 (∃kvs k,Rd H a (.dK kvs)/\y=kV k/\r=GF kvs k)\/∃kvs k b,Rd H a (.dT kvs)/\y=.ref b/\H b=some (.tup (k.map kV))/\r=GF kvs k
def ak(H:Hp)(a:Addr)(y v:V)(H':Hp):Prop:=
 (∃kvs k,H a=some (.dK kvs)/\y=kV k/\kvs.length<sizeLine/\H'=upd H a (.dK (putK kvs k v)))\/
 ∃kvs k b,H a=some (.dT kvs)/\y=.ref b/\H b=some (.tup (k.map kV))/\kvs.length<sizeLine/\H'=upd H a (.dT (putK kvs k v))
theorem Qs.k{a:Addr}{kvs:List (Key×V)}{k:Key}(e:H a=some (.dK kvs)):Qs H a (kV k) (GF kvs k):=.inl ⟨kvs,k,.inl e,rfl,rfl⟩
theorem ak.k{a:Addr}{kvs:List (Key×V)}{k:Key}{v:V}(e:H a=some (.dK kvs))(hl:kvs.length<sizeLine):ak H a (kV k) v (upd H a (.dK (putK kvs k v))):=.inl ⟨kvs,k,e,rfl,hl,rfl⟩
section
variable{X:Cx}{pins:List (Addr×Obj)}{Z:St}{H:Hp}{s:Shared}{a:Addr}{y v:V}{u r:Value}{o:Option V}{A:Around}{E:Value->Shared->Prop}
theorem Inv.big(I:Inv X pins Z H s):sysModules<s.heap.objs.size:=by
 have h:mainGlobals<s.heap.objs.size:=(I.mod.glob.keeps I.bk).lt;exact jq3 nofun h
theorem kE{Q:Value->Shared->Prop}(hu:A.units+1<cLine)(I:Inv X pins Z H s)(g:Qs H a y (some v))(ry:RelV y u)(h:∀w' s',Inv X pins Z H s'->RelV v w'->Q w' s'):
 wpAny (model X.prog X.w) A (getItem (.ref a) u) Q E s:=by
 rcases g with ⟨kvs,k,e,ey,l⟩ | ⟨kvs,k,b,e,ey,eb,l⟩
 ·subst ey;obtain⟨z,hd,vs,rel,dd⟩:=gb I.hok e;obtain⟨w',hw,rw'⟩:=Jk.some_of (v:=v) (o:=valueAt vs k) (by rw[l];exact rel.val k);exact wpAny_getItem_of (TQ ry) dd.mapOf hw (h w' _ (I.tok _) rw')
 ·subst ey;cases (show u=Value.ref b from ry);obtain⟨z,hd,xs,rel,dd⟩:=gU I.hok e;obtain⟨w',hw,rw'⟩:=Jk.some_of (v:=v) (o:=(atKey xs k).map (·.2)) (by rw[l];exact rel.val k);obtain⟨p,hp,hp2⟩:=kq.mp hw;refine wpAny_getItem_heap (tupleKind_room_in1 hu) (Xz I.hok eb) dd hp ?_;rw[hp2];exact h w' _ (I.tok _) rw'
theorem vq{Q:Value->Shared->Prop}(hu:A.units+1<cLine)(I:Inv X pins Z H s)(g:Qs H a y o)(ry:RelV y u)(h:∀s',Inv X pins Z H s'->Q (.bool (!o.isSome)) s'):
 wpAny (model X.prog X.w) A (compareOp .NotIn u (.ref a)) Q E s:=by
 rcases g with ⟨kvs,k,e,ey,l⟩ | ⟨kvs,k,b,e,ey,eb,l⟩
 ·subst ey;obtain⟨z,hd,vs,rel,dd⟩:=gb I.hok e;refine wpAny_notIn_of (TQ ry) hd dd.mapOf ?_;rw[<-(rel.val k).isSome_eq,<-l];exact h _ (I.tok _)
 ·subst ey;cases (show u=Value.ref b from ry);obtain⟨z,hd,xs,rel,dd⟩:=gU I.hok e;refine wpAny_notIn_heap (tupleKind_room_in1 hu) (Xz I.hok eb) hd dd ?_;have q:=(rel.val k).isSome_eq;rw[Option.isSome_map] at q;rw[<-q,<-l];exact h _ (I.tok _)
theorem gn{h':Heap}{t':Nat}{ob:HO}(I:Inv X pins Z H s)(mu:Mut (H a))(hs:Heap.SameBut a s.heap h')(he:∃q,h'.get? a=some q)(new:Er X.prog X.w (upd H a ob) h' a ob):
 Inv X pins Z (upd H a ob) { s with heap:=h',toks:=t' }:=
 I.write (x:=a) (e:=a) mu (.inl rfl) (fun b q hb z=>(hs.2 b hb).trans z) he new
theorem AAz{P:Program}{w:World}{H':Hp}{h':Heap}{kvs:List (Key×V)}{vs:List (Key×Value)}(z:kvs.length<=sizeLine)(hd:(a==sysModules)=false)(rel:KV kvs vs)(dd:h'.DictOf (Et P w) a vs):
 Er P w H' h' a (.dK kvs):=⟨z,hd,vs,rel,dd⟩
theorem j9{H':Hp}{Q:Unit->Shared->Prop}(hu:A.units+1<cLine)(I:Inv X pins Z H s)(g:ak H a y v H')(ry:RelV y u)(rv:RelV v r)(h:∀s',Inv X pins Z H' s'->Q () s'):
 wpAny (model X.prog X.w) A (setItem (.ref a) u r) Q E s:=by
 rcases g with ⟨kvs,k,e,ey,l,eH⟩ | ⟨kvs,k,b,e,ey,eb,l,eH⟩
 ·subst ey eH;obtain⟨z,hd,vs,rel,dd⟩:=ADK I.hok e;have hz:vs.length<=sizeLine:=by rw[<-rel.length];exact z
  have hl:(putK kvs k v).length<=sizeLine:=by have:=J6 kvs k v;lia
  refine wpAny_setItem_pairs (hsz:=hz) (TQ ry) dd fun h' dd' hs=>h _ ?_;have he:∃q,h'.get? a=some q:=let ⟨q,_,_,hq,_⟩:=dd';⟨q,hq⟩;exact gn I (by rw[e];exact True.intro) hs he (AAz hl hd (rel.put k rv) dd')
 ·subst ey eH;cases (show u=Value.ref b from ry);obtain⟨z,hd,xs,rel,dd⟩:=ADJ I.hok e;have hz:xs.length<=sizeLine:=by rw[<-Paired.length rel];exact z
  have hl:(putK kvs k v).length<=sizeLine:=by have:=J6 kvs k v;lia
  refine wpAny_setItem_heap (hsz:=hz) (tupleKind_room_in1 hu) (Xz I.hok eb) dd fun h' dd' hs=>h _ ?_;obtain⟨q,es,ep,hq,h2,h3,h4,_,h5⟩:=dd';refine gn I (by rw[e];exact True.intro) hs ⟨q,hq⟩ ⟨hl,hd,_,(rel.put k eb rv).keeps fun c ys ec=>?_,q,es,ep,hq,h2,h3,h4,h5⟩;rw[BK (Hj ec e (fun z=>nomatch z))];exact ec
end
section
variable{X:Cx}{pins:List (Addr×Obj)}{Z:St}{H:Hp}{s:Shared}{a:Addr}{kvs:List (Key×V)}{k:Key}{u:Value}{A:Around}{E:Value->Shared->Prop}
end
def ABZ(i:Expr):Prop:=∀ov iv,subscripted i false ov iv=operate [ov,iv] (getItem ov iv)
theorem eX{prog:Program}{w:World}{A:Around}{E:Value->Shared->Prop}{s:Shared}{env:Env}{value slice:Expr}{pos:Pos}{T id:String}{Q:Value->Shared->Prop}
 (hl:typeLookup (.type T) "__getitem__"=pure (some (.builtin id)))(hs:ABZ slice)
 (h:wpAny (model prog w) A (eval value env) (fun o s₁=>wpAny (model prog w) A (eval slice env) (fun i s₂=>s₂.TypeIs o T/\wpAny (model prog w) A (getItem o i) Q E s₂) E s₁) E s):
 wpAny (model prog w) A (eval (.Subscript value slice pos) env) Q E s:=by
 refine Subscript_ (ja9 h (fun o s₁ h₁=>ja9 h₁ (fun i s₂ h₂=>?_) fun _ _ x=>x) fun _ _ x=>x);obtain⟨hT,h₂⟩:=h₂;unfold subscriptTail;refine js ?_;rw[getitemInPython_of_ne hT.not_modules];refine js (wpAny_specialOf hT hl ?_);have fin:wpAny (model prog w) A (subscripted slice false o i) (fun r s₃=>wpAny (model prog w) A (letTemporaryGo value o r >>= fun _=>pure r) Q E s₃) E s₂:=by
  rw[hs o i];exact wpAny_operating (ja9 h₂ (fun r s₃ h₃=>js (wpAny_letTemporaryGo (ya h₃))) fun _ _ x=>x)
 first
  | exact ya (js fin)
  | exact js (ya (js fin))
  | exact js fin
theorem Zz{X:Cx}{pins:List (Addr×Obj)}{Z:St}{s:Shared}{a:Addr}{y:V}{o:Option V}(I:Inv X pins Z H s)(g:Qs H a y o):s.TypeIs (.ref a) "dict":=by
 rcases g with ⟨kvs,k,e,_,_⟩ | ⟨kvs,k,b,e,_,_,_⟩
 ·obtain⟨_,_,vs,_,dd⟩:=gb I.hok e;exact dd.typeIs
 ·obtain⟨_,_,xs,_,dd⟩:=gU I.hok e;exact dd.typeIs
def mQ(td ty:TE):TE:=fun Z H Q=>td Z H fun x H1=>ty Z H1 fun y H2=>∃a v,x=.ref a/\Qs H2 a y (some v)/\Q v H2
def Ws(ty td:TE):TE:=fun Z H Q=>ty Z H fun y H1=>td Z H1 fun x H2=>∃a o,x=.ref a/\Qs H2 a y o/\Q (.bl (!o.isSome)) H2
def oK(td ty tv:TE):TS:=fun D Z H=>tv Z H fun v H1=>td Z H1 fun x H2=>ty Z H2 fun y H3=>∃a H4,x=.ref a/\ak H3 a y v H4/\D.nx Z H4
section
variable{X:Cx}{o i e value:Expr}{pos pos' tpos:Pos}{td ty tv:TE}
theorem fY(hu:X.A.units+1<cLine)(ho:PE X o td)(hi:PE X i ty)(hs:ABZ i):PE X (.Subscript o i pos) (mQ td ty):=by
 intro pins s Z H Q I h;refine eX PySem.F.slot_dict_getitem.lookup hs (thn (ho s Z H _ I h) fun u s1 ⟨x,H1,I1,rx,q1⟩=>thn (hi s1 Z H1 _ I1 q1) fun iv s2 hZ=>?_);obtain⟨y,H2,I2,ry,a,v,ex,g,q2⟩:=hZ;subst ex;obtain rfl:u=Value.ref a:=rx;exact⟨Zz I2 g,kE hu I2 g ry fun w' s3 I3 rw'=>⟨v,H2,I3,rw',q2⟩⟩
theorem Vr(hu:X.A.units+1<cLine)(hi:PE X i ty)(ho:PE X o td):PC X .NotIn i o (Ws ty td):=by
 intro pins s Z H Q I h;refine thn (hi s Z H _ I h) fun iv s1 ⟨y,H1,I1,ry,q1⟩=>thn (ho s1 Z H1 _ I1 q1) fun u s2 hZ=>?_;obtain⟨x,H2,I2,rx,a,ov,ex,g,q2⟩:=hZ;subst ex;obtain rfl:u=Value.ref a:=rx;exact vq hu I2 g ry fun s3 I3=>⟨.bl (!ov.isSome),H2,I3,rfl,q2⟩
theorem Xf(hu:X.A.units+1<cLine)(ho:PE X o td)(hi:PE X i ty)(hv:PE X value tv)(hs:swapsWith value (some (.Subscript o i pos')) pos.line X.env=pure false):
 PS X (.Assign [.Subscript o i pos'] value pos) (oK td ty tv):=by
 intro pins s Z H D I h;refine wpAny_Assign_Subscript (thn (hv s Z H _ I h) fun r s1 ⟨v,H1,I1,rv,q1⟩=>thn (ho s1 Z H1 _ I1 q1) fun u s2 ⟨x,H2,I2,rx,q2⟩=>thn (hi s2 Z H2 _ I2 q2) fun iv s3 hZ=>?_) hs;obtain⟨y,H3,I3,ry,a,H4,ex,g,q3⟩:=hZ;subst ex;obtain rfl:u=Value.ref a:=rx;exact j9 hu I3 g ry rv fun s4 I4=>⟨Z,H4,I4,q3⟩
end
theorem qp{P:Program}{w:World}(h:Heap)(hb:sysModules<h.objs.size):Er P w H (h.push { cls:=.type "dict",data:=.dict #[] }) h.objs.size (.dK []):=
 ⟨ke _,beq_eq_false_iff_ne.mpr (Ne.symm (ku hb)),[],.nil,Heap.DictOf.new h⟩
def yc:TE:=fun _ H Q=>∀p,H p=none->Q (.ref p) (upd H p (.dK []))
section
variable{X:Cx}{pos:Pos}
theorem Ze:PE X (.Dict [] [] pos) yc:=fun pins s Z H Q I h=>
 wpAny_Dict_empty ⟨.ref s.heap.objs.size,_,I.laid (a:=s.heap.objs.size) (o:=.dK []) (t':=s.toks) (fun _ _ q=>qf _ q) (qq _) (qp s.heap I.big),rfl,h _ (I.hok.fresh (qq _))⟩
end
end L2
namespace L2
open PySem PySem.Spec PyProof.Rows
section
variable{X:Cx}{pins:List (Addr×Obj)}{Z:St}{H2:Hp}{s2:Shared}{M xs:List Str}{scope:Scope}{cl:List (Str×Addr)}{C:Addr}{fp:List Addr}{E:XK}{Qe:Value->Shared->Prop}{acc:Value}
end
section
variable{X:Cx}
end
def SqA(K:Fr)(H:Hp)(a:Addr)(xs:List V):Bool->Prop | true=>SqT K H a xs | false=>SqL K H a xs
def ItA(h:Heap)(i a:Addr)(k:Nat):Bool->Prop | true=>h.IsTupleIter i a k | false=>h.IsListIter i a k
def IsA(h:Heap)(a:Addr)(us:Array Value):Bool->Prop | true=>h.IsTuple a us | false=>h.IsList a us
theorem ItA.get{h:Heap}{i a:Addr}{k:Nat}{c:Bool}(x:ItA h i a k c):∃o,h.get? i=some o/\∀v,o.data≠.cell v:=by
 cases c<;>(obtain ⟨o,e,_,d⟩:=x;exact⟨o,e,fun v z=>by rw[d] at z;cases z⟩)
theorem ItA.at{h h':Heap}{i a:Addr}{k:Nat}{c:Bool}(x:ItA h i a k c)(q:∀o,h.get? i=some o->h'.get? i=some o):ItA h' i a k c:=by
 cases c<;>exact let ⟨o,e,r⟩:=x;⟨o,q o e,r⟩
theorem IsA.lt{h:Heap}{a:Addr}{us:Array Value}{c:Bool}(x:IsA h a us c):a<h.objs.size:=by
 cases c<;>(obtain ⟨o,e,_⟩:=x;exact xi e)
section
variable{X:Cx}{pins:List (Addr×Obj)}{Z:St}{H:Hp}{s:Shared}{a:Addr}{xs ys:List V}{c:Bool}
theorem Inv.seqA(I:Inv X pins Z H s)(h:SqA X.K H a xs c):∃us:List Value,Vals xs us/\IsA s.heap a us.toArray c:=by
 cases c
 ·obtain⟨us,r,p,_⟩:=I.list h;exact⟨us,r,p.isList⟩
 ·obtain⟨us,r,p,_⟩:=I.tuple h;exact⟨us,r,p⟩
theorem Inv.injA(I:Inv X pins Z H s)(h:SqA X.K H a xs c)(h':SqA X.K H a ys c):xs=ys:=by
 cases c
 ·exact I.list_inj h h'
 ·exact I.tuple_inj h h'
end
theorem qi{prog:Program}{w:World}{A:Around}{c:Bool}(hh:A.handled=none)(it l:Addr)(hne:l≠it)(us:Array Value):Draws prog w A it [it,l] us.size (fun i v=>us[i]?=some v) (fun i h=>ItA h it l i c/\IsA h l us c):=by
 cases c
 ·exact Draws.list hh it l hne us
 ·exact AAw hh it l hne us
section
variable{prog:Program}{w:World}{A:Around}{E:Value->Shared->Prop}{s:Shared}{z TI TO i1 i2 l1 l2:Addr}{k:Nat}{xs ys:Array Value}{a b:Value}{c:Bool}
theorem AAa{Q:Option Value->Shared->Prop}(hh:A.handled=none)(D:ZipApart z TI TO i1 i2 l1 l2){x y:Value}(hz:IsZip s.heap z TI TO .none)(hTI:IsPair s.heap TI (.ref i1) (.ref i2))(hTO:IsPair s.heap TO a b)
 (h1:ItA s.heap i1 l1 k c)(h2:s.heap.IsListIter i2 l2 k)(t1:IsA s.heap l1 xs c)(t2:s.heap.IsList l2 ys)(hx:xs[k]?=some x)(hy:ys[k]?=some y)
 (hQ:∀h' tk,IsZip h' z TI TO (rawInt s.heap.objs.size)->IsPair h' TO x y->ItA h' i1 l1 (k+1) c->h'.IsListIter i2 l2 (k+1)->IsPair h' s.heap.objs.size x y->
  (∀y o,y≠z->y≠TO->y≠i1->y≠i2->s.heap.get? y=some o->h'.get? y=some o)->Q (some (.ref s.heap.objs.size)) { s with heap:=h',toks:=tk }):wpAny (model prog w) A (pyNext (.ref z)) Q E s:=by
 have hT:s.TypeIs (.ref z) "zip":=⟨_,hz,rfl⟩;have lx:k<xs.size:=(Array.getElem?_eq_some_iff.mp hx).1;have ly:k<ys.size:=(Array.getElem?_eq_some_iff.mp hy).1;have D1:=qi (c:=c) (prog:=prog) (w:=w) (A:=A.in1) hh i1 l1 D.l1i1 xs;have D2:=Draws.list (prog:=prog) (w:=w) (A:=A.in1) hh i2 l2 D.l2i2 ys;unfold pyNext;refine js (wpAny_attempt (ji4 (name:=Str.ofString "__next__") hT F.slot_zip_next (jo6 F.slot_zip_next hT F.entry_zip_next
  (iU (apart2 D) D1 D2 hz hTI hTO ⟨h1,t1⟩ ⟨h2,t2⟩ lx ly fun x' y' h' tk p1 p2 a1 a2 a3 a4 a5 a6=>?_) (F.args_zip_next_1 _))))
 rw[hx] at p1;rw[hy] at p2;cases p1;cases p2;exact ya (hQ h' tk a1 a2 a3.1 a4.1 a5 a6)
theorem AAx{Q:Option Value->Shared->Prop}(hh:A.handled=none)(D:ZipApart z TI TO i1 i2 l1 l2)(hz:IsZip s.heap z TI TO .none)(hTI:IsPair s.heap TI (.ref i1) (.ref i2))(hTO:IsPair s.heap TO a b)
 (h1:ItA s.heap i1 l1 k c)(h2:s.heap.IsListIter i2 l2 k)(t1:IsA s.heap l1 xs c)(t2:s.heap.IsList l2 ys)(hk:k=xs.size\/k<xs.size/\k=ys.size)
 (hQ:∀h' tk,(∀y o,y≠z->y≠TO->y≠i1->y≠i2->s.heap.get? y=some o->h'.get? y=some o)->Q none { s with heap:=h',toks:=tk }):wpAny (model prog w) A (pyNext (.ref z)) Q E s:=by
 have hT:s.TypeIs (.ref z) "zip":=⟨_,hz,rfl⟩;have D1:=qi (c:=c) (prog:=prog) (w:=w) (A:=A.in1) hh i1 l1 D.l1i1 xs;have D2:=Draws.list (prog:=prog) (w:=w) (A:=A.in1) hh i2 l2 D.l2i2 ys;unfold pyNext;refine js (wpAny_attempt (ji4 (name:=Str.ofString "__next__") hT F.slot_zip_next (jo6 F.slot_zip_next hT F.entry_zip_next
  (lQ (apart2 D) D1 D2 hz hTI hTO ⟨h1,t1⟩ ⟨h2,t2⟩ hk fun h' tk e q ⟨o,ho,hc⟩=>?_) (F.args_zip_next_1 _))))
 refine js (wpAny_isInstance (T:="StopIteration") (b:=true) ⟨o,ho,hc⟩ isSubtype_stop ?_);exact ya (hQ _ _ q)
end
noncomputable def sO(K:Fr)(a b:Addr)(c:Bool):It:=
 ⟨fun i H=>∃xs ys x y,SqA K H a xs c/\SqL K H b ys/\xs[i]?=some x/\ys[i]?=some y,
  fun i H v H'=>∃T x y,H T=none/\v=.ref T/\H'=upd H T (.tup [x,y])/\∀xs ys,SqA K H a xs c->SqL K H b ys->xs[i]?=some x/\ys[i]?=some y,
  fun i H=>∃xs ys,SqA K H a xs c/\SqL K H b ys/\i=min xs.length ys.length⟩
def ABU(c:Bool)(z TI TO i1 i2 a b:Addr)(i:Nat)(h:Heap):Prop:=
 IsZip h z TI TO .none/\IsPair h TI (.ref i1) (.ref i2)/\(∃p q,IsPair h TO p q)/\ItA h i1 a i c/\h.IsListIter i2 b i
theorem iV{P:Program}{w:World}{K:Fr}{es:List Expr}{kk:Nat}{pos:Pos}{c:Bool}(z TI TO i1 i2 a b:Addr)(D:ZipApart z TI TO i1 i2 a b):
 Turn P w K (.Tuple es kk pos) (sO K a b c) [z,TI,TO,i1,i2] z (ABU c z TI TO i1 i2 a b) where
 mem:=by simp
 obj:=fun i h st c hc=>by
  obtain⟨h1,h2,⟨p,q,h3⟩,h4,⟨o5,e5,_,d5⟩⟩:=st;simp only[zo,kg,or_false] at hc;rcases hc with rfl | rfl | rfl | rfl | rfl
  ·exact⟨_,h1,fun v z=>by cases z⟩
  ·exact⟨_,h2,fun v z=>by cases z⟩
  ·exact⟨_,h3,fun v z=>by cases z⟩
  ·exact h4.get
  ·exact⟨_,e5,fun v z=>by rw[d5] at z;cases z⟩
 keep:=fun i h h' st k=>by
  obtain⟨h1,h2,⟨p,q,h3⟩,h4,h5⟩:=st;exact⟨k z (by simp) _ h1,k TI (by simp) _ h2,⟨p,q,k TO (by simp) _ h3⟩,h4.at fun o e=>k i1 (by simp) o e,h5.at fun o e=>k i2 (by simp) o e⟩
 item:=by
  intro X hP hw hK hc i pins s Z H E I hf st hg;subst hP hw hK;obtain⟨xs,ys,x,y,qa,qb,ex,ey⟩:=hg;obtain⟨us,ra,pa⟩:=I.seqA qa;obtain⟨ws,rb,pb,_⟩:=I.list qb;obtain⟨u,hu,ru⟩:=ra.get ex;obtain⟨v,hv,rv⟩:=rb.get ey;obtain⟨h1,h2,⟨p,q,h3⟩,h4,h5⟩:=st;refine AAa (xs:=us.toArray) (ys:=ws.toArray) (I.ok.hd hc) D h1 h2 h3 h4 h5 pa pb.isList (by simpa using hu) (by simpa using hv) fun h' tk a1 a2 a3 a4 a5 a6=>?_;have lt:∀{c o},s.heap.get? c=some o->s.heap.objs.size≠c:=fun e=>Nat.ne_of_gt (xi e);refine⟨.ref s.heap.objs.size,rfl,wpAny_letOwnedTupleGo_zip a1 fun g2 z2 k2=>?_⟩;have hn:H s.heap.objs.size=none:=I.hok.fresh (qq _);have k3:∀c o,c∉[z,TO,i1,i2]->s.heap.get? c=some o->g2.get? c=some o:=fun c o hc e=>by
   simp only[zo,kg,or_false,not_or] at hc;exact k2.extBut c o hc.1 (a6 c o hc.1 hc.2.1 hc.2.2.1 hc.2.2.2 e)
  refine⟨.ref s.heap.objs.size,upd H s.heap.objs.size (.tup [x,y]),I.turnedNew (ch:=[z,TO,i1,i2]) k3 (fun c hc=>hf c ?_) (qq _) ⟨?_,[u,v],.cons ru (.cons rv .nil),⟨_,k2.extBut _ _ (lt h1) a5,rfl,_,rfl⟩⟩,rfl,⟨_,x,y,hn,rfl,rfl,fun xs' ys' qa' qb'=>?_⟩,?_,fun c hc=>?_⟩
  ·simp only[zo,kg,or_false] at hc ⊢;rcases hc with h | h | h | h
   ·exact .inl h
   ·exact .inr (.inr (.inl h))
   ·exact .inr (.inr (.inr (.inl h)))
   ·exact .inr (.inr (.inr (.inr h)))
  ·show 2<=sizeLine;rw[sizeLine_eq];decide
  ·rw[I.injA qa' qa,I.list_inj qb' qb];exact⟨ex,ey⟩
  ·exact⟨z2,k3 _ _ (by simp[D.TIz,D.TITO,D.TIi1,D.TIi2]) h2,⟨_,_,k2.extBut _ _ D.TOz a2⟩,a3.at fun o e=>k2.extBut _ _ D.i1z e,a4.at fun o e=>k2.extBut _ _ D.i2z e⟩
  ·have hlt:s.heap.objs.size≠c:=by
    simp only[zo,kg,or_false] at hc;obtain⟨o4,e4,_⟩:=h4.get;obtain⟨o5,e5,_⟩:=h5;rcases hc with rfl | rfl | rfl | rfl | rfl
    ·exact lt h1
    ·exact lt h2
    ·exact lt h3
    ·exact lt e4
    ·exact lt e5
   rw[BK hlt.symm];exact(hf c hc).1
 done:=by
  intro X hP hw hK hc i pins s Z H E I hf st hg;subst hP hw hK;obtain⟨xs,ys,qa,qb,e⟩:=hg;obtain⟨us,ra,pa⟩:=I.seqA qa;obtain⟨ws,rb,pb,_⟩:=I.list qb;have la:=ra.length;have lb:=rb.length;obtain⟨h1,h2,⟨p,q,h3⟩,h4,h5⟩:=st;refine AAx (xs:=us.toArray) (ys:=ws.toArray) (I.ok.hd hc) D h1 h2 h3 h4 h5 pa pb.isList (by simp;lia) fun h' tk k=>⟨rfl,I.turnedL (ch:=[z,TO,i1,i2]) (fun c o hc e=>?_) fun c hc=>hf c ?_⟩
  ·simp only[zo,kg,or_false,not_or] at hc;exact k c o hc.1 hc.2.1 hc.2.2.1 hc.2.2.2 e
  simp only[zo,kg,or_false] at hc ⊢;rcases hc with h | h | h | h
  ·exact .inl h
  ·exact .inr (.inr (.inl h))
  ·exact .inr (.inr (.inr (.inl h)))
  ·exact .inr (.inr (.inr (.inr h)))
 self:=fun _ _ _ _ _ st h=>wpAny_pyIter_zip st.1 h
noncomputable abbrev zLL(h:Heap)(a:Addr):Heap:=h.push { cls:=.type "list_iterator",data:=.fields #[.ref a,.int 0 0] }
noncomputable abbrev zL3(h:Heap)(a b:Addr):Heap:=(zLL (zT1 h a) b).push { cls:=.type "tuple",data:=.seq #[.ref h.objs.size,.ref (zT1 h a).objs.size] }
noncomputable abbrev zL4(h:Heap)(a b:Addr):Heap:=(zL3 h a b).push { cls:=.type "tuple",data:=.seq #[.none,.none] }
noncomputable abbrev zL5(h:Heap)(a b:Addr):Heap:=(zL4 h a b).push { cls:=.type "zip",data:=.fields #[.none,.bool false,.bool false,.ref (zLL (zT1 h a) b).objs.size,.ref (zL3 h a b).objs.size] }
theorem cV(l1 l2:Addr)(xs ys:Array Value):
 Meets (Builtin.«zip.__new__» ⟨[.type "zip",.ref l1,.ref l2],[]⟩) (fun _ R s=>s.heap.IsTuple l1 xs/\s.heap.IsList l2 ys/\R (.ok (.ret (.ref (zL4 s.heap l1 l2).objs.size))) { s with heap:=zL5 s.heap l1 l2 }):=
 .of_wp fun prog w A R s h=>by
  obtain⟨hp,g,d,tk,os⟩:=s;obtain⟨t1,t2,h⟩:=h;have hsub:=sub_zip;have hL1:Heap.IsTuple (Shared.heap ⟨hp,g,d,tk,os⟩) l1 xs:=t1;have hL2:Heap.IsList (Shared.heap ⟨hp.push { cls:=.type "tuple_iterator",data:=.fields #[.ref l1,.int 0 0] },g,d,tk,os⟩) l2 ys:=t2.at fun o e=>qf _ e
  wp_walk using wpAny_pyIter_tuple hL1,wpAny_pyIter_list hL2
  exact⟨_,rfl,h⟩
theorem kh{prog:Program}{w:World}{A:Around}{E:Value->Shared->Prop}{s:Shared}{l1 l2:Addr}{xs ys:Array Value}{Q:Value->Shared->Prop}(t1:s.heap.IsTuple l1 xs)(t2:s.heap.IsList l2 ys)
 (h:∀h',IsZip h' (s.heap.objs.size+4) (s.heap.objs.size+2) (s.heap.objs.size+3) .none->IsPair h' (s.heap.objs.size+2) (.ref s.heap.objs.size) (.ref (s.heap.objs.size+1))->IsPair h' (s.heap.objs.size+3) .none .none->
  h'.IsTupleIter s.heap.objs.size l1 0->h'.IsListIter (s.heap.objs.size+1) l2 0->(∀c o,s.heap.get? c=some o->h'.get? c=some o)->Q (.ref (s.heap.objs.size+4)) { s with heap:=h' }):
 wpAny (model prog w) A (call (.type "zip") [.ref l1,.ref l2]) Q E s:=by
 refine callType_new F.called_zip nofun (F.typeCall_zip_2 _ _) (F.newCall_zip_2 _ _) (fun obj=>F.args_object_init_3 obj _ _) F.entry_zip_new (cV l1 l2 xs ys) ⟨t1,t2,?_⟩;have z1:(zT1 s.heap l1).objs.size=s.heap.objs.size+1:=jj0 ..;have z2:(zLL (zT1 s.heap l1) l2).objs.size=s.heap.objs.size+2:=by rw[jj0,z1]
 have z3:(zL3 s.heap l1 l2).objs.size=s.heap.objs.size+3:=by rw[jj0,z2]
 have z4:(zL4 s.heap l1 l2).objs.size=s.heap.objs.size+4:=by rw[jj0,z3]
 have p1:∀c o,(zL4 s.heap l1 l2).get? c=some o->(zL5 s.heap l1 l2).get? c=some o:=fun c o e=>qf _ e;have p2:∀c o,(zL3 s.heap l1 l2).get? c=some o->(zL5 s.heap l1 l2).get? c=some o:=fun c o e=>p1 c o (qf _ e);have p3:∀c o,(zLL (zT1 s.heap l1) l2).get? c=some o->(zL5 s.heap l1 l2).get? c=some o:=fun c o e=>p2 c o (qf _ e);have p4:∀c o,(zT1 s.heap l1).get? c=some o->(zL5 s.heap l1 l2).get? c=some o:=fun c o e=>p3 c o (qf _ e);have g5:(zL5 s.heap l1 l2).get? (zL4 s.heap l1 l2).objs.size=some _:=xb _ rfl;have g4:(zL5 s.heap l1 l2).get? (zL3 s.heap l1 l2).objs.size=some _:=p1 _ _ (xb _ rfl);have g3:(zL5 s.heap l1 l2).get? (zLL (zT1 s.heap l1) l2).objs.size=some _:=p2 _ _ (xb _ rfl);have g2:(zL5 s.heap l1 l2).get? (zT1 s.heap l1).objs.size=some _:=p3 _ _ (xb _ rfl);have g1:(zL5 s.heap l1 l2).get? s.heap.objs.size=some _:=p4 _ _ (xb _ rfl);show _/\_;rw[z2,z3,z4] at g5;rw[z1,z2] at g3;rw[z3] at g4;rw[z1] at g2;rw[z4];exact⟨⟨_,g5,rfl⟩,h _ g5 g3 g4 ⟨_,g1,rfl,rfl⟩ ⟨_,g2,rfl,rfl⟩ fun c o x=>p4 c o (qf _ x)⟩
theorem kj{prog:Program}{w:World}{A:Around}{E:Value->Shared->Prop}{s:Shared}{l1 l2:Addr}{xs ys:Array Value}{Q:Value->Shared->Prop}{c:Bool}(t1:IsA s.heap l1 xs c)(t2:s.heap.IsList l2 ys)
 (h:∀h',IsZip h' (s.heap.objs.size+4) (s.heap.objs.size+2) (s.heap.objs.size+3) .none->IsPair h' (s.heap.objs.size+2) (.ref s.heap.objs.size) (.ref (s.heap.objs.size+1))->IsPair h' (s.heap.objs.size+3) .none .none->
  ItA h' s.heap.objs.size l1 0 c->h'.IsListIter (s.heap.objs.size+1) l2 0->(∀y o,s.heap.get? y=some o->h'.get? y=some o)->Q (.ref (s.heap.objs.size+4)) { s with heap:=h' }):
 wpAny (model prog w) A (call (.type "zip") [.ref l1,.ref l2]) Q E s:=by
 cases c
 ·exact call_zip_2 t1 t2 fun h' hz hTI hTO hi1 hi2 _ hk=>h h' hz hTI hTO hi1 hi2 hk
 ·exact kh t1 t2 h
def xj(c:Bool)(K:Fr)(ta:TA):TI:=fun Z H R=>ta Z H fun vs H1=>∃a b,vs=[.ref a,.ref b]/\(∃xs ys,SqA K H1 a xs c/\SqL K H1 b ys)/\R (sO K a b c) H1
section
variable{X:Cx}
theorem fV{c:Bool}{a b:Expr}{ta:TA}{p pos:Pos}{es:List Expr}{kk:Nat}{tp:Pos}(hg:Gl X "zip")(hm:X.mg "zip"=none)(ha:PA X [a,b] ta)(hs:‹starEach [a,b] X.env=[(false,eval a X.env),(false,eval b X.env)]›)(hs2:‹starEach [b] X.env=[(false,eval b X.env)]›):
 PI X (.Tuple es kk tp) (.Call (.Name "zip" p) [a,b] [] pos) (xj c X.K ta):=by
 intro pins s Z H R I h;refine Call_ (JW I hg hm boot_zip (Zs (thn (ha (pos:=pos) pins s Z H _ I h) fun us s1 ⟨vs,H1,I1,r1,q1⟩=>?_) (by rw[hs,hs2]) (by rw[hs2];rfl)));obtain⟨x,y,e,⟨xs,ys,qa,qb⟩,q⟩:=q1;subst e;obtain⟨ia,ra,pa⟩:=I1.seqA qa;obtain⟨ib,rb,pb,_⟩:=I1.list qb;cases r1 with
 | cons r rr=>
  cases rr with
  | cons r' rr=>
   cases rr;cases (show _=Value.ref x from r);cases (show _=Value.ref y from r');refine kj pa pb.isList fun h' hz hTI hTO hi1 hi2 hk=>?_;refine wpAny_pyIter_zip hz ?_;refine⟨_,_,_,_,H1,rfl,I1.kept (t':=s1.toks) fun c o e=>hk c o e,iV _ _ _ _ _ x y (yL pa.lt (let ⟨_,e,_⟩:=pb.isList;xi e)),⟨hz,hTI,⟨_,_,hTO⟩,hi1,hi2⟩,fun c hc=>?_,q⟩;have hcs:s1.heap.objs.size<=c:=by
    simp only[zo,kg,or_false] at hc;rcases hc with rfl | rfl | rfl | rfl | rfl
    ·exact jc1 _ _
    ·exact jc1 _ _
    ·exact jc1 _ _
    ·exact qq _
    ·exact jc1 _ _
   exact I1.fpOk hcs (I1.hok.fresh hcs)
end
theorem fL{K:Fr}{ta:TA}{Z:St}{H:Hp}{R:It->Hp->Prop}{c:Bool}(h:ta Z H fun vs H1=>∃a b,vs=[.ref a,.ref b]/\(∃xs ys,SqA K H1 a xs c/\SqL K H1 b ys)/\R (sO K a b c) H1):xj c K ta Z H R:=h
def KD(P:Program)(w:World)(K:Fr)(a:Addr)(kvs:List (Key×V)):Prop:=
 (a==sysModules)=false/\∀h:Heap,K.In h->∃vs,KV kvs vs/\h.DictOf (Et P w) a vs
noncomputable def esK(p:Params)(l:List (Str×Tok×Addr)):List DictEntry:=l.map fun x=>⟨PyData.keyHash p x.1,.str x.1 x.2.1,.ref x.2.2⟩
theorem fZ(P:Program)(w:World)(p:Params):∀l:List (Str×Tok×Addr),Pairs (Et P w) (esK p l) (l.map fun x=>(Sum.inr x.1,Value.ref x.2.2))
 | []=>.nil
 | x::l=>.cons (J5 P w x.1 x.2.1) rfl (fZ P w p l)
theorem ACw:∀l:List (Str×Tok×Addr),KV (κ:=Key) (l.map fun x=>(Sum.inr x.1,V.ref x.2.2)) (l.map fun x=>(Sum.inr x.1,Value.ref x.2.2))
 | []=>.nil
 | x::l=>.cons ⟨rfl,rfl⟩ (ACw l)
theorem xZ{P:Program}{w:World}{K:Fr}{a:Addr}{n:Nat}(l:List (Str×Tok×Addr))(e:K.lookup a=some ⟨.type "dict",none,.dict (esK w.params l).toArray n,#[]⟩)(nd:(l.map (·.1)).Nodup)(hs:(a==sysModules)=false):
 KD P w K a (l.map fun x=>(Sum.inr x.1,V.ref x.2.2)):=
 ⟨hs,fun h X=>⟨_,ACw l,_,_,_,X _ _ e,⟨rfl,rfl,rfl⟩,rfl,fun d hd=>by
  have hd:d∈esK w.params l:=by simpa using hd
  obtain⟨x,hx,rfl⟩:=ui.mp hd;exact⟨.inr x.1,J5 P w x.1 x.2.1,rfl⟩,by simpa using fZ P w w.params l,by
   rw[va];exact List.pairwise_map.mpr ((List.pairwise_map.mp nd).imp fun h z=>h (Sum.inr.inj z))⟩⟩
def bH(P:Program)(w:World)(K:Fr)(td ty:TE):TE:=fun Z H Q=>td Z H fun x H1=>ty Z H1 fun y H2=>∃a kvs k v,x=.ref a/\KD P w K a kvs/\y=kV k/\GF kvs k=some v/\Q v H2
def eQ(neg:Bool)(P:Program)(w:World)(K:Fr)(ty td:TE):TE:=fun Z H Q=>ty Z H fun y H1=>td Z H1 fun x H2=>∃a kvs k,x=.ref a/\KD P w K a kvs/\y=kV k/\Q (.bl (if neg then !(GF kvs k).isSome else (GF kvs k).isSome)) H2
section
variable{X:Cx}{o i e:Expr}{pos:Pos}{td ty tf:TE}
theorem Sd(ho:PE X o td)(hi:PE X i ty)(hs:ABZ i):PE X (.Subscript o i pos) (bH X.prog X.w X.K td ty):=by
 intro pins s Z H Q I h;refine eX PySem.F.slot_dict_getitem.lookup hs (thn (ho s Z H _ I h) fun u s1 ⟨x,H1,I1,rx,q1⟩=>thn (hi s1 Z H1 _ I1 q1) fun iv s2 hZ=>?_);obtain⟨y,H2,I2,ry,a,kvs,k,v,ex,kd,ey,l,q2⟩:=hZ;subst ex ey;obtain rfl:u=Value.ref a:=rx;obtain⟨vs,rel,dd⟩:=kd.2 _ I2.kIn;obtain⟨w',hw,rw'⟩:=Jk.some_of (v:=v) (o:=valueAt vs k) (by rw[<-l];exact rel.val k);exact⟨dd.typeIs,wpAny_getItem_of (TQ ry) dd.mapOf hw ⟨v,H2,I2.tok _,rw',q2⟩⟩
theorem ux(hi:PE X i ty)(ho:PE X o td):PC X .In i o (eQ false X.prog X.w X.K ty td):=by
 intro pins s Z H Q I h;refine thn (hi s Z H _ I h) fun iv s1 ⟨y,H1,I1,ry,q1⟩=>thn (ho s1 Z H1 _ I1 q1) fun u s2 hZ=>?_;obtain⟨x,H2,I2,rx,a,kvs,k,ex,kd,ey,q2⟩:=hZ;subst ex ey;obtain rfl:u=Value.ref a:=rx;obtain⟨vs,rel,dd⟩:=kd.2 _ I2.kIn;refine wpAny_in_of (TQ ry) kd.1 dd.mapOf ?_;rw[<-(rel.val k).isSome_eq];exact⟨.bl _,H2,I2.tok _,rfl,q2⟩
theorem cM(hi:PE X i ty)(ho:PE X o td):PC X .NotIn i o (eQ true X.prog X.w X.K ty td):=by
 intro pins s Z H Q I h;refine thn (hi s Z H _ I h) fun iv s1 ⟨y,H1,I1,ry,q1⟩=>thn (ho s1 Z H1 _ I1 q1) fun u s2 hZ=>?_;obtain⟨x,H2,I2,rx,a,kvs,k,ex,kd,ey,q2⟩:=hZ;subst ex ey;obtain rfl:u=Value.ref a:=rx;obtain⟨vs,rel,dd⟩:=kd.2 _ I2.kIn;refine wpAny_notIn_of (TQ ry) kd.1 dd.mapOf ?_;rw[<-(rel.val k).isSome_eq];exact⟨.bl _,H2,I2.tok _,rfl,q2⟩
theorem ACl:PE X e (fun _ _ _=>False):=fun _ _ _ _ _ _ h=>h.elim
end
section
variable{prog:Program}{w:World}{A:Around}{E:Value->Shared->Prop}{s:Shared}
end
section
open PySem.Builtin PySem.Builtin.Str
theorem Mi(x:Str)(c L:Nat):∀(n k free:Nat) (acc:Array Nat),k+n=x.length+1->free<=k->acc.size<=L->
 (forIn (List.range' k n) (acc,free) (StrLaws.occBody x ⟨#[c]⟩ x.length L)).run.fst.toList=acc.toList++(plc c k ((cps x).drop k)).take (L-acc.size)
 | 0,k,free,acc,h,_,_=>by
  rw[uj (by rw[Kp];lia)];show acc.toList=acc.toList++List.take _ [];rw[List.take_nil,yy]
 | n+1,k,free,acc,h,hf,ha=>by
  rw[List.range'_succ,jm2];have one:(⟨#[c]⟩:Str).length=1:=rfl;by_cases full:acc.size=L
  ·have ih:=Mi x c L n (k+1) free acc ⋯ ⋯ ha;unfold StrLaws.occBody;rw[xp fun y=>by have:acc.size<L:=y.1.1.1;lia,show L-acc.size=0 by lia,jq7,yy];rw[show L-acc.size=0 by lia,jq7,yy] at ih;exact ih
  by_cases z:(cps x)[k]?=some c
  ·have kl:k<(cps x).length:=(qv.mp z).1;have hs:=(StrLaws.subAt_one x c k).mpr z;have ed:(cps x).drop k=c::(cps x).drop (k+1):=by
    rw[jb6 kl,(qv.mp z).2]
   have ih:=Mi x c L n (k+1) (k+1) (acc.push k) ⋯ (qq _) (by rw[Array.size_push];lia);unfold StrLaws.occBody;rw[xy ⟨⟨⟨by show acc.size<L;lia,hf⟩,hs.1⟩,hs.2⟩,ed];unfold plc;rw[xy rfl,show L-acc.size=(L-(acc.push k).size)+1 by rw[Array.size_push];lia,List.take_succ_cons];have e2:acc.toList++k::(plc c (k+1) ((cps x).drop (k+1))).take (L-(acc.push k).size)=(acc.push k).toList++(plc c (k+1) ((cps x).drop (k+1))).take (L-(acc.push k).size):=by
    rw[Array.toList_push,jc4];rfl
   rw[e2];exact ih
  ·have hs:¬(k+(⟨#[c]⟩:Str).length<=x.length/\subAt x ⟨#[c]⟩ k=true):=fun y=>z ((StrLaws.subAt_one x c k).mp y);have ih:=Mi x c L n (k+1) free acc ⋯ ⋯ ha;have ep:plc c k ((cps x).drop k)=plc c (k+1) ((cps x).drop (k+1)):=by
    by_cases kl:k<(cps x).length
    ·rw[jb6 kl];have:(cps x)[k]≠c:=fun y=>z (by rw[qm kl,y]);show(if (cps x)[k]=c then _ else _)=_;rw[xp this]
    ·rw[uj ⋯,uj ⋯];rfl
   unfold StrLaws.occBody;rw[xp fun y=>hs ⟨y.1.2,y.2⟩,ep];exact ih
theorem Xg(c:Nat):∀(p l:List Nat) (k:Nat),c∉p->plc c k (p++c::l)=(k+p.length)::plc c (k+p.length+1) l
 | [],l,k,_=>by show(if c=c then _ else _)=_;rw[xy rfl];rfl
 | a::p,l,k,h=>by
  have ne:a≠c:=fun z=>h (by rw[z];exact qc);show(if a=c then _ else plc c (k+1) (p++c::l))=_;rw[xp ne,Xg c p l (k+1) fun z=>h (qk _ z),qr];rw[show k+1+p.length=k+(p.length+1) by lia]
def ug:V->List V->Hp->VK->Prop:=fun x xs H Q=>∃(z:Str) (c:Nat) (A B C:List Nat),x=.str z/\xs=[.str ⟨#[c]⟩,.int 2]/\c<256/\cps z=A++c::(B++c::C)/\c∉A/\c∉B/\z.length<=1000000/\∀l,H l=none->Q (.ref l) (upd H l (.lst [.str ⟨A.toArray⟩,.str ⟨B.toArray⟩,.str ⟨C.toArray⟩]))
theorem jc{X:Cx}:MtR X "str.split" ug:=by
 intro pins s Z H x xs v us Q I rx rs h;obtain⟨z,c,A,B,C,rfl,rfl,hc,ez,hA,hB,hz,q⟩:=h;obtain⟨t,rfl⟩:=(show ∃t,v=Value.str z t from rx);cases rs with
 | cons ru rs=>
  obtain⟨t',rfl⟩:=(show ∃t,_=Value.str ⟨#[c]⟩ t from ru);obtain⟨u,rfl,ru2⟩:=vals1 rs;obtain⟨t2,rfl⟩:=(show ∃t,u=Value.int 2 t from ru2);have zl:z.length=A.length+(B.length+(C.length+1)+1):=by rw[<-Kp,ez];simp
  have sl:z.length<=sizeLine:=zv hz nofun;have k1:PySem.Builtin.Str.strKind (⟨#[c]⟩:Str)=1:=by
   unfold PySem.Builtin.Str.strKind;simp[hc]
  have k0:1<=PySem.Builtin.Str.strKind z:=by
   unfold PySem.Builtin.Str.strKind
   repeat' split
   all_goals lia
  have h1:(decide (z.length<(⟨#[c]⟩:Str).length)||decide (PySem.Builtin.Str.strKind z<PySem.Builtin.Str.strKind ⟨#[c]⟩))=false:=by
   rw[k1,Bool.or_eq_false_iff];exact⟨decide_eq_false (by show ¬z.length<1;lia),decide_eq_false ⋯⟩
  have eo:occurrences z ⟨#[c]⟩ 0 z.length (limitOf z 2)=[A.length,A.length+1+B.length]:=by
   rw[show limitOf z 2=2 from rfl,StrLaws.occ_eq];have:=Mi z c 2 (z.length+1) 0 0 #[] ⋯ (qq _) (ke _);rw[jl1,ez,Xg c A _ 0 hA,Xg c B _ _ hB] at this;simpa using this
  have ep:partsBetween z (occurrences z ⟨#[c]⟩ 0 z.length (limitOf z 2)) (⟨#[c]⟩:Str).length=[⟨A.toArray⟩,⟨B.toArray⟩,⟨C.toArray⟩]:=by
   rw[eo];show[strSub z 0 A.length,strSub z (A.length+1) (A.length+1+B.length),strSub z (A.length+1+B.length+1) z.length]=_;have e1:strSub z 0 A.length=⟨A.toArray⟩:=RP (jf7.mp (by
    rw[StrLaws.strSub_toList,show z.cps.toList=_ from ez,jl1,Nat.sub_zero,List.take_left'];rfl))
   have e2:strSub z (A.length+1) (A.length+1+B.length)=⟨B.toArray⟩:=RP (jf7.mp (by
    rw[StrLaws.strSub_toList,show z.cps.toList=_ from ez,show A++c::(B++c::C)=(A++[c])++(B++c::C) by simp,List.drop_left' (by simp),show A.length+1+B.length-(A.length+1)=B.length by lia,List.take_left'];rfl))
   have e3:strSub z (A.length+1+B.length+1) z.length=⟨C.toArray⟩:=RP (jf7.mp (by
    rw[StrLaws.strSub_toList,show z.cps.toList=_ from ez,show A++c::(B++c::C)=(A++c::(B++[c]))++C by simp,List.drop_left' (by simp;lia),uk ⋯]))
   rw[e1,e2,e3]
  refine call_meets F.slot_str_split (typeIs_str _ _ _) F.entry_str_split (F.args_str_split_3 _ _ _) (meets_str_split_sep_max z ⟨#[c]⟩ 2 t t' t2 nofun h1 rfl (by rw[eo];rfl) sl (by rw[ep];show 3<=sizeLine;decide)) ?_;rw[ep];exact⟨.ref _,_,I.laid (a:=s.heap.objs.size) (o:=.lst [.str ⟨A.toArray⟩,.str ⟨B.toArray⟩,.str ⟨C.toArray⟩]) (fun _ _ e=>qf _ e) (qq _) ⟨by show 3<=sizeLine;decide,strsFrom s.toks [⟨A.toArray⟩,⟨B.toArray⟩,⟨C.toArray⟩],0,Wv [⟨A.toArray⟩,⟨B.toArray⟩,⟨C.toArray⟩] _,xb _ rfl⟩,rfl,q _ I.fresh⟩
end
end L2
namespace L2
open PySem PySem.Spec PyProof.Rows PySem.W
section
variable{X:Cx}{o:Expr}{to:TE}{apos cpos:Pos}
end
end L2
namespace L2
open PySem PySem.Spec PyProof.Rows
def Lh(mg:Str->Option Value)(L:List (Str×Sp))(tf:TE)(t:TA):TE:=fun Z H Q=>tf Z H fun v H1=>∃f x sp,v=.ref f/\(x,sp)∈L/\mg x=some (.ref f)/\t Z H1 fun vs H2=>sp vs H2 Q E0
section
variable{X:Cx}{o i e:Expr}{pos:Pos}{tf:TE}
theorem pC{k:Nat}{L:List (Str×Sp)}{es:List Expr}{t:TA}{p:Pos}(CV:IW X.prog X.w X.K X.mg X.base k L)(hr:Ek k X.A)(hf:PE X (.Subscript o i p) tf)(ha:PA X (e::es) t)
 (he:‹starEach (e::es) X.env=(false,eval e X.env)::starEach es X.env›)(hpl:‹(backTo pos (starEach es X.env)).any (·.1)=false›):
 PE X (.Call (.Subscript o i p) (e::es) [] pos) (Lh X.mg L tf t):=by
 intro pins s Z H Q I h;show wpAny _ _ (do callWith pos (<-eval (.Subscript o i p) X.env) [] (backTo pos (starEach (e::es) X.env)) (backToKw pos (keywordEach [] X.env))) _ _ _;refine js (thn (hf s Z H _ I h) fun u s1 hZ=>?_);obtain⟨v,H1,I1,rv,f,y,sp,ev,hm,hmg,q1⟩:=hZ;subst ev;obtain rfl:u=Value.ref f:=rv;obtain⟨ps,C⟩:=CV.get hm;obtain⟨f',fd,F,b,kp,m⟩:=C.ex;have ef:f'=f:=by
  rw[hmg] at m;injection m with m;injection m with m;exact m.symm
 subst ef;refine je1 (h₀:=X.base) I1.ok.mod.kin kp (thn (ha (pos:=pos) pins s1 Z _ _ I1 q1) fun us s2 ⟨vs,H2,I2,r,q⟩=>⟨I2.kIn,?_⟩) he hpl;dsimp only at q;have hl:us.length=ps.length:=by rw[<-r.length];exact F.len _ _ _ _ q
 have hb:=b s2 us I2.kIn (by rw[yy];exact hl);rw[yy] at hb;show wpAny _ _ (call (.ref f') us) _ _ _;refine wpAny_call (jo1 (F.run X.A X.stack s2 H2 ⟨us,[]⟩ us vs Q _ hr I2.env0 hb r q) fun z s' hq=>?_);cases z with
 | error e=>exact False.elim hq
 | ok fl=>
  cases fl with
  | ret u=>exact I2.after hq
  | next=>exact False.elim hq
  | brk=>exact False.elim hq
  | cont=>exact False.elim hq
end
def ADX(K:Fr)(g n q:Str)(st:Stmt)(ds:Array Value):Prop:=∃f fd,PySem.W.nsIn K mainGlobals g=some (some (.ref f))/\Kg K n q st f fd ds
def ABa(K:Fr)(C:Addr)(x n q:Str)(st:Stmt)(ds:Array Value):Prop:=∃f fd,PySem.W.findIn K (.ref C) x=some (some (.ref f))/\Kg K n q st f fd ds/\PySem.W.typeIn K (.ref f)=some (.type "function")
def ADY(K:Fr)(C:Addr)(x n q:Str)(st:Stmt)(ds:Array Value):Prop:=∃f fd,PySem.W.findCls K (.ref C) (.type "type") x=some (.val (.ref f))/\Kg K n q st f fd ds
abbrev Yc(n q:Str)(st:Stmt)(ps:List Str)(dv:List Value)(ds:Array Value)(m:Nat):Prop:=∀(T:Addr) (kV doc pm:Value) (an:Option Addr) (cdv ct:Value) (us:List Value),us.length=m->
 ∃k:Option (Array Value)->Sem (List (Str×Value)),bindArgs (PySem.W.fnOf n q (FZ st) (Df st) (BX st) (.ref T) kV doc pm an cdv ct) ⟨us,[]⟩=seqItems? (.ref T) >>= k/\k (some ds)=pure (ps.zip (us++dv))
section
variable{K:Fr}{g n q:Str}{C f T:Addr}{st:Stmt}{oc to:Value}{od an td:Option Addr}{osl ts:Array (Option Value)}{kV doc pm cdv ct:Value}{ds:Array Value}{tn:Nat}
theorem vZ(a:PySem.W.nsIn K mainGlobals g=some (some (.ref f)))(l:K.lookup f=some ⟨oc,od,.func (PySem.W.fnOf n q (FZ st) (Df st) (BX st) (.ref T) kV doc pm an cdv ct),osl⟩)
 (c:PySem.W.codeIn K cdv q=true)(k:PySem.W.keepIn K (.ref f)=true)(t:K.lookup T=some ⟨to,td,.seq ds tn,ts⟩):ADX K g n q st ds:=⟨f,_,a,X8 l c k t rfl⟩
theorem vY(a:PySem.W.findIn K (.ref C) g=some (some (.ref f)))(l:K.lookup f=some ⟨oc,od,.func (PySem.W.fnOf n q (FZ st) (Df st) (BX st) (.ref T) kV doc pm an cdv ct),osl⟩)
 (c:PySem.W.codeIn K cdv q=true)(k:PySem.W.keepIn K (.ref f)=true)(t:K.lookup T=some ⟨to,td,.seq ds tn,ts⟩)(u:PySem.W.typeIn K (.ref f)=some (.type "function")):ABa K C g n q st ds:=⟨f,_,a,X8 l c k t rfl,u⟩
theorem vd(a:PySem.W.findCls K (.ref C) (.type "type") g=some (.val (.ref f)))(l:K.lookup f=some ⟨oc,od,.func (PySem.W.fnOf n q (FZ st) (Df st) (BX st) (.ref T) kV doc pm an cdv ct),osl⟩)
 (c:PySem.W.codeIn K cdv q=true)(k:PySem.W.keepIn K (.ref f)=true)(t:K.lookup T=some ⟨to,td,.seq ds tn,ts⟩):ADY K C g n q st ds:=⟨f,_,a,X8 l c k t rfl⟩
end
section
variable{P:Program}{w:World}{K:Fr}{h:Heap}{mg:Str->Option Value}{base:Heap}{g n q:Str}{C:Addr}{st:Stmt}{ps:List Str}{k:Nat}{sp:Sp}{ds:Array Value}{CX:CXT}{x:Str}
theorem wA(X:K.In h)(G:h.Ns mainGlobals mg)(Q:ADX K g n q st ds)(b:Yc n q st ps [] ds ps.length)(ok:∀{f:Addr} {fd:FuncData} {ds:Array Value},Kg K n q st f fd ds->FN P w K mg base CX0 k f fd ps sp):Cal P w K mg base k g ps sp:=by
 obtain⟨f,fd,a,F⟩:=Q;exact⟨⟨f,fd,ok F,F.bindsD _ rfl b,F.kp,ji2 X G a⟩⟩
theorem Tv(X:K.In h)(G:h.Ns mainGlobals mg)(mk:PySem.W.makesIn K C=true)(kp:PySem.W.keepIn K (.ref C)=true)(nC:PySem.W.nsIn K mainGlobals x=some (some (.ref C)))(Q:ABa K C "__init__" n q st ds)(b:Yc n q st ps [] ds ps.length)
 (ok:∀{f:Addr} {fd:FuncData} {ds:Array Value},Kg K n q st f fd ds->FN P w K mg base CX k f fd ps sp):lO P w K mg base CX k x C ps sp:=by
 obtain⟨f,fd,a,F,u⟩:=Q;exact⟨⟨f,fd,ok F,F.bindsD _ rfl b,⟨mk,a,jc6.mpr u,kp⟩,ji2 X G nC⟩⟩
theorem lC{dv:List Value}{dvs:List V}(m:Nat)(hm:m+dv.length=ps.length)(X:K.In h)(G:h.Ns mainGlobals mg)(mk:PySem.W.makesIn K C=true)(kp:PySem.W.keepIn K (.ref C)=true)(nC:PySem.W.nsIn K mainGlobals x=some (some (.ref C)))(Q:ABa K C "__init__" n q st ds)(b:Yc n q st ps dv ds m)
 (r:Vals dvs dv)(ok:∀{f:Addr} {fd:FuncData} {ds:Array Value},Kg K n q st f fd ds->FN P w K mg base CX k f fd ps sp):sV P w K mg base CX k x C ps dvs sp:=by
 obtain⟨f,fd,a,F,u⟩:=Q;exact⟨⟨f,fd,_,ok F,F.bindsD _ hm b,r,⟨mk,a,jc6.mpr u,kp⟩,ji2 X G nC⟩⟩
theorem rA(X:K.In h)(G:h.Ns mainGlobals mg)(nC:PySem.W.nsIn K mainGlobals x=some (some (.ref C)))(bsp:PySem.W.specialIn K (.ref C) "__getattribute__"=some (some (.builtin "type.__getattribute__")))(brd:PySem.W.readsIn K C (.type "type")=true)(Q:ADY K C "__init__" n q st ds)(b:Yc n q st ps [] ds ps.length)
 (ok:∀{f:Addr} {fd:FuncData} {ds:Array Value},Kg K n q st f fd ds->FN P w K mg base CX0 k f fd ps sp):ABc P w K mg base k x ps sp:=by
 obtain⟨f,fd,a,F⟩:=Q;exact⟨⟨f,C,fd,ok F,F.bindsD _ rfl b,⟨ji2 X G nC,bsp,brd,a,F.kp⟩⟩⟩
end
variable{X:Cx}{x:Str}{p q pos:Pos}{j:Int}{kd:Nat}
theorem pxT(i:Nat)(hN:‹X.N[i]?=some x›)(hv:Vis X.env.scope x:=by first | exact Or.inl rfl | exact Or.inr (Or.inl rfl) | exact Or.inr (Or.inr rfl))(hd:(x==("__debug__":Str))=false:=by decide)
 (hcd:(x==("__classdict__":Str))=false:=by decide):PE X (.Subscript (.Name x p) (.Constant (.int j) kd q) pos) (tOp (uo X.K) (Gp i) (tC (.int j))):=Dr J8 (pv i hN hv hd hcd) Ae (fun _ _=>rfl)
theorem pxL(i:Nat)(hN:‹X.N[i]?=some x›)(hv:Vis X.env.scope x:=by first | exact Or.inl rfl | exact Or.inr (Or.inl rfl) | exact Or.inr (Or.inr rfl))(hd:(x==("__debug__":Str))=false:=by decide)
 (hcd:(x==("__classdict__":Str))=false:=by decide):PE X (.Subscript (.Name x p) (.Constant (.int j) kd q) pos) (tOp (zp X.K) (Gp i) (tC (.int j))):=Dr Ew (pv i hN hv hd hcd) Ae (fun _ _=>rfl)
end L2
namespace L2
open PySem PySem.W PySem.Spec PyProof.Rows
class Stp (G:Prop) (T:outParam Prop):Prop where
 go:T->G
instance:Stp (tO t u D Z H) (t { D with nx:=u D } Z H):=⟨id⟩
instance:Stp (yV te D Z H) (te Z H D.rt):=⟨id⟩
instance:Stp (bI te g D Z H) (te Z H fun x H1=>g x Z H1 D.nx):=⟨id⟩
instance:Stp (ABm c t u D Z H) (c Z H fun b H1=>if b=true then t D Z H1 else u D Z H1):=⟨id⟩
instance:Stp (xF D Z H) (D.nx Z H):=⟨id⟩
instance:Stp (mO te D Z H) (te Z H fun _ H1=>D.nx Z H1):=⟨id⟩
instance:Stp (tOp r ta tb Z H Q) (ta Z H fun x H1=>tb Z H1 fun y H2=>r x y H2 Q):=⟨id⟩
instance:Stp (tC v Z H Q) (Q v H):=⟨id⟩
instance:Stp (tUn r ta Z H Q) (ta Z H fun x H1=>r x H1 Q):=⟨id⟩
instance:Stp (ww t Z H Q) (t Z H fun x H'=>∃k,x=.bl k/\Q k H'):=⟨id⟩
instance:Stp (L2.tB t Z H Q) (t Z H fun x H'=>∃k,x=.bl k/\Q k H'):=⟨id⟩
instance:Stp (ABk t Z H Q) (t Z H fun c H1=>Q (!c) H1):=⟨id⟩
instance:Stp (ABq t u Z H Q) (t Z H fun c H1=>if c=true then u Z H1 Q else Q false H1):=⟨id⟩
instance:Stp (tOr t u Z H Q) (t Z H fun c H1=>if c=true then Q true H1 else u Z H1 Q):=⟨id⟩
instance:Stp (xH ta tb Z H Q) (ta Z H fun x H1=>∃c,x=.bl c/\if c=true then tb Z H1 Q else Q (.bl false) H1):=⟨id⟩
instance:Stp (ABj ta tb Z H Q) (ta Z H fun x H1=>∃c,x=.bl c/\if c=true then Q (.bl true) H1 else tb Z H1 Q):=⟨id⟩
instance:Stp (w5 ta Z H Q) (ta Z H fun x H1=>∃c,x=.bl c/\Q (.bl (!c)) H1):=⟨id⟩
instance:Stp (mU r r' ta tb tc Z H Q) (ta Z H fun x H1=>tb Z H1 fun y H2=>r x y H2 fun z H3=>∃k,z=.bl k/\(if k=true then tc Z H3 fun w' H4=>r' y w' H4 Q else Q (.bl false) H3)):=⟨id⟩
instance:Stp (Jl sp dvs E t Z H Q) (t Z H fun vs H1=>sp (vs++dvs) H1 Q E):=⟨id⟩
instance:Stp (tCB r t Z H Q) (t Z H fun vs H1=>r vs H1 Q):=⟨id⟩
instance:Stp (Iz Z H Q) (Q [] H):=⟨id⟩
instance:Stp (Ex ta tr Z H Q) (ta Z H fun x H1=>tr Z H1 fun xs H2=>Q (x::xs) H2):=⟨id⟩
instance:Stp (tM t Z H Q) (t Z H fun xs H1=>xs.length<=sizeLine/\∀p,H1 p=none->Q (.ref p) (upd H1 p (.tup xs))):=⟨id⟩
instance:Stp (yX t Z H Q) (t Z H fun xs H1=>xs.length<=sizeLine/\∀p,H1 p=none->Q (.ref p) (upd H1 p (.lst xs))):=⟨id⟩
instance {K:Fr}:Stp (ABp K T r to Z H Q) (to Z H fun x H1=>tyV K T x H1/\r x [] H1 Q):=⟨id⟩
instance:Stp (Vk C sp dvs E0 t Z H Q) (t Z H fun vs H1=>∀x dx,H1 x=none->H1 dx=none->dx≠x->sp (.ref x::(vs++dvs)) (upd (upd H1 dx (.own x)) x (.ins C dx [])) (fun v H2=>v=.non/\Q (.ref x) H2) E0):=⟨id⟩
instance {K:Fr}:Stp (yZ K ta f Z H Q) (ta Z H fun x H1=>∃a C dx fs v,x=.ref a/\H1 a=some (.ins C dx fs)/\Cls K C/\DX K C f/\fs.lookup f=some v/\Q v H1):=⟨id⟩
instance {K:Fr}:Stp (ACW K ta tv f D Z H) (tv Z H fun y H1=>ta Z H1 fun x H2=>∃a C dx fs,x=.ref a/\H2 a=some (.ins C dx fs)/\Cls K C/\DX K C f/\fs.length<1000/\D.nx Z (upd H2 a (.ins C dx (De f y fs)))):=⟨id⟩
instance:Stp (Ym C m sp [] E0 ta t Z H Q) (ta Z H fun x H1=>∃a dx fs,x=.ref a/\H1 a=some (.ins C dx fs)/\fs.lookup m=none/\t Z H1 fun vs H2=>sp (x::(vs++[])) H2 Q E0):=⟨id⟩
instance:Stp (RM L m ta t Z H Q) (ta Z H fun x H1=>∃a C dx fs sp,(C,sp)∈L/\x=.ref a/\H1 a=some (.ins C dx fs)/\fs.lookup m=none/\t Z H1 fun vs H2=>sp (x::(vs++[])) H2 Q E0):=⟨id⟩
instance:Stp (ABl ta Z H Q) (ta Z H fun vs H1=>∃(i j:Int),vs=[.int i,.int j]/\i<=j/\j-i<=1000000/\
 ∀l,H1 l=none->Q (.ref l) (upd H1 l (.lst ((List.range (j-i).toNat).map fun(k:Nat)=>V.int (i+(k:Int)))))):=⟨id⟩
instance:Stp (tSl r te tl th Z H Q) (te Z H fun x H1=>tl Z H1 fun l H2=>th Z H2 fun u H3=>r x l u H3 Q):=⟨id⟩
instance:Stp (wy t Z H Q) (t Z H fun x H1=>∃i,x=.int i/\Q (some i) H1):=⟨id⟩
instance:Stp (eO Z H Q) (Q none H):=⟨id⟩
instance:Stp (wu ta Z H Q) (ta Z H fun x H'=>∃i:Int,x=.int i/\Q (i != 0) H'):=⟨id⟩
instance:Stp (ADH to ti t v Z H Q) (to Z H fun o H1=>ti Z H1 fun i H2=>t o i v H2 fun H3=>Q Z H3):=⟨id⟩
instance:Stp (ABi i j ta D Z H) (ta Z H fun vs H1=>∃v w,vs=[v,w]/\D.nx ((Z.set i (some v)).set j (some w)) H1):=⟨id⟩
class StL (N:List Str) (vs:List V) (τ:outParam St):Prop where
 e:start N vs=τ
instance i_st0:StL [] [] []:=⟨rfl⟩
instance i_st1{n:Str}{N:List Str}{v:V}{vs:List V}{τ:St}[h:StL N vs τ]:StL (n::N) (v::vs) (some v::τ):=⟨by
 rw[<-h.e];unfold start;rw[qr,qr,Nat.add_sub_add_right];rfl⟩
instance i_st2{n:Str}{N:List Str}{τ:St}[h:StL N [] τ]:StL (n::N) [] (none::τ):=⟨by
 rw[<-h.e];rfl⟩
class SeL (Z:St) (i:Nat) (v:Option V) (τ:outParam St):Prop where
 e:Z.set i v=τ
instance i_se0{Z:St}{x v:Option V}:SeL (x::Z) 0 v (v::Z):=⟨rfl⟩
instance i_se1{Z τ:St}{x v:Option V}{i:Nat}[h:SeL Z i v τ]:SeL (x::Z) (i+1) v (x::τ):=⟨yk (x:: ·) h.e⟩
class NoL (Z:St) (τ:outParam St):Prop where
 e:Z=τ
instance i_no0:NoL [] []:=⟨rfl⟩
instance i_no1{Z:St}{x:Option V}:NoL (x::Z) (x::Z):=⟨rfl⟩
instance i_no2{N:List Str}{vs:List V}{τ:St}[h:StL N vs τ]:NoL (start N vs) τ:=⟨h.e⟩
instance i_no3{Z τ ρ:St}{v:Option V}{i:Nat}[h:NoL Z τ][g:SeL τ i v ρ]:NoL (Z.set i v) ρ:=⟨by rw[h.e,g.e]⟩
class LoL (Z:St) (i:Nat) (v:outParam V):Prop where
 e:Z[i]?=some (some v)
instance i_lo0{Z:St}{v:V}:LoL (some v::Z) 0 v:=⟨rfl⟩
instance i_lo1{Z:St}{x:Option V}{i:Nat}{v:V}[h:LoL Z i v]:LoL (x::Z) (i+1) v:=⟨h.e⟩
instance i_gname0{i:Nat}{v:V}{Z:St}{H:Hp}{Q:St->Hp->Prop}:Stp (Hk i v Z H Q) (Q (Z.set i (some v)) H):=⟨id⟩
instance i_gname{i:Nat}{v:V}{Z τ ρ:St}{H:Hp}{Q:St->Hp->Prop}[h:NoL Z τ][g:SeL τ i (some v) ρ]:Stp (Hk i v Z H Q) (Q ρ H):=⟨fun z=>by
 show Q (Z.set i (some v)) H
 rwa [h.e,g.e]⟩
instance i_var{i:Nat}{Z τ:St}{H:Hp}{Q:VK}{v:V}[h:NoL Z τ][g:LoL τ i v]:Stp (Gp i Z H Q) (Q v H):=⟨fun z=>J0 (h.e ▸ g.e) z⟩
instance:Stp (xG t Z H Q) (t Str.empty Z H Q):=⟨id⟩
instance {K:Fr}:Stp (wk K ta f Z H Q) (ta Z H fun x H1=>∃a C d fs v,x=.ref a/\H1 a=some (ABb a (.ref C) (some d))/\H1 d=some (.xd fs)/\ABV K C/\PySem.W.hasDictIn K C=true/\PySem.W.findIn K (.ref C) f=some none/\fs.lookup f=some v/\Q v H1):=⟨id⟩
instance:Stp (tIf t ta tb Z H Q) (t Z H fun c H1=>if c=true then ta Z H1 Q else tb Z H1 Q):=⟨id⟩
end L2
local macro_rules | `(tactic| fail "l")=> `(tactic| (intro _ _ _ _ h;(repeat (cases h;rename_i h));subst_vars;rfl))
local macro_rules | `(tactic| fail "v")=> `(tactic| ((with_reducible refine' L2.J0 ?ev ?_);(case ev=>exact rfl)))
local macro_rules | `(tactic| fail "d")=> `(tactic| (refine' (?fw:L2.Vw _ _) ?pw ?xw;(case pw=>intro h;(repeat1' (first | with_reducible refine L2.Stp.go ?_ | fail "v"));exact h);(case fw=>exact fun _ x=>x)))
local macro_rules | `(tactic| fail"r")=> `(tactic| first | fail"d" | (with_reducible first | refine L2.ACb ?_ | refine L2.ADq ?_) | ((with_reducible refine' L2.ACc ?es ?_);(case es=>exact rfl)) | ((with_reducible refine' L2.ACZ ?es ?_);(case es=>exact rfl)) | (with_reducible first | refine L2.fQ ?_ | refine L2.zc ?_ | refine L2.ud ?_ | refine L2.oX ?_ | refine L2.oU ?_ | refine L2.ue ?_) | ((with_reducible refine' L2.Dn ?ec ?_);(case ec=>first | ((with_reducible show L2.ADa _ _);exact⟨by decide,by decide,by decide⟩) | ((with_reducible show L2.sX _ _);exact L2.G7 (by decide) (by decide)) | (show (0:Int)<_;first | decide | lia | exact L2.oZ _))))
local macro_rules | `(tactic| symm)=> `(tactic| repeat fail "r")
local macro_rules | `(tactic| walk_at"fm")=> `(tactic| (repeat (first | exact List.forall_mem_nil _ | refine List.forall_mem_cons.mpr ⟨by with_unfolding_all rfl,?_⟩)))
local macro_rules | `(tactic| walk_at"f")=> `(tactic| ((with_reducible refine L2.R0 ?_);(with_reducible first | refine L2.Lz ?_ | refine L2.xQ ?_ | refine L2.Xd ?_ | refine L2.Qw ?_ | refine L2.fO ?_ | refine L2.oM ?_)))
namespace Fw
inductive Ex2{T0 T1:Type}(p:T0->T1->Prop):Prop where
 | i (x0:T0) (x1:T1) (h:p x0 x1):Ex2 p
inductive Ex3{T0 T1 T2:Type}(p:T0->T1->T2->Prop):Prop where
 | i (x0:T0) (x1:T1) (x2:T2) (h:p x0 x1 x2):Ex3 p
inductive Ex4{T0 T1 T2 T3:Type}(p:T0->T1->T2->T3->Prop):Prop where
 | i (x0:T0) (x1:T1) (x2:T2) (x3:T3) (h:p x0 x1 x2 x3):Ex4 p
inductive Ex5{T0 T1 T2 T3 T4:Type}(p:T0->T1->T2->T3->T4->Prop):Prop where
 | i (x0:T0) (x1:T1) (x2:T2) (x3:T3) (x4:T4) (h:p x0 x1 x2 x3 x4):Ex5 p
inductive Ex6{T0 T1 T2 T3 T4 T5:Type}(p:T0->T1->T2->T3->T4->T5->Prop):Prop where
 | i (x0:T0) (x1:T1) (x2:T2) (x3:T3) (x4:T4) (x5:T5) (h:p x0 x1 x2 x3 x4 x5):Ex6 p
inductive Ex7{T0 T1 T2 T3 T4 T5 T6:Type}(p:T0->T1->T2->T3->T4->T5->T6->Prop):Prop where
 | i (x0:T0) (x1:T1) (x2:T2) (x3:T3) (x4:T4) (x5:T5) (x6:T6) (h:p x0 x1 x2 x3 x4 x5 x6):Ex7 p
inductive Ex8{T0 T1 T2 T3 T4 T5 T6 T7:Type}(p:T0->T1->T2->T3->T4->T5->T6->T7->Prop):Prop where
 | i (x0:T0) (x1:T1) (x2:T2) (x3:T3) (x4:T4) (x5:T5) (x6:T6) (x7:T7) (h:p x0 x1 x2 x3 x4 x5 x6 x7):Ex8 p
inductive Ex9{T0 T1 T2 T3 T4 T5 T6 T7 T8:Type}(p:T0->T1->T2->T3->T4->T5->T6->T7->T8->Prop):Prop where
 | i (x0:T0) (x1:T1) (x2:T2) (x3:T3) (x4:T4) (x5:T5) (x6:T6) (x7:T7) (x8:T8) (h:p x0 x1 x2 x3 x4 x5 x6 x7 x8):Ex9 p
inductive wV{T0 T1 T2 T3 T4 T5 T6 T7 T8 T9:Type}(p:T0->T1->T2->T3->T4->T5->T6->T7->T8->T9->Prop):Prop where
 | i (x0:T0) (x1:T1) (x2:T2) (x3:T3) (x4:T4) (x5:T5) (x6:T6) (x7:T7) (x8:T8) (x9:T9) (h:p x0 x1 x2 x3 x4 x5 x6 x7 x8 x9):wV p
inductive An3(p0 p1 p2:Prop):Prop where
 | i (h0:p0) (h1:p1) (h2:p2):An3 p0 p1 p2
inductive An4(p0 p1 p2 p3:Prop):Prop where
 | i (h0:p0) (h1:p1) (h2:p2) (h3:p3):An4 p0 p1 p2 p3
inductive An5(p0 p1 p2 p3 p4:Prop):Prop where
 | i (h0:p0) (h1:p1) (h2:p2) (h3:p3) (h4:p4):An5 p0 p1 p2 p3 p4
inductive An6(p0 p1 p2 p3 p4 p5:Prop):Prop where
 | i (h0:p0) (h1:p1) (h2:p2) (h3:p3) (h4:p4) (h5:p5):An6 p0 p1 p2 p3 p4 p5
inductive An7(p0 p1 p2 p3 p4 p5 p6:Prop):Prop where
 | i (h0:p0) (h1:p1) (h2:p2) (h3:p3) (h4:p4) (h5:p5) (h6:p6):An7 p0 p1 p2 p3 p4 p5 p6
inductive An8(p0 p1 p2 p3 p4 p5 p6 p7:Prop):Prop where
 | i (h0:p0) (h1:p1) (h2:p2) (h3:p3) (h4:p4) (h5:p5) (h6:p6) (h7:p7):An8 p0 p1 p2 p3 p4 p5 p6 p7
inductive An9(p0 p1 p2 p3 p4 p5 p6 p7 p8:Prop):Prop where
 | i (h0:p0) (h1:p1) (h2:p2) (h3:p3) (h4:p4) (h5:p5) (h6:p6) (h7:p7) (h8:p8):An9 p0 p1 p2 p3 p4 p5 p6 p7 p8
inductive ABd(p0 p1 p2 p3 p4 p5 p6 p7 p8 p9:Prop):Prop where
 | i (h0:p0) (h1:p1) (h2:p2) (h3:p3) (h4:p4) (h5:p5) (h6:p6) (h7:p7) (h8:p8) (h9:p9):ABd p0 p1 p2 p3 p4 p5 p6 p7 p8 p9
inductive ADe(p0 p1 p2 p3 p4 p5 p6 p7 p8 p9 p10 p11 p12:Prop):Prop where
 | i (h0:p0) (h1:p1) (h2:p2) (h3:p3) (h4:p4) (h5:p5) (h6:p6) (h7:p7) (h8:p8) (h9:p9) (h10:p10) (h11:p11) (h12:p12):ADe p0 p1 p2 p3 p4 p5 p6 p7 p8 p9 p10 p11 p12
theorem LR(r d:Int)(hd:d≠0):0<=r.fmod d*d/\(r.fmod d).natAbs<d.natAbs:=by
 rcases(by omega:0<d\/d<0) with h | h
 ·have a:=jm7 r h;have b:=Int.fmod_lt_of_pos r h;exact⟨jj1 a (jd4 h),by omega⟩
 ·have e:r.fmod d= -((-r).fmod (-d)):=by
   rw[Int.fmod_def,Int.fmod_def,Int.neg_fdiv_neg,Int.neg_mul];omega
  have a:=jm7 (-r) (b:= -d) (by omega);have b:=Int.fmod_lt_of_pos (-r) (b:= -d) (by omega);rw[e];generalize (-r).fmod (-d)=z at*
  refine⟨?_,by omega⟩;have:=jj1 a (show 0<= -d by omega);rw[Int.neg_mul];rw[jf1] at this;omega
structure EqI(a b u v r u' v' r':Int):Prop where
 e1:u*a+v*b=r
 e2:u'*a+v'*b=r'
 g:Int.gcd r r'=Int.gcd a b
 ph:(u=1/\v=0/\r=a/\u'=0/\v'=1/\r'=b)\/
  (b≠0/\r≠0/\0<=r'*r/\r.natAbs<=b.natAbs/\r'.natAbs<=b.natAbs/\u'.natAbs*r.natAbs+u.natAbs*r'.natAbs<=b.natAbs/\u.natAbs<=b.natAbs+1)
theorem EqI.start(a b:Int):EqI a b 1 0 a 0 1 b:=⟨⋯,⋯,rfl,.inl ⟨rfl,rfl,rfl,rfl,rfl,rfl⟩⟩
theorem J4(u q x:Int):(u-q*x).natAbs<=u.natAbs+q.natAbs*x.natAbs:=by
 have h:=Int.natAbs_sub_le u (q*x);rw[jn4] at h;exact h
variable{d:Int}
theorem Ra{r:Int}(hd:d≠0)(hs:0<=d*r):(r-r.fdiv d*d).natAbs+(r.fdiv d).natAbs*d.natAbs=r.natAbs:=by
 have e:r.fmod d+r.fdiv d*d=r:=jn6 r d;have e2:r-r.fdiv d*d=r.fmod d:=by omega
 rw[e2,<-jn4];have fs:=LR r d hd;rcases(by omega:0<d\/d<0) with h | h
 ·have r0:0<=r:=by
   rcases(by omega:0<=r\/r<0) with z | z
   ·exact z
   ·have:=Int.mul_neg_of_pos_of_neg h z;omega
  have q0:0<=r.fdiv d:=Int.fdiv_nonneg r0 (jd4 h);have a:=jm7 r h;have p:=jj1 q0 (jd4 h);omega
 ·have r0:r<=0:=by
   rcases(by omega:r<=0\/0<r) with z | z
   ·exact z
   ·have:=Int.mul_neg_of_neg_of_pos h z;omega
  have q0:0<=r.fdiv d:=Int.fdiv_nonneg_of_nonpos_of_nonpos r0 (jd4 h);have a:r.fmod d<=0:=by
   rcases(by omega:r.fmod d<=0\/0<r.fmod d) with z | z
   ·exact z
   ·have:=Int.mul_neg_of_pos_of_neg z h;omega
  have p:=jj1 q0 (show 0<= -d by omega);rw[jf1] at p;omega
variable{a r':Int}
theorem EqI.step{b u v r u' v':Int}(I:EqI a b u v r u' v' r')(h:r'≠0):
 EqI a b u' v' r' (u-r.fdiv r'*u') (v-r.fdiv r'*v') (r-r.fdiv r'*r')/\(r-r.fdiv r'*r').natAbs<r'.natAbs:=by
 have e:r.fmod r'+r.fdiv r'*r'=r:=jn6 r r';have e2:r-r.fdiv r'*r'=r.fmod r':=⋯;have fs:=LR r r' h;refine⟨⟨I.e2,?_,?_,?_⟩,by rw[e2];exact fs.2⟩
 ·have:=I.e1;have:=I.e2
  grind
 ·rw[Int.gcd_sub_mul_right_right,Int.gcd_comm];exact I.g
 ·right;rcases I.ph with ⟨h1,h2,h3,h4,h5,h6⟩ | ⟨hb,hr,hs,l1,l2,l3,l4⟩
  ·subst h1 h2 h3 h4 h5 h6;refine⟨h,h,by rw[e2];exact fs.1,qq _,by rw[e2];lia,?_,by simp⟩;simp
  ·have q:=Ra h hs;refine⟨hb,h,by rw[e2];exact fs.1,l2,by rw[e2];lia,?_,?_⟩
   ·have m:=J4 u (r.fdiv r') u';generalize (r-r.fdiv r'*r').natAbs=A at*
    generalize (u-r.fdiv r'*u').natAbs=B at*
    generalize (r.fdiv r').natAbs=C at*
    have k1:B*r'.natAbs<=(u.natAbs+C*u'.natAbs)*r'.natAbs:=jg9 _ m;have k2:(u.natAbs+C*u'.natAbs)*r'.natAbs+u'.natAbs*A=u.natAbs*r'.natAbs+u'.natAbs*(A+C*r'.natAbs):=by grind
    rw[q] at k2;lia
   ·have:u'.natAbs*1<=u'.natAbs*r.natAbs:=ji1 _ ⋯;lia
theorem v_bound{b u v r:Int}(hb:b≠0)(e:u*a+v*b=r)(l1:r.natAbs<=b.natAbs)(l4:u.natAbs<=b.natAbs+1):v.natAbs<=1+2*a.natAbs:=by
 have e1:v*b=r-u*a:=⋯;have h:=J4 r u a;rw[<-e1,jn4] at h;have hb':0<b.natAbs:=⋯;have k:u.natAbs*a.natAbs<=(b.natAbs+1)*a.natAbs:=jg9 _ l4;have k2:a.natAbs*1<=a.natAbs*b.natAbs:=ji1 _ hb';have k3:v.natAbs*b.natAbs<=(1+2*a.natAbs)*b.natAbs:=by grind
 exact Nat.le_of_mul_le_mul_right k3 hb'
theorem EqI.bounds{b u v r u' v':Int}(I:EqI a b u v r u' v' r'):
 u.natAbs<=b.natAbs+1/\v.natAbs<=1+2*a.natAbs/\u'.natAbs<=b.natAbs+1/\v'.natAbs<=1+2*a.natAbs/\r.natAbs<=a.natAbs+b.natAbs/\r'.natAbs<=b.natAbs:=by
 rcases I.ph with ⟨h1,h2,h3,h4,h5,h6⟩ | ⟨hb,hr,hs,l1,l2,l3,l4⟩
 ·subst h1 h2 h3 h4 h5 h6;refine⟨by simp,by simp,by simp,by simp,⋯,⋯⟩
 ·have:u'.natAbs*1<=u'.natAbs*r.natAbs:=ji1 _ ⋯;have lu:u'.natAbs<=b.natAbs+1:=⋯
  exact⟨l4,v_bound hb I.e1 l1 l4,lu,v_bound hb I.e2 l2 lu,⋯,l2⟩
theorem cH{r:Int}(hd:d≠0):(r.fdiv d).natAbs<=r.natAbs+1:=by
 have e:r.fmod d+r.fdiv d*d=r:=jn6 r d;have fs:=(LR r d hd).2;have h:(r.fdiv d*d).natAbs<=r.natAbs+(r.fmod d).natAbs:=by omega
 rw[jn4] at h;have d1:1<=d.natAbs:=by omega
 generalize (r.fdiv d).natAbs=x at*
 generalize d.natAbs=y at*
 generalize r.natAbs=z at*
 rcases(by omega:x<=1\/2<=x) with c | c
 ·omega
 ·obtain⟨k,rfl⟩:∃k,x=k+1:=⟨x-1,by omega⟩;have:(k+1)*y=k*y+y:=jl7 k y;have:k*1<=k*y:=ji1 k d1;omega
structure Eqn(a b u v g:Int):Prop where
 eq:u*a+v*b=g
 gd:g=(Int.gcd a b:Int)
 bu:u.natAbs<=b.natAbs+1
 bv:v.natAbs<=1+2*a.natAbs
theorem EqI.done{b u v r u' v':Int}(I:EqI a b u v r u' v' 0):(r<0->Eqn a b (-u) (-v) (-r))/\(¬r<0->Eqn a b u v r):=by
 have g:=I.g;rw[Int.gcd_zero_right] at g;have B:=I.bounds;refine⟨fun h=>⟨?_,⋯,⋯,⋯⟩,fun h=>⟨I.e1,⋯,B.1,B.2.1⟩⟩;have:=I.e1;rw[Int.neg_mul,Int.neg_mul];lia
theorem Ja{b:Int}(ha:0<a):0<(Int.gcd a b:Int):=by
 have:Int.gcd a b≠0:=fun z=>by
  have:=Int.eq_zero_of_gcd_eq_zero_left z;lia
 lia
theorem X7{b:Int}(ha:0<a):(Int.gcd a b:Int)<=a:=jk6 ha (jf8 ..)
noncomputable def Bj(a b:Int):Int:=a/(Int.gcd a b:Int)*b
theorem BV{b:Int}(ha:0<a)(hb:0<b):
 0<Bj a b/\a∣Bj a b/\b∣Bj a b/\Bj a b*(Int.gcd a b:Int)=a*b/\(∀t,a∣t->b∣t->Bj a b∣t)/\Bj a b=(Int.lcm a b:Int):=by
 have gp:=Ja (b:=b) ha;obtain⟨x,hx⟩:(Int.gcd a b:Int)∣a:=jf8 ..;obtain⟨y,hy⟩:(Int.gcd a b:Int)∣b:=jh1 ..;have e1:a/(Int.gcd a b:Int)=x:=by
  have gne:(Int.gcd a b:Int)≠0:=⋯;generalize hg:(Int.gcd a b:Int)=g at*
  rw[hx];exact jh2 x gne
 have e:Bj a b=x*b:=by unfold Bj;rw[e1]
 have pr:Bj a b*(Int.gcd a b:Int)=a*b:=by rw[e];conv=>rhs;rw[hx]
                                          grind
 have pl:(Int.lcm a b:Int)*(Int.gcd a b:Int)=a*b:=by
  have h:=Int.gcd_mul_lcm a b;have h2:((Int.gcd a b*Int.lcm a b:Nat):Int)=((a.natAbs*b.natAbs:Nat):Int):=by rw[h]
  rw[jh3,jh3,Int.natAbs_of_nonneg (jd4 ha),Int.natAbs_of_nonneg (jd4 hb)] at h2;rw[ja4];exact h2
 have el:Bj a b=(Int.lcm a b:Int):=Int.eq_of_mul_eq_mul_right (by lia:(Int.gcd a b:Int)≠0) (pr.trans pl.symm);refine⟨?_,?_,?_,pr,?_,el⟩
 ·have:0<Bj a b*(Int.gcd a b:Int):=by rw[pr];exact Int.mul_pos ha hb
  exact Int.pos_of_mul_pos_left this gp
 ·rw[el];exact Int.dvd_lcm_left ..
 ·rw[el];exact Int.dvd_lcm_right ..
 ·intro t h1 h2;rw[el];exact Int.coe_lcm_dvd h1 h2
theorem Vx{b:Int}(ha:0<a)(hb:0<b):Bj a b=Bj b a:=by
 rw[(BV ha hb).2.2.2.2.2,(BV hb ha).2.2.2.2.2,Int.lcm_comm]
theorem vL{b:Int}(ha:0<a)(hb:0<b):Bj a b<=a*b:=by
 have f:=BV ha hb;have gp:=Ja (b:=b) ha;have h:Bj a b*1<=Bj a b*(Int.gcd a b:Int):=je3 ⋯ (jd4 f.1);rw[f.2.2.2.1] at h;lia
theorem pU{b u v r:Int}(ha:0<a)(hb:0<b)(e:u*a+v*b=(Int.gcd a b:Int))(hd:(Int.gcd a b:Int)∣r'-r)(day:Int):
 let d:=r+(r'-r)/(Int.gcd a b:Int)*u*a
 (a∣day-r/\b∣day-r')<->Bj a b∣day-d%Bj a b:=by
 intro d;have f:=BV ha hb;obtain⟨k,hk⟩:=hd;have gp:=Ja (b:=b) ha;have e1:(r'-r)/(Int.gcd a b:Int)=k:=by rw[hk];exact jh2 k ⋯
 have d1:d=r+k*u*a:=by show r+(r'-r)/(Int.gcd a b:Int)*u*a=_;rw[e1]
 have d2:d=r'-k*v*b:=by rw[d1];grind
 have dm:Bj a b∣d-d%Bj a b:=⟨d/Bj a b,by have:=ky d (Bj a b);lia⟩;constructor
 ·rintro⟨⟨x,hx⟩,⟨y,hy⟩⟩;have h1:Bj a b∣day-d:=by
   refine f.2.2.2.2.1 _ ⟨x-k*u,?_⟩ ⟨y+k*v,?_⟩
   ·rw[d1];grind
   ·rw[d2];grind
  have:=Int.dvd_add h1 dm
  rwa [show day-d+(d-d%Bj a b)=day-d%Bj a b by lia] at this
 ·intro h;have h1:Bj a b∣day-d:=by
   have:=Int.dvd_sub h dm
   rwa [show day-d%Bj a b-(d-d%Bj a b)=day-d by lia] at this
  obtain⟨x,hx⟩:=ja2 f.2.1 h1;obtain⟨y,hy⟩:=ja2 f.2.2.1 h1;refine⟨⟨x+k*u,?_⟩,⟨y-k*v,?_⟩⟩
  ·rw[d1] at hx;grind
  ·rw[d2] at hy;grind
noncomputable def On(n:Int)(b:Nat)(d:Int):Bool:=b.testBit (d%n).toNat
theorem ACn(b k:Nat):decide (((b:Nat):Int)/2^k%2=1)=b.testBit k:=by
 rw[Nat.testBit_eq_decide_div_mod_eq];have e:((b:Nat):Int)/2^k%2=((b/2^k%2:Nat):Int):=by
  rw[jb8,Int.natCast_ediv,jh4];rfl
 rw[e,Qr];simp only[decide_eq_true_eq];lia
theorem HN(b k:Nat):((b:Nat):Int)/2^k=((b >>> k:Nat):Int):=by
 rw[ua,Int.natCast_ediv,jh4];rfl
theorem RX(b k:Nat):((b:Nat):Int)*2^k=((b <<< k:Nat):Int):=by
 rw[Nat.shiftLeft_eq,jh3,jh4];rfl
theorem j6(k:Nat):(1:Int)*2^k-1=((2^k-1:Nat):Int):=by
 have:0<2^k:=Zp k;rw[Int.natCast_sub ⋯,jh4];simp
theorem oY(k:Nat):(1:Int)*2^k=((2^k:Nat):Int):=by
 rw[jh4];simp
variable{b c:Nat}
theorem Um{w:Nat}(hb:b<2^w)(hc:c<2^w)(h:∀i,i<w->b.testBit i=c.testBit i):b=c:=by
 refine ka fun i=>?_;by_cases hi:i<w
 ·exact h i hi
 ·have p:2^w<=2^i:=kc nofun ⋯;rw[jj4 ⋯,jj4 ⋯]
theorem high{n i:Nat}(hb:b<2^n)(h:n<=i):b.testBit i=false:=by
 have p:2^n<=2^i:=kc nofun h;exact jj4 ⋯
theorem Ke(c w:Nat):c &&& (2^w-1)<2^w:=by
 rw[Nat.and_two_pow_sub_one_eq_mod];exact jn1 _ (Zp w)
theorem Jj(c w i:Nat)(h:i<w):(c &&& (2^w-1)).testBit i=c.testBit i:=by
 rw[ja1,jk4];simp[h]
noncomputable def lat(n b s:Nat):Nat:=((b <<< s) ||| (b >>> (n-s))) &&& (2^n-1)
theorem Ob(n b s:Nat):lat n b s<2^n:=Ke _ _
theorem vM{n s i:Nat}(hb:b<2^n)(hs:s<n)(hi:i<n):(lat n b s).testBit i=b.testBit ((i+n-s)%n):=by
 unfold lat;rw[Jj _ _ _ hi,jc8,jn9,jb3];by_cases h:s<=i
 ·have e:(i+n-s)%n=i-s:=by
   have:i+n-s=i-s+n:=⋯;rw[this,Nat.add_mod_right,jf9 ⋯]
  rw[e,high hb (show n<=n-s+i by lia)];simp[h]
 ·have e:(i+n-s)%n=n-s+i:=by
   rw[jf9 ⋯];lia
  rw[e];simp[h]
theorem idx{n num:Int}(hn:0<n):(((d%n).toNat+n.toNat-(num%n).toNat)%n.toNat)=((d-num)%n).toNat:=by
 have h1:=qg d (show n≠0 by lia);have h2:=jv d hn;have h3:=qg num (show n≠0 by lia);have h4:=jv num hn;have e:(d-num)%n=(d%n+n-num%n)%n:=by
  rw[Int.sub_emod,Int.sub_emod (d%n+n),Int.add_emod_right,Int.emod_emod,Int.emod_emod]
 have h5:=qg (d%n+n-num%n) (show n≠0 by lia);rw[e];have k:(((d%n).toNat+n.toNat-(num%n).toNat:Nat):Int)=d%n+n-num%n:=⋯;have k2:(n.toNat:Int)=n:=⋯;have:((((d%n).toNat+n.toNat-(num%n).toNat)%n.toNat:Nat):Int)=(d%n+n-num%n)%n:=by
  rw[jb8,k,k2]
 lia
theorem TF{n:Int}{num:Int}(hn:0<n)(hb:b<2^n.toNat):On n (lat n.toNat b (num%n).toNat) d=On n b (d-num):=by
 unfold On;have h1:=qg d (show n≠0 by lia);have h2:=jv d hn;have h3:=qg num (show n≠0 by lia);have h4:=jv num hn;rw[vM hb ⋯ ⋯,idx hn]
structure HX(n b w c:Nat):Prop where
 lt:c<2^w
 bit:∀i,i<w->c.testBit i=b.testBit (i%n)
theorem HX.start{n:Nat}(h:b<2^n):HX n b n b:=⟨h,fun i hi=>by rw[jf9 hi]⟩
theorem HX.dbl{n w:Nat}(S:HX n b w c)(hd:n∣w):HX n b (w*2) (c ||| (c <<< w)):=by
 have e:2^(w*2)=2^w*2^w:=by rw[Nat.mul_two,jp5]
 refine⟨?_,fun i hi=>?_⟩
 ·refine Nat.or_lt_two_pow (xk S.lt (kc nofun ⋯)) ?_;rw[Nat.shiftLeft_eq,e];exact Nat.mul_lt_mul_of_pos_right S.lt (Zp w)
 ·rw[jc8,jn9];by_cases h:i<w
  ·rw[S.bit i h];simp[Nat.not_le.mpr h]
  ·rw[high S.lt ⋯,S.bit (i-w) ⋯];obtain⟨k,rfl⟩:=hd;have e2:i=(i-n*k)+n*k:=⋯
   have e3:i%n=(i-n*k)%n:=by conv=>lhs;rw[e2,Nat.add_mul_mod_self_left]
   rw[e3];simp;intro z;lia
theorem HX.cut{n w z:Nat}(S:HX n b w c)(h:z<=w):HX n b z (c &&& (2^z-1)):=
 ⟨Ke _ _,fun i hi=>by rw[Jj _ _ _ hi,S.bit i ⋯]⟩
theorem HX.on{n m:Int}(hn:0<n)(hm:0<m)(hd:n∣m)(S:HX n.toNat b m.toNat c)(d:Int):On m c d=On n b d:=by
 unfold On;have h1:=qg d (show m≠0 by lia);have h2:=jv d hm;rw[S.bit _ ⋯]
 congr 1
 have e:(d%m)%n=d%n:=jb0 d hd;have h3:=qg d (show n≠0 by lia);have k:(((d%m).toNat%n.toNat:Nat):Int)=d%m%n:=by
  rw[jb8];have a1:((d%m).toNat:Int)=d%m:=⋯;have a2:(n.toNat:Int)=n:=⋯;rw[a1,a2]
 rw[e] at k;lia
noncomputable def hit(n:Int)(ds:List Int)(d:Int):Bool:=ds.any fun x=>decide ((d-x)%n=0)
structure RB(n:Int)(ds:List Int)(b:Nat):Prop where
 lt:b<2^n.toNat
 bit:∀d,On n b d=hit n ds d
theorem RB.nil(n:Int):RB n [] 0:=⟨Zp _,fun d=>by unfold On hit;simp⟩
theorem Wu{n x:Int}(hn:0<n):(d-x)%n=0<->d%n=x%n:=by
 rw[Int.sub_emod];have h1:=qg d (show n≠0 by lia);have h2:=jv d hn;have h3:=qg x (show n≠0 by lia);have h4:=jv x hn;constructor
 ·intro h;have:=ja7 h;obtain⟨k,hk⟩:=this;have:k=0:=by
   rcases Int.lt_trichotomy k 0 with z | z | z
   ·have:n*k<=n*(-1):=je3 ⋯ ⋯;lia
   ·exact z
   ·have:n*1<=n*k:=je3 ⋯ ⋯;lia
  subst this;lia
 ·intro h;rw[h];simp
theorem RB.snoc{n:Int}{ds:List Int}{x:Int}(hn:0<n)(h:RB n ds b):RB n (ds++[x]) (b ||| 2^(x%n).toNat):=by
 have h3:=qg x (show n≠0 by lia);have h4:=jv x hn;refine⟨Nat.or_lt_two_pow h.lt (Nat.pow_lt_pow_right nofun ⋯),fun d=>?_⟩;have h1:=qg d (show n≠0 by lia);have hb:=h.bit d;unfold On hit at*
 rw[jc8,hb,List.any_append,jl5]
 congr 1
 rw[jk7,List.any_nil,jo7,Qr,decide_eq_true_eq,decide_eq_true_eq,Wu hn];lia
def Fold(z b m c:Nat):Prop:=∀i,c.testBit i=true<->∃k,k<m/\b.testBit (i+k*z)=true
theorem Fold.start(z b:Nat):Fold z b 1 b:=fun i=>⟨fun h=>⟨0,⋯,by simpa using h⟩,fun⟨k,hk,h⟩=>by
 have:k=0:=⋯;subst this;simpa using h⟩
theorem Fold.dbl{z m:Nat}(F:Fold z b m c):Fold z b (m*2) (c ||| (c >>> (m*z))):=fun i=>by
 rw[jc8,jb3,je9,F i,F (m*z+i)];constructor
 ·rintro(⟨k,hk,h⟩ | ⟨k,hk,h⟩)
  ·exact⟨k,⋯,h⟩
  ·refine⟨m+k,⋯,?_⟩;rw[Nat.add_mul]
   rwa [show m*z+i+k*z=i+(m*z+k*z) by lia] at h
 ·rintro⟨k,hk,h⟩;by_cases c1:k<m
  ·exact .inl ⟨k,c1,h⟩
  ·refine .inr ⟨k-m,⋯,?_⟩;obtain⟨j,rfl⟩:∃j,k=m+j:=⟨k-m,⋯⟩;rw[show m+j-m=j by lia];rw[Nat.add_mul] at h
   rwa [show i+(m*z+j*z)=m*z+i+j*z by lia] at h
theorem Fold.done{z m n r:Nat}(F:Fold z b m c)(hb:b<2^n)(hm:n<=m*z)(hz:0<z)(hr:r<z):
 (c &&& (2^z-1)).testBit r=true<->∃k,r+k*z<n/\b.testBit (r+k*z)=true:=by
 rw[Jj _ _ _ hr,F r];constructor
 ·rintro⟨k,hk,h⟩;refine⟨k,?_,h⟩;rcases Nat.lt_or_ge (r+k*z) n with g | g
  ·exact g
  ·rw[high hb g] at h;cases h
 ·rintro⟨k,hk,h⟩;refine⟨k,?_,h⟩;have:k*z<m*z:=⋯
  exact Nat.lt_of_mul_lt_mul_right this
noncomputable def cnt(b:Nat):Nat->Nat
 | 0=>0
 | k+1=>cnt b k+(if b.testBit k then 1 else 0)
theorem Z5(b:Nat):∀k,cnt b (k+1)=b%2+cnt (b/2) k
 | 0=>by
  simp only[cnt,jl2];have:=Nat.mod_two_eq_zero_or_one b;rcases this with h | h<;>simp[h]
 | k+1=>by
  have ih:=Z5 b k;rw[cnt,ih];show b%2+cnt (b/2) k+_=b%2+(cnt (b/2) k+_);rw[je5];lia
noncomputable def CC(n:Int)(b:Nat)(d:Int):Int:=d/n*(cnt b n.toNat:Int)+(cnt b (d%n).toNat:Int)
theorem iR{n:Int}(hn:0<n)(d:Int):CC n b (d+1)=CC n b d+(if On n b d then 1 else 0):=by
 have h1:=qg d (show n≠0 by lia);have h2:=jv d hn;have h3:=ky d n;unfold CC On;by_cases hl:d%n=n-1
 ·have hd:d+1=n*(d/n+1):=by rw[ja3,jc9];lia
  have e1:(d+1)/n=d/n+1:=by rw[hd];exact jh2 _ ⋯
  have e2:(d+1)%n=0:=by rw[hd];exact Int.mul_emod_right _ _
  have e3:n.toNat=(d%n).toNat+1:=⋯;rw[e1,e2];show(d/n+1)*(cnt b n.toNat:Int)+((cnt b 0:Nat):Int)=_;have e4:(cnt b n.toNat:Int)=(cnt b (d%n).toNat:Int)+(if b.testBit (d%n).toNat then 1 else 0):=by
   rw[e3,cnt];split<;>simp
  have e5:((cnt b 0:Nat):Int)=0:=rfl;rw[jj6,jg7,e5];lia
 ·have e1:(d+1)/n=d/n:=by
   have:d+1=n*(d/n)+(d%n+1):=⋯;rw[this,jn7 _ _ ⋯,jf5 (a:=d%n+1) (b:=n) ⋯ ⋯,jd6]
  have e2:(d+1)%n=d%n+1:=by
   have:d+1=n*(d/n)+(d%n+1):=⋯;rw[this,Int.mul_add_emod_self_left];exact Zl ⋯ ⋯
  rw[e1,e2];have e3:(d%n+1).toNat=(d%n).toNat+1:=⋯;rw[e3,cnt];split<;>simp<;>lia
theorem qd(c d:Nat):(2*c) &&& (2*d+1)=2*(c &&& d):=by
 refine ka fun i=>?_;cases i with
 | zero=>rw[ja1];simp[jl2]
 | succ i=>
  rw[ja1,je5,je5,je5,show 2*c/2=c by lia,show(2*d+1)/2=d by lia,show 2*(c &&& d)/2=c &&& d by lia,ja1]
theorem u9(c:Nat):(2*c+1) &&& (2*c)=2*c:=by
 refine ka fun i=>?_;cases i with
 | zero=>rw[ja1];simp[jl2]
 | succ i=>
  rw[ja1,je5,je5,show 2*c/2=c by lia,show(2*c+1)/2=c by lia,Bool.and_self]
theorem gH:∀(k b:Nat),b.testBit k=true->(∀i,i<k->b.testBit i=false)->(b &&& (b-1))+2^k=b
 | 0,b,h,_=>by
  rw[jl2,decide_eq_true_eq] at h;obtain⟨c,rfl⟩:∃c,b=2*c+1:=⟨b/2,⋯⟩;rw[show 2*c+1-1=2*c by lia,u9]
 | k+1,b,h,g=>by
  have g0:=g 0 ⋯;rw[jl2,decide_eq_false_iff_not] at g0;obtain⟨c,rfl⟩:∃c,b=2*c:=⟨b/2,⋯⟩;rw[je5,show 2*c/2=c by lia] at h;have c0:c≠0:=by
   rintro rfl;rw[jd5] at h;exact Bool.noConfusion h
  have ih:=gH k c h fun i hi=>by
   have:=g (i+1) ⋯
   rwa [je5,show 2*c/2=c by lia] at this
  rw[show 2*c-1=2*(c-1)+1 by lia,qd,Nat.pow_succ];lia
theorem AAe(h:b≠0):∃k,b.testBit k=true/\∀i,i<k->b.testBit i=false:=by
 obtain⟨j,hj⟩:=Nat.exists_testBit_of_ne_zero h;have:∀n j,j<=n->b.testBit j=true->∃k,b.testBit k=true/\∀i,i<k->b.testBit i=false:=by
  intro n
  induction n with
  | zero=>
   intro j hj hb;exact⟨j,hb,fun i hi=>⋯⟩
  | succ n ih=>
   intro j hj hb;by_cases c:∃i,i<j/\b.testBit i=true
   ·obtain⟨i,hi,hb'⟩:=c;exact ih i ⋯ hb'
   ·exact⟨j,hb,fun i hi=>by
     cases e:b.testBit i with
     | false=>rfl
     | true=>exact absurd ⟨i,hi,e⟩ c⟩
 exact this j j (qq _) hj
theorem pY(k:Nat):(2^k).log2=k:=by
 have h0:(2:Nat)^k≠0:=by have:=Zp k;lia
 exact Nat.log2_two_pow
noncomputable def Kv(w:Nat):List Nat->Nat
 | []=>0
 | a::l=>a+2^w*Kv w l
noncomputable def fsum:List Nat->Nat
 | []=>0
 | a::l=>a+fsum l
def Dg(w f s:Nat):Prop:=∃l:List Nat,(∀a∈l,a<=w)/\f=Kv w l/\s=fsum l
theorem Dg.nil{w:Nat}:Dg w 0 0:=⟨[],(fun _ h=>nomatch h),rfl,rfl⟩
theorem Dg.cons{w a f s:Nat}(h:a<=w)(g:Dg w f s):Dg w (a+2^w*f) (a+s):=by
 obtain⟨l,h1,rfl,rfl⟩:=g;exact⟨a::l,fun x hx=>(zo.mp hx).elim (fun e=>e ▸ h) (h1 x),rfl,rfl⟩
def Ev(w f e:Nat):Prop:=∀i,e.testBit i=(f.testBit i&&decide (i%(2*w)<w))
theorem V5{w:Nat}:∀l:List Nat,Kv w l=0->fsum l=0
 | [],_=>rfl
 | a::l,e=>by
  have e:a+2^w*Kv w l=0:=e;have e1:a=0:=⋯;have e2:2^w*Kv w l=0:=⋯;have p:=Zp w;rcases Nat.mul_eq_zero.mp e2 with z | z
  ·lia
  ·show a+fsum l=0;rw[e1,V5 l z]
theorem Dg.last{w f s:Nat}(h:Dg w f s)(hl:f<2^w):f=s:=by
 obtain⟨l,_,rfl,rfl⟩:=h;cases l with
 | nil=>rfl
 | cons a l=>
  have hl:a+2^w*Kv w l<2^w:=hl;have z:Kv w l=0:=by
   rcases Nat.eq_zero_or_pos (Kv w l) with z | z
   ·exact z
   ·have:=Nat.le_mul_of_pos_right (2^w) z;lia
  show a+2^w*Kv w l=a+fsum l;rw[V5 l z,z];simp
theorem We{w a h:Nat}(ha:a<2^w)(i:Nat):(a+2^w*h).testBit i=if i<w then a.testBit i else h.testBit (i-w):=by
 rw[Nat.add_comm,Nat.testBit_two_pow_mul_add h ha]
theorem Ev.peel{w a h e:Nat}(w0:0<w)(ha:a<2^w)(H:Ev w (a+2^w*h) e):e=a+2^(2*w)*(e/2^(2*w))/\Ev w (h/2^w) (e/2^(2*w)):=by
 have e1:e%2^(2*w)=a:=by
  refine ka fun i=>?_;rw[jd2,H i,We ha];by_cases c:i<w
  ·rw[xy c,jf9 ⋯];simp[c,show i<2*w by lia]
  ·rw[xp c];have:a.testBit i=false:=jj4 (xk ha (kc nofun ⋯));rw[this];by_cases c2:i<2*w
   ·rw[jf9 c2];simp[c]
   ·simp[c2]
 refine⟨?_,fun i=>?_⟩
 ·have:=jp4 e (2^(2*w));rw[e1] at this;exact this.symm
 ·rw[<-ua,<-ua,jb3,jb3,H,We ha,xp ⋯,show 2*w+i-w=w+i by lia,Nat.add_mod_left]
theorem xx{w:Nat}(w0:0<w):∀l:List Nat,(∀a∈l,a<=w)->∀e1 e2,Ev w (Kv w l) e1->Ev w (Kv w l/2^w) e2->Dg (2*w) (e1+e2) (fsum l)/\e1+e2<=Kv w l
 | [],_,e1,e2,h1,h2=>by
  have z:∀e,Ev w 0 e->e=0:=fun e he=>ka fun i=>by rw[he i,jd5];rfl
  have h2:Ev w (0/2^w) e2:=h2;rw[Nat.zero_div] at h2;rw[z e1 h1,z e2 h2];exact⟨.nil,qq _⟩
 | [a],ha,e1,e2,h1,h2=>by
  have ha:=ha a qc;have h1:Ev w (a+2^w*0) e1:=h1;have h2:Ev w ((a+2^w*0)/2^w) e2:=h2;show Dg (2*w) (e1+e2) (a+0)/\e1+e2<=a+2^w*0;have al:a<2^w:=vb ha jp3;have z:∀e,Ev w 0 e->e=0:=fun e he=>ka fun i=>by rw[he i,jd5];rfl
  obtain⟨p1,p2⟩:=h1.peel w0 al;rw[Nat.zero_div] at p2;have p3:=z _ p2;rw[jq4,Nat.add_zero,jo4 al] at h2;have p4:=z _ h2;rw[p3,jq4,Nat.add_zero] at p1;rw[p1,p4,jq4];refine⟨?_,⋯⟩;have:=Dg.cons (w:=2*w) (a:=a) ⋯ (.nil)
  rwa [jq4] at this
 | a::b::l,hl,e1,e2,h1,h2=>by
  have ha:=hl a qc;have hb:=hl b (qk _ qc);have hg:∀x∈l,x<=w:=fun x hx=>hl x (qk _ (qk _ hx));have h1:Ev w (a+2^w*(b+2^w*Kv w l)) e1:=h1;have h2:Ev w ((a+2^w*(b+2^w*Kv w l))/2^w) e2:=h2;have ih:=xx w0 l hg;show Dg (2*w) (e1+e2) (a+(b+fsum l))/\e1+e2<=a+2^w*(b+2^w*Kv w l);generalize Kv w l=g at*
  generalize fsum l=s at*
  have al:a<2^w:=vb ha jp3;have bl:b<2^w:=vb hb jp3;have p:=Zp w;have d1:(a+2^w*(b+2^w*g))/2^w=b+2^w*g:=by rw[Nat.add_mul_div_left _ _ p,jo4 al,jq5]
  have d2:(b+2^w*g)/2^w=g:=by rw[Nat.add_mul_div_left _ _ p,jo4 bl,jq5]
  rw[d1] at h2;obtain⟨p1,p2⟩:=h1.peel w0 al;obtain⟨p3,p4⟩:=h2.peel w0 bl;rw[d2] at p2;obtain⟨i1,i2⟩:=ih _ _ p2 p4;have:=Dg.cons (w:=2*w) (a:=a+b) ⋯ i1;refine⟨?_,?_⟩
  ·rw[p1,p3];rw[Nat.mul_add] at this;have e:a+2^(2*w)*(e1/2^(2*w))+(b+2^(2*w)*(e2/2^(2*w)))=a+b+(2^(2*w)*(e1/2^(2*w))+2^(2*w)*(e2/2^(2*w))):=⋯
   rw[e,<-Nat.add_assoc a b s];exact this
  ·have m:=ji1 (2^(2*w)) i2;rw[Nat.mul_add] at m;have q1:b<=2^w*b:=Nat.le_mul_of_pos_left b p;have q2:2^w*(2^w*g)=2^(2*w)*g:=by rw[<-Nat.mul_assoc,<-jp5,Nat.two_mul]
   rw[Nat.mul_add,q2];lia
theorem Dg.pair{w f s:Nat}(w0:0<w)(h:Dg w f s){e1 e2:Nat}(h1:Ev w f e1)(h2:Ev w (f/2^w) e2):Dg (2*w) (e1+e2) s/\e1+e2<=f:=by
 obtain⟨l,hl,rfl,rfl⟩:=h;exact xx w0 l hl e1 e2 h1 h2
theorem Dg.start:∀(n b:Nat),b<2^n->Dg 1 b (cnt b n)
 | 0,b,h=>by
  have:b=0:=by simp at h;exact h
  subst this;exact .nil
 | n+1,b,h=>by
  have:=Dg.cons (w:=1) (a:=b%2) ⋯ (Dg.start n (b/2) (by rw[Nat.pow_succ] at h;lia));rw[Z5]
  rwa [Nat.pow_one,jp4] at this
theorem dN(b:Nat):∀k,cnt b k<=k
 | 0=>qq _
 | k+1=>by
  have:=dN b k;rw[cnt];split<;>lia
noncomputable def pc(b j:Nat):Nat:=b/2^(256*j)%2^256
theorem Sq(b j i:Nat):(pc b j).testBit i=(decide (i<256)&&b.testBit (256*j+i)):=by
 unfold pc;rw[jd2,<-ua,jb3]
theorem ACm(b j:Nat):pc b j<2^256:=jn1 _ (Zp _)
theorem pH(b p:Nat):pc (b ||| 2^p) (p/256)=pc b (p/256) ||| 2^(p%256):=by
 refine ka fun i=>?_;rw[Sq,jc8,jc8,Sq,jl5,jl5];by_cases c:i<256
 ·have:(p=256*(p/256)+i)=(p%256=i):=propext ⟨fun h=>⋯,fun h=>⋯⟩;simp[c,this]
 ·have:¬p%256=i:=⋯
  simp[c,this]
theorem pG{p j:Nat}(h:j≠p/256):pc (b ||| 2^p) j=pc b j:=by
 refine ka fun i=>?_;rw[Sq,jc8,Sq,jl5];by_cases c:i<256
 ·have:¬p=256*j+i:=⋯
  simp[c,this]
 ·simp[c]
theorem uw(b m:Nat):b%2^(256*m) ||| (pc b m <<< (256*m))=b%2^(256*(m+1)):=by
 refine ka fun i=>?_;rw[jc8,jn9,jd2,jd2,Sq];by_cases c:i<256*m
 ·simp[c,show ¬256*m<=i by lia,show i<256*(m+1) by lia]
 ·by_cases c2:i<256*(m+1)
  ·simp[c,c2,show 256*m<=i by lia,show i-256*m<256 by lia,show 256*m+(i-256*m)=i by lia]
  ·simp[c,c2,show ¬i-256*m<256 by lia]
structure Rw(on:Int->Bool)(rw:List Int):Prop where
 srt:rw.Pairwise (· < ·)
 all:∀r∈rw,on r=true
 cov:∀r,on r=true->(∃x∈rw,x<=r)->(∃y∈rw,r<=y)->r∈rw
theorem R8{l:List Int}(h:l.Pairwise (· < ·)){i j:Nat}{x y:Int}(hij:i<j)(hx:l[i]?=some x)(hy:l[j]?=some y):x<y:=by
 obtain⟨hi,rfl⟩:=qv.mp hx;obtain⟨hj,rfl⟩:=qv.mp hy;exact List.pairwise_iff_getElem.mp h i j hi hj hij
theorem Rw.gap{on:Int->Bool}{rw:List Int}(h:Rw on rw){p:Nat}{x y r:Int}(hx:rw[p]?=some x)(hy:rw[p+1]?=some y)(h1:x<r)(h2:r<y):on r=false:=by
 cases e:on r with
 | false=>rfl
 | true=>
  have m:=h.cov r e ⟨x,zk hx,⋯⟩ ⟨y,zk hy,⋯⟩;obtain⟨j,hj⟩:=jd8.mp m;rcases Nat.lt_trichotomy j p with z | z | z
  ·have:=R8 h.srt z hj hx;lia
  ·subst z;rw[hj] at hx;injection hx with hx;lia
  ·rcases Nat.lt_trichotomy j (p+1) with w | w | w
   ·lia
   ·subst w;rw[hj] at hy;injection hy with hy;lia
   ·have:=R8 h.srt w hy hj;lia
theorem dh{n m:Int}(hd:n∣m)(d k:Int):On n b (d+m*k)=On n b d:=by
 unfold On;obtain⟨c,rfl⟩:=hd;rw[jg1,jk9]
variable{z:Int}
theorem Rw.mk'{on:Int->Bool}{ds:List Int}(z0:0<z)(per:∀d k,on (d+z*k)=on d)(srt:ds.Pairwise (· < ·))(mem:∀d,d∈ds<->0<=d/\d<z/\on d=true){f g:Int}
 (hf:ds[0]?=some f)(hg:ds[ds.length-1]?=some g):Rw on ([g-z]++ds++[f+z])/\g-z<0/\z<=f+z:=by
 have fm:=(mem f).mp (zk hf);have gm:=(mem g).mp (zk hg);have lo:∀d∈ds,f<=d:=fun d hd=>by
  obtain⟨j,hj⟩:=jd8.mp hd;rcases Nat.eq_zero_or_pos j with e | e
  ·subst e;rw[hj] at hf;injection hf with hf;lia
  ·have:=R8 srt e hf hj;lia
 have hi:∀d∈ds,d<=g:=fun d hd=>by
  obtain⟨j,hj⟩:=jd8.mp hd;have jl:j<ds.length:=(qv.mp hj).1;rcases Nat.lt_or_eq_of_le (Nat.le_sub_one_of_lt jl) with e | e
  ·have:=R8 srt e hj hg;lia
  ·subst e;rw[hj] at hg;injection hg with hg;lia
 have p1:on (g-z)=true:=by
  have:=per (g-z) 1;rw[show g-z+z*1=g by lia] at this;rw[<-this];exact gm.2.2
 have p2:on (f+z)=true:=by
  have:=per f 1;rw[jc9] at this;rw[this];exact fm.2.2
 refine⟨⟨?_,?_,?_⟩,⋯,⋯⟩
 ·rw[List.pairwise_append,List.pairwise_append];refine⟨⟨List.pairwise_singleton _ _,srt,fun a ha b hb=>?_⟩,List.pairwise_singleton _ _,fun a ha b hb=>?_⟩
  ·cases xc.mp ha;have:=((mem b).mp hb).1;lia
  ·cases xc.mp hb;rcases yi.mp ha with h | h
   ·cases xc.mp h;lia
   ·have:=((mem a).mp h).2.1;lia
 ·intro r hr;rcases yi.mp hr with h | h
  ·rcases yi.mp h with h | h
   ·cases xc.mp h;exact p1
   ·exact((mem r).mp h).2.2
  ·cases xc.mp h;exact p2
 ·rintro r hr ⟨x,hx,xr⟩ ⟨y,hy,ry⟩;have x0:g-z<=x:=by
   rcases yi.mp hx with h | h
   ·rcases yi.mp h with h | h
    ·cases xc.mp h;lia
    ·have:=((mem x).mp h).1;lia
   ·cases xc.mp h;lia
  have y0:y<=f+z:=by
   rcases yi.mp hy with h | h
   ·rcases yi.mp h with h | h
    ·cases xc.mp h;lia
    ·have:=((mem y).mp h).2.1;lia
   ·cases xc.mp h;lia
  rcases jj8 r 0 with c | c
  ·have e:=per r 1;rw[jc9,hr] at e;have m:=(mem (r+z)).mpr ⟨⋯,⋯,e⟩;have:=hi _ m;exact jb1 _ (jb1 _ (xc.mpr ⋯))
  ·rcases jj8 r z with c2 | c2
   ·exact jb1 _ (yv _ ((mem r).mpr ⟨c,c2,hr⟩))
   ·have e:=per (r-z) 1;rw[show r-z+z*1=r by lia,hr] at e;have m:=(mem (r-z)).mpr ⟨⋯,⋯,e.symm⟩;have:=lo _ m;exact yv _ (xc.mpr ⋯)
theorem vU{xs:List Int}:hit z xs d=true<->∃x∈xs,∃k,d=x+z*k:=by
 unfold hit;rw[List.any_eq_true];constructor
 ·rintro⟨x,hx,h⟩;obtain⟨k,hk⟩:=ja7 (jk8 h);exact⟨x,hx,k,⋯⟩
 ·rintro⟨x,hx,k,hk⟩;refine⟨x,hx,decide_eq_true ?_⟩;rw[show d-x=z*k by lia];exact Int.mul_emod_right z k
theorem Vy{on:Int->Bool}{s:Int}(hs:on s=true):∀(n:Nat) (d:Int),d-s=(n:Int)->∃x,x<=d/\on x=true/\∀r,x<r->r<=d->on r=false
 | 0,d,h=>⟨s,⋯,hs,fun r h1 h2=>⋯⟩
 | n+1,d,h=>by
  cases e:on d with
  | true=>exact⟨d,jh8 _,e,fun r h1 h2=>⋯⟩
  | false=>
   obtain⟨x,h1,h2,h3⟩:=Vy hs n (d-1) ⋯;refine⟨x,⋯,h2,fun r a b=>?_⟩;rcases jj8 r d with c | c
   ·exact h3 r a ⋯
   ·rw[show r=d by lia];exact e
theorem gM{on:Int->Bool}{s:Int}(z0:0<z)(per:∀d k,on (d+z*k)=on d)(hs:on s=true)(d:Int):∃x,x<=d/\on x=true/\∀r,x<r->r<=d->on r=false:=by
 have e:=ky (d-s) z;have m0:=qg (d-s) (show z≠0 by lia);have h:on (s+z*((d-s)/z))=true:=by rw[per];exact hs
 exact Vy h ((d-s)%z).toNat d ⋯
def Kth(n1:Int)(b1:Nat)(n2:Int)(b2:Nat)(k d:Int):Prop:=On n1 b1 d=true/\∃b e,On n2 b2 b=true/\On n2 b2 e=true/\b<=d/\d<e/\(∀r,b<r->r<e->On n2 b2 r=false)/\(0<k->CC n1 b1 (d+1)-CC n1 b1 b=k)/\(k<0->CC n1 b1 e-CC n1 b1 d= -k)
def GUp(o1 o2:Int->Bool)(d:Int):Prop:=o1 d=true/\∃s,o2 s=true/\s<=d/\∀r,s<=r->r<d->o1 r=false
def GUn(o1 o2:Int->Bool)(d:Int):Prop:=o1 d=true/\∃s,o2 s=true/\d<=s/\∀r,d<r->r<=s->o1 r=false
def GNr(o1 o2:Int->Bool)(d:Int):Prop:=o1 d=true/\∃s,o2 s=true/\∀r,o1 r=true->(d<r->(d-s).natAbs<=(r-s).natAbs)/\(r<d->(d-s).natAbs<(r-s).natAbs)
def GTi(o1 o2:Int->Bool)(d:Int):Prop:=∃r,o1 r=true/\r<=d/\∀s,o2 s=true->r<s->d<s
section
variable{o1 o2 p1 p2:Int->Bool}{t:Int}
end
section
variable{o1 o2:Int->Bool}{d r1 r2 p q:Int}
def lK(o:Int->Bool)(d r:Int):Prop:=d<=r/\o r=true/\∀e,d<=e->e<r->o e=false
end
theorem OJ{n:Int}{r:Int}(hn:0<n)(h:lK (On n b) d r):r<d+n:=by
 refine Int.not_le.mp fun z=>?_;have:=h.2.2 (r-n) ⋯ ⋯;have e:=dh (b:=b) (vv n) (r-n) 1;rw[jc9,show r-n+n=r by lia,h.2.1] at e;rw[<-e] at this;cases this
noncomputable abbrev Tm:=Int×Int×Int×Int
structure OkT(t:Tm):Prop where
 sg:t.1=1\/t.1= -1
 n0:1<=t.2.2.2
 n1:t.2.2.2<=1000
 a0:0<=t.2.1
 a1:t.2.1<=t.2.2.2
 b0:0<=t.2.2.1
 b1:t.2.2.1<t.2.2.2
noncomputable def onT(t:Tm)(k:Int):Bool:=decide (t.2.2.2<=(t.2.1*k+t.2.2.1)%t.2.2.2+t.2.1)
noncomputable def ctT(t:Tm)(k:Int):Int:=(t.2.1*k+t.2.2.1)/t.2.2.2
noncomputable def SU(ts:List Tm)(k:Int):Int:=(ts.map fun t=>t.1*ctT t k).sum
noncomputable def UP(base:Int)(ts:List Tm)(k:Int):Int:=base*k+SU ts k
noncomputable def ONS(ts:List Tm)(k:Int):Int:=((ts.filter fun t=>onT t k).map fun t=>t.1).sum
noncomputable def AT(base:Int)(ts:List Tm)(k:Int):Int:=base+ONS ts k
noncomputable def falls(ts:List Tm):Int:=((ts.filter fun t=>decide (t.1= -1)).length:Int)
theorem vz{t:Tm}(h:OkT t)(k:Int):ctT t (k+1)=ctT t k+(if onT t k=true then 1 else 0):=by
 unfold ctT onT;obtain⟨s,a,b,n⟩:=t;have n0:=h.n0;have a0:=h.a0;have a1:=h.a1;dsimp only at n0 a0 a1 ⊢;have e:a*(k+1)+b=a*k+b+a:=by rw[ja3,jc9];lia
 rw[e];generalize a*k+b=y;have q:=ky y n;have r0:=qg y (show n≠0 by lia);have r1:=jv y (show 0<n by lia);by_cases c:n<=y%n+a
 ·rw[decide_eq_true c,xy rfl];have h:y+a=n*(y/n+1)+(y%n+a-n):=by rw[ja3,jc9];lia
  conv=>lhs;rw[h]
  rw[jn7 _ _ ⋯,jf5 (a:=y%n+a-n) (b:=n) ⋯ ⋯];lia
 ·rw[decide_eq_false c,xp zi];have h:y+a=n*(y/n)+(y%n+a):=⋯
  conv=>lhs;rw[h]
  rw[jn7 _ _ ⋯,jf5 (a:=y%n+a) (b:=n) ⋯ ⋯]
theorem vy{t:Tm}(h:OkT t):ctT t 0=0:=by
 unfold ctT;rw[Int.mul_zero,jq1];exact jf5 h.b0 h.b1
theorem iI:∀{ts:List Tm} (_:∀t∈ts,OkT t) (k:Int),SU ts (k+1)=SU ts k+ONS ts k
 | [],_,k=>rfl
 | t::ts,h,k=>by
  have ih:=iI (ts:=ts) (fun x hx=>h x (qk _ hx)) k;have s:=vz (h t qc) k;unfold SU ONS at*
  rw[zw,zw,kz,kz,ih,s,ji7];by_cases c:onT t k=true
  ·rw[xy c,xy c,zw,kz,ja3,jc9];lia
  ·rw[xp c,xp c,jd6];lia
theorem iH:∀{ts:List Tm} (_:∀t∈ts,OkT t),SU ts 0=0
 | [],_=>rfl
 | t::ts,h=>by
  have ih:=iH (ts:=ts) (fun x hx=>h x (qk _ hx));unfold SU at*
  rw[zw,kz,ih,vy (h t qc)];simp
theorem Q8:∀{ts:List Tm} (_:∀t∈ts,OkT t) (k:Int),-falls ts<=ONS ts k
 | [],_,k=>by show(-((0:Nat):Int))<=0;lia
 | t::ts,h,k=>by
  have ih:=Q8 (ts:=ts) (fun x hx=>h x (qk _ hx)) k;have sg:=(h t qc).sg;unfold falls ONS at*
  rw[ji7,ji7];by_cases c:onT t k=true
  ·rw[xy c,zw,kz];rcases sg with z | z
   ·rw[xp (by rw[decide_eq_true_eq];lia)];lia
   ·rw[xy (decide_eq_true z),qr];lia
  ·rw[xp c];split
   ·rw[qr];lia
   ·lia
variable{base:Int}{ts:List Tm}
theorem wQ(h:∀t∈ts,OkT t)(k:Int):UP base ts (k+1)=UP base ts k+AT base ts k:=by
 unfold UP AT;rw[iI h,ja3,jc9];lia
theorem wO(h:∀t∈ts,OkT t):UP base ts 0=0:=by
 unfold UP;rw[iH h,Int.mul_zero];rfl
theorem iD(h:∀t∈ts,OkT t)(hf:falls ts<=base){j k:Int}(jk:j<=k):UP base ts j<=UP base ts k:=by
 have:∀m:Nat,UP base ts j<=UP base ts (j+(m:Int)):=by
  intro m
  induction m with
  | zero=>simp
  | succ m ih=>
   have e:=wQ (base:=base) h (j+(m:Int));have l:=Q8 h (j+(m:Int));unfold AT at e;rw[show j+((m+1:Nat):Int)=j+(m:Int)+1 by lia,e];lia
 have:=this (k-j).toNat
 rwa [show j+((k-j).toNat:Int)=k by lia] at this
theorem ADM{t:Tm}(h:OkT t){k:Int}(k0:0<=k):0<=ctT t k/\ctT t k<=k:=by
 have n0:=h.n0;have a0:=h.a0;have b0:=h.b0;have b1:=h.b1;have p0:0<=t.2.1*k:=jj1 a0 k0;have p1:t.2.1*k<=t.2.2.2*k:=jd7 h.a1 k0;unfold ctT;refine⟨jh0 ⋯ ⋯,?_⟩;have:(t.2.1*k+t.2.2.1)/t.2.2.2<k+1:=by
  rw[Int.ediv_lt_iff_lt_mul ⋯,jj6,jg7,ja4 k];lia
 lia
theorem yJ:∀{ts:List Tm} (_:∀t∈ts,OkT t) {k:Int} (_:0<=k),-((ts.length:Int)*k)<=SU ts k/\SU ts k<=(ts.length:Int)*k
 | [],_,k,_=>by unfold SU;simp
 | t::ts,h,k,k0=>by
  have ih:=yJ (ts:=ts) (fun x hx=>h x (qk _ hx)) k0;have c:=ADM (h t qc) k0;have sg:=(h t qc).sg;unfold SU at*
  rw[zw,kz,qr,ko,jj6];have e1:((1:Nat):Int)*k=k:=by simp
  rcases sg with z | z
  ·rw[z,jg7];lia
  ·rw[z,show(-1:Int)*ctT t k= -ctT t k by lia];lia
noncomputable def PER(ts:List Tm):Int:=ts.foldl (fun p t=>Bj p t.2.2.2) 1
theorem Yb(h:∀t∈ts,OkT t)(hf:falls ts<base){P:Int}(P0:0<P):0<UP base ts P:=by
 have m:=iD h (jh8 (falls ts)) (show (0:Int)<=P by lia);rw[wO h] at m;unfold UP at*
 have:(falls ts+1)*P<=base*P:=jd7 ⋯ ⋯;rw[jj6,jg7] at this;lia
theorem ABH{t:Tm}(h:OkT t){k:Int}(k0:k<=0):k<=ctT t k/\ctT t k<=0:=by
 have n0:=h.n0;have a0:=h.a0;have b0:=h.b0;have b1:=h.b1;have p0:t.2.1*k<=0:=Int.mul_nonpos_of_nonneg_of_nonpos a0 k0;have p1:t.2.2.2*k<=t.2.1*k:=jh7 h.a1 k0;unfold ctT;constructor
 ·rw[Int.le_ediv_iff_mul_le ⋯,ja4];lia
 ·have:(t.2.1*k+t.2.2.1)/t.2.2.2<1:=by
   rw[Int.ediv_lt_iff_lt_mul ⋯,jg7];lia
  lia
theorem rm:∀{ts:List Tm} (_:∀t∈ts,OkT t) {k:Int} (_:k<=0),(ts.length:Int)*k<=SU ts k/\SU ts k<= -((ts.length:Int)*k)
 | [],_,k,_=>by unfold SU;simp
 | t::ts,h,k,k0=>by
  have ih:=rm (ts:=ts) (fun x hx=>h x (qk _ hx)) k0;have c:=ABH (h t qc) k0;have sg:=(h t qc).sg;unfold SU at*
  rw[zw,kz,qr,ko,jj6];have e1:((1:Nat):Int)*k=k:=by simp
  rcases sg with z | z
  ·rw[z,jg7];omega
  ·rw[z,show(-1:Int)*ctT t k= -ctT t k by omega];omega
theorem rY{b:Int}(h:∀t∈ts,OkT t)(b0:0<=b)(b1:b<=20000)(few:ts.length<=6){k K:Int}(h0: -K<=k)(h1:k<=K): -(20006*K)<=UP b ts k/\UP b ts k<=20006*K:=by
 unfold UP;rcases jj8 k 0 with c | c
 ·obtain⟨s1,s2⟩:=rm h (show k<=0 by lia);have m1:20000*k<=b*k:=jh7 b1 ⋯;have m2:b*k<=0:=Int.mul_nonpos_of_nonneg_of_nonpos b0 ⋯;have m3:6*k<=(ts.length:Int)*k:=jh7 ⋯ ⋯;lia
 ·obtain⟨s1,s2⟩:=yJ h c;have m1:b*k<=20000*k:=jd7 b1 c;have m2:0<=b*k:=jj1 b0 c;have m3:(ts.length:Int)*k<=6*k:=jd7 ⋯ c;lia
theorem iT(h:∀t∈ts,OkT t)(k:Int):ONS ts k<=(ts.length:Int):=by
 unfold ONS
 induction ts with
 | nil=>exact jh8 0
 | cons t ts ih=>
  have i:=ih fun x hx=>h x (qk _ hx);have sg:=(h t qc).sg;rw[ji7,qr];split
  ·rw[zw,kz];lia
  ·lia
theorem mX:∀{ls:List Int},(∀n∈ls,0<=n/\n<=1000)->0<=ls.sum/\ls.sum<=1000*(ls.length:Int)
 | [],_=>by simp
 | a::ls,h=>by
  have i:=mX (ls:=ls) fun n hn=>h n (qk _ hn);have:=h a qc;rw[kz,qr];lia
noncomputable def Vf(ls:List Int)(lp:Int)(ts:List Tm)(y:Int):List Int:=ls.set (lp-1).toNat (ls.getD (lp-1).toNat 0+ONS ts y)
structure Hl(ls:List Int)(lp:Int)(ts:List Tm):Prop where
 l0:1<=ls.length
 l1:ls.length<=20
 m:∀n∈ls,0<=n/\n<=1000
 p0:1<=lp
 p1:lp<=(ls.length:Int)
 f0:falls ts<=ls.getD (lp-1).toNat 0
 f1:falls ts<ls.sum
 ok:∀t∈ts,OkT t
 few:ts.length<=6
theorem Hl.sum{ls:List Int}{lp:Int}(g:Hl ls lp ts):0<=ls.sum/\ls.sum<=20000:=by
 have:=mX g.m;have:=g.l1;lia
theorem getD_mem'{ls:List Int}{i:Nat}(h:i<ls.length):ls.getD i 0∈ls:=by
 rw[ja0,qm h];exact jo3 h
theorem sI{ls:List Int}{lp:Int}(g:Hl ls lp ts)(y:Int):∀n∈Vf ls lp ts y,0<=n/\n<=1006:=by
 intro n hn;have p0:=g.p0;have p1:=g.p1;unfold Vf at hn;rcases List.mem_or_eq_of_mem_set hn with z | z
 ·have:=g.m n z;omega
 ·have:=g.m _ (getD_mem' (ls:=ls) (i:=(lp-1).toNat) (by omega));have l:=Q8 g.ok y;have u:=iT g.ok y;have:=g.few;have:=g.f0;omega
theorem sJ{ls:List Int}{lp:Int}{y:Int}:(Vf ls lp ts y).length=ls.length:=by
 unfold Vf;rw[List.length_set]
structure Iv(bd:Int)(td:List Tm)(bm:Int)(tm:List Tm):Prop where
 fd:falls td<bd
 gd:bd<=1000
 fm:falls tm<bm
 gm:bm<=20
 okd:∀t∈td,OkT t
 okm:∀t∈tm,OkT t
 fwd:td.length<=6
 fwm:tm.length<=6
noncomputable def MYS(s bd:Int)(td:List Tm)(bm:Int)(tm:List Tm)(y:Int):Int:=s+UP bd td (UP bm tm y)
noncomputable def dq(bd:Int)(td:List Tm)(bm:Int)(tm:List Tm)(y:Int):List Int:=(List.range (AT bm tm y).toNat).map fun i:Nat=>AT bd td (UP bm tm y+(i:Int))
theorem qZ:0<=falls ts:=by
 unfold falls;lia
theorem d8{b:Int}(h:∀t∈ts,OkT t)(hf:falls ts<b)(k:Int):1<=AT b ts k:=by
 have:=Q8 h k;unfold AT;lia
theorem sY{b:Int}(h:∀t∈ts,OkT t)(few:ts.length<=6)(k:Int):AT b ts k<=b+6:=by
 have:=iT h k;unfold AT;lia
theorem sE{bd:Int}{td:List Tm}{bm:Int}{tm:List Tm}(g:Iv bd td bm tm)(y:Int):∀n∈dq bd td bm tm y,0<=n/\n<=1006:=by
 intro n hn;unfold dq at hn;obtain⟨i,_,rfl⟩:=ui.mp hn;have:=d8 g.okd g.fd (UP bm tm y+(i:Int));have:=sY g.okd g.fwd (b:=bd) (UP bm tm y+(i:Int));have:=g.gd;lia
theorem sG{bd:Int}{td:List Tm}{bm:Int}{tm:List Tm}(g:Iv bd td bm tm)(y:Int):1<=(dq bd td bm tm y).length/\(dq bd td bm tm y).length<=26:=by
 unfold dq;rw[jp,vc];have:=d8 g.okm g.fm y;have:=sY g.okm g.fwm (b:=bm) y;have:=g.gm;lia
inductive Bq where
 | sun (s:Int) (ls:List Int) (lp:Int) (ts:List Tm)
 | moon (s bd:Int) (td:List Tm) (bm:Int) (tm:List Tm)
noncomputable def Bq.Y:Bq->Int->Int
 | .sun s ls _ ts,y=>s+UP ls.sum ts y
 | .moon s bd td bm tm,y=>MYS s bd td bm tm y
noncomputable def Bq.L:Bq->Int->List Int
 | .sun _ ls lp ts,y=>Vf ls lp ts y
 | .moon _ bd td bm tm,y=>dq bd td bm tm y
def Bq.good:Bq->Prop
 | .sun _ ls lp ts=>Hl ls lp ts
 | .moon _ bd td bm tm=>Iv bd td bm tm
noncomputable def Bq.st:Bq->Int
 | .sun s _ _ _=>s
 | .moon s _ _ _ _=>s
noncomputable def PS(l:List Int)(j:Nat):Int:=(l.take j).sum
theorem wU{l:List Int}:PS l 0=0:=rfl
theorem iJ{l:List Int}{j:Nat}(h:j<l.length):PS l (j+1)=PS l j+l.getD j 0:=by
 unfold PS;rw[kx,ja0,qm h,List.sum_append];simp
theorem iK{l:List Int}(h:∀n∈l,0<=n){i:Nat}:∀{j:Nat},i<=j->j<=l.length->PS l i<=PS l j
 | 0,hij,_=>by
  have:i=0:=⋯;subst this;exact jh8 _
 | j+1,hij,hj=>by
  rcases Nat.lt_or_eq_of_le hij with c | c
  ·have:=iK (i:=i) h (show i<=j by lia) ⋯;have e:=iJ (l:=l) (j:=j) ⋯;have:=h _ (getD_mem' (ls:=l) (i:=j) ⋯);lia
  ·subst c;exact jh8 _
theorem ABY{l:List Int}:PS l l.length=l.sum:=by
 unfold PS;rw[ja6]
theorem Bq.mem{d:Bq}(g:d.good)(y:Int):∀n∈d.L y,0<=n/\n<=1006:=by
 cases d with
 | sun s ls lp ts=>exact sI g y
 | moon s bd td bm tm=>exact sE g y
theorem Bq.len{d:Bq}(g:d.good)(y:Int):1<=(d.L y).length/\(d.L y).length<=26:=by
 cases d with
 | sun s ls lp ts=>
  show 1<=(Vf ls lp ts y).length/\(Vf ls lp ts y).length<=26;rw[sJ];have:=Hl.l0 g;have:=Hl.l1 g;lia
 | moon s bd td bm tm=>exact sG g y
noncomputable def moT(td:List Tm)(bm:Int)(tm:List Tm):Int:=PER td/(Int.gcd (PER td) (UP bm tm (PER tm)):Int)
noncomputable def Bq.cy:Bq->Int×Int
 | .sun _ ls _ ts=>(PER ts,UP ls.sum ts (PER ts))
 | .moon _ bd td bm tm=>(PER tm*moT td bm tm,UP bd td (UP bm tm (PER tm)*moT td bm tm))
theorem bez:∀a b:Nat,∃u v:Int,u*(a:Int)+v*(b:Int)=((Nat.gcd a b:Nat):Int):=by
 intro a b
 induction a,b using Nat.gcd.induction with
 | H0 n=>exact⟨0,1,by rw[Nat.gcd_zero_left];lia⟩
 | H1 m n hm ih=>
  obtain⟨u,v,e⟩:=ih;refine⟨v-u*((n/m:Nat):Int),u,?_⟩;rw[Nat.gcd_rec,<-e];have h:(n:Int)=(m:Int)*((n/m:Nat):Int)+((n%m:Nat):Int):=by
   rw[<-jh3,<-ko,Nat.div_add_mod]
  generalize ((n/m:Nat):Int)=k at*
  generalize ((n%m:Nat):Int)=r at*
  rw[h,Int.sub_mul,ja3,<-jg1,Int.mul_right_comm u k (m:Int),];lia
def Meets(n b m c:Nat):Prop:=∃i j,i<n/\j<m/\b.testBit i=true/\c.testBit j=true/\i%Nat.gcd n m=j%Nat.gcd n m
theorem Meets.day{n m:Nat}(n0:0<n)(m0:0<m)(h:Meets n b m c):∃x:Int,On (n:Int) b x=true/\On (m:Int) c x=true:=by
 obtain⟨i,j,hi,hj,hb,hc,e⟩:=h;obtain⟨u,v,E⟩:=bez n m;have g0:0<Nat.gcd n m:=ji0 m n0;obtain⟨k,hk⟩:((Nat.gcd n m:Nat):Int)∣(j:Int)-(i:Int):=by
  apply ja7;rw[Int.sub_emod,<-jb8,<-jb8,e,Int.sub_self,Int.zero_emod]
 have x1:(i:Int)+(n:Int)*(u*k)=(j:Int)+(m:Int)*(-(v*k)):=by
  have:(j:Int)=(i:Int)+(u*(n:Int)+v*(m:Int))*k:=by rw[E];lia
  rw[this,jj6,jf1,ja4 u (n:Int),ja4 v (m:Int),jg1,jg1];lia
 refine⟨(i:Int)+(n:Int)*(u*k),?_,?_⟩
 ·unfold On;rw[jk9,Zl ⋯ ⋯,xa];exact hb
 ·rw[x1];unfold On;rw[jk9,Zl ⋯ ⋯,xa];exact hc
structure Fst(n b m c:Nat)(d e:Int):Prop where
 ge:d<=e
 lt:e<d+Bj (n:Int) (m:Int)
 on1:On (n:Int) b e=true
 on2:On (m:Int) c e=true
 no:∀x,d<=x->x<e->¬(On (n:Int) b x=true/\On (m:Int) c x=true)
theorem Mg{n:Nat}{x y:Int}(h:(n:Int)∣x-y):On (n:Int) b x=On (n:Int) b y:=by
 unfold On;rw[(jb0 x (vv _)).symm,jb0 x (vv _),vx.mpr (vj h)]
theorem Wc{n m:Nat}(n0:0<n)(m0:0<m){d x:Int}(h1:On (n:Int) b x=true)(h2:On (m:Int) c x=true):
 ∃y,d<=y/\y<d+Bj (n:Int) (m:Int)/\On (n:Int) b y=true/\On (m:Int) c y=true:=by
 have f:=BV (a:=(n:Int)) (b:=(m:Int)) ⋯ ⋯;have k1:=qg (x-d) (show Bj (n:Int) (m:Int)≠0 by lia);have k2:=jv (x-d) f.1;have dv:Bj (n:Int) (m:Int)∣d+(x-d)%Bj (n:Int) (m:Int)-x:=by
  have:=ky (x-d) (Bj (n:Int) (m:Int));exact⟨-((x-d)/Bj (n:Int) (m:Int)),by rw[jf1];lia⟩
 refine⟨d+(x-d)%Bj (n:Int) (m:Int),⋯,⋯,?_,?_⟩
 ·rw[Mg (ja2 f.2.1 dv)];exact h1
 ·rw[Mg (ja2 f.2.2.1 dv)];exact h2
def Gt(T B:Int->Bool)(e:Int)(k:Nat)(d:Int):Prop:=∃j:Nat,j<k/\T (d-e*(j:Int))=true/\∀i:Nat,i<j->B (d-e*(i:Int))=false
def Fre(B:Int->Bool)(e:Int)(k:Nat)(d:Int):Prop:=∀i:Nat,i<k->B (d-e*(i:Int))=false
def Gat(T B:Int->Bool)(e d:Int):Prop:=∃j:Nat,T (d-e*(j:Int))=true/\∀i:Nat,i<j->B (d-e*(i:Int))=false
theorem JK(d e:Int)(k i:Nat):d-e*(k:Int)-e*(i:Int)=d-e*((k+i:Nat):Int):=by
 rw[ko,ja3];lia
variable{e:Int}{B:Int->Bool}
theorem Gt.step{T:Int->Bool}{k:Nat}:Gt T B e (2*k) d<->Gt T B e k d\/(Gt T B e k (d-e*(k:Int))/\Fre B e k d):=by
 constructor
 ·rintro⟨j,hj,ht,hb⟩;by_cases c:j<k
  ·exact .inl ⟨j,c,ht,hb⟩
  ·refine .inr ⟨⟨j-k,⋯,?_,fun i hi=>?_⟩,fun i hi=>hb i ⋯⟩
   ·rw[JK,show k+(j-k)=j by lia];exact ht
   ·rw[JK];exact hb _ ⋯
 ·rintro(⟨j,hj,ht,hb⟩ | ⟨⟨j,hj,ht,hb⟩,hf⟩)
  ·exact⟨j,⋯,ht,hb⟩
  ·refine⟨k+j,⋯,?_,fun i hi=>?_⟩
   ·rw[<-JK];exact ht
   ·by_cases c:i<k
    ·exact hf i c
    ·have:=hb (i-k) ⋯;rw[JK,show k+(i-k)=i by lia] at this;exact this
theorem Fre.step{k:Nat}:Fre B e (2*k) d<->Fre B e k d/\Fre B e k (d-e*(k:Int)):=by
 constructor
 ·intro h;refine⟨fun i hi=>h i ⋯,fun i hi=>?_⟩;rw[JK];exact h _ ⋯
 ·rintro⟨h1,h2⟩ i hi;by_cases c:i<k
  ·exact h1 i c
  ·have:=h2 (i-k) ⋯;rw[JK,show k+(i-k)=i by lia] at this;exact this
theorem Gt.one{T:Int->Bool}:Gt T B e 1 d<->T d=true:=by
 constructor
 ·rintro⟨j,hj,ht,_⟩;have:j=0:=⋯
  subst this;simpa using ht
 ·intro h;exact⟨0,⋯,by simpa using h,fun i hi=>⋯⟩
theorem Fre.one:Fre B e 1 d<->B d=false:=by
 constructor
 ·intro h;have:=h 0 ⋯;simpa using this
 ·intro h i hi;have:i=0:=⋯
  subst this;simpa using h
theorem Gat.iff{T:Int->Bool}{n k:Nat}(n0:0<n)(hk:n<=k)(pT:∀x y:Int,(n:Int)∣x-y->T x=T y)(pB:∀x y:Int,(n:Int)∣x-y->B x=B y):Gt T B e k d<->Gat T B e d:=by
 constructor
 ·rintro⟨j,_,ht,hb⟩;exact⟨j,ht,hb⟩
 ·rintro⟨j,ht,hb⟩;by_cases c:j<k
  ·exact⟨j,c,ht,hb⟩
  ·have m:=jn1 j n0;have dv:∀a:Nat,(n:Int)∣d-e*(a:Int)-(d-e*((a%n:Nat):Int)):=fun a=>by
    have h:=jp4 a n;refine⟨-(e*((a/n:Nat):Int)),?_⟩;have h2:(a:Int)=((a%n:Nat):Int)+(n:Int)*((a/n:Nat):Int):=by
     rw[<-jh3,<-ko,h]
    generalize ((a%n:Nat):Int)=r at*
    generalize ((a/n:Nat):Int)=q at*
    rw[h2,ja3,jf1,jn0];lia
   refine⟨j%n,⋯,?_,fun i hi=>hb i ⋯⟩;rw[<-pT _ _ (dv j)];exact ht
theorem lcm_self{n:Int}(h:0<n):Bj n n=n:=by
 unfold Bj;have e:((Int.gcd n n:Nat):Int)=n:=by
  rw[Int.gcd_self];lia
 rw[e,Int.ediv_self ⋯,jg7]
theorem Sv{n:Int}{x y:Int}(h:n∣x-y):On n b x=On n b y:=by
 unfold On;rw[vx.mpr (vj h)]
noncomputable def cG(T B:Int->Bool)(e:Int):Nat->Int->Nat
 | 0,_=>0
 | k+1,d=>(if T d=true then 1 else 0)+(if B d=true then 0 else cG T B e k (d-e))
def Bar(B:Int->Bool)(e:Int)(k:Nat)(d:Int):Prop:=∃j:Nat,j<k/\B (d-e*(j:Int))=true
theorem Bar.down{k:Nat}(h:Bar B e (k+1) d)(hb:¬B d=true):Bar B e k (d-e):=by
 obtain⟨j,hj,ht⟩:=h;cases j with
 | zero=>exact absurd (by simpa using ht) hb
 | succ j=>
  refine⟨j,⋯,?_⟩;rw[show d-e-e*(j:Int)=d-e*((j+1:Nat):Int) by rw[ko,ja3];simp;lia];exact ht
theorem YW{T:Int->Bool}:∀{k N:Nat} {d:Int},Bar B e k d->k<=N->cG T B e N d=cG T B e k d
 | 0,_,_,⟨j,hj,_⟩,_=>absurd hj ⋯
 | k+1,0,_,_,h=>absurd h ⋯
 | k+1,N+1,d,h,hk=>by
  unfold cG;by_cases hb:B d=true
  ·rw[xy hb,xy hb]
  ·rw[xp hb,xp hb,YW (h.down hb) ⋯]
theorem Ka{T:Int->Bool}{n:Nat}(hB:∀d,Bar B e n d)(d:Int):cG T B e n d=(if T d=true then 1 else 0)+(if B d=true then 0 else cG T B e n (d-e)):=by
 rw[<-YW (N:=n+1) (hB d) ⋯];rfl
theorem rJ{T B:Int->Bool}{e:Int}(m:Nat):∀(k:Nat) (d:Int),(Fre B e k d->cG T B e (k+m) d=cG T B e k d+cG T B e m (d-e*(k:Int)))/\(¬Fre B e k d->cG T B e (k+m) d=cG T B e k d)
 | 0,d=>⟨fun _=>by rw[jq5];unfold cG;cases m<;>simp[cG],fun h=>absurd (fun i hi=>absurd hi ⋯) h⟩
 | k+1,d=>by
  have ih:=rJ (T:=T) (B:=B) (e:=e) m k (d-e);have fr:Fre B e (k+1) d<->B d=false/\Fre B e k (d-e):=by
   constructor
   ·intro h;refine⟨by simpa using h 0 ⋯,fun i hi=>?_⟩;have:=h (i+1) ⋯;rw[show d-e*((i+1:Nat):Int)=d-e-e*(i:Int) by rw[ko,ja3];simp;lia] at this;exact this
   ·rintro⟨h1,h2⟩ i hi;cases i with
    | zero=>simpa using h1
    | succ i=>
     have:=h2 i ⋯;rw[show d-e*((i+1:Nat):Int)=d-e-e*(i:Int) by rw[ko,ja3];simp;lia];exact this
  have ek:d-e*((k+1:Nat):Int)=d-e-e*(k:Int):=by rw[ko,ja3];simp;lia
  rw[show k+1+m=(k+m)+1 by lia,ek];constructor
  ·intro h;obtain⟨h1,h2⟩:=fr.mp h;have hn:¬B d=true:=by rw[h1];exact zi
   show _+(if B d=true then 0 else _)=_+(if B d=true then 0 else _)+_;rw[xp hn,xp hn,ih.1 h2,Nat.add_assoc]
  ·intro h;show _+(if B d=true then 0 else _)=_+(if B d=true then 0 else _);by_cases hb:B d=true
   ·rw[xy hb,xy hb]
   ·rw[xp hb,xp hb,ih.2 fun h2=>h (fr.mpr ⟨by simpa using hb,h2⟩)]
theorem ABL{T:Int->Bool}{k:Nat}:cG T B e (2*k) d%2=1<->((cG T B e k d%2=1)≠(cG T B e k (d-e*(k:Int))%2=1/\Fre B e k d)):=by
 have h:=rJ (T:=T) (B:=B) (e:=e) k k d;rw[show 2*k=k+k by lia];by_cases f:Fre B e k d
 ·rw[h.1 f];simp only[f,and_true,ne_eq,eq_iff_iff];lia
 ·rw[h.2 f];simp only[f,and_false,ne_eq,eq_iff_iff,iff_false,Decidable.not_not]
theorem rH{T T':Int->Bool}{n:Nat}(hB:∀d,Bar B e n d)(hT:∀d,T' d=true<->T d=true/\cG T B e n d%2=1):∀(k:Nat) (d:Int),Bar B e k d->cG T' B e n d=(cG T B e n d+1)/2
 | 0,_,⟨j,hj,_⟩=>absurd hj ⋯
 | k+1,d,h=>by
  have r:=Ka (T:=T) hB d;have r':=Ka (T:=T') hB d;have t:=hT d;by_cases hb:B d=true
  ·rw[xy hb] at r r';by_cases td:T d=true
   ·rw[xy td] at r;rw[xy (t.mpr ⟨td,⋯⟩)] at r';lia
   ·rw[xp td] at r;rw[xp (fun x=>td (t.mp x).1)] at r';lia
  ·have ih:=rH hB hT k (d-e) (h.down hb);rw[xp hb] at r r';by_cases td:T d=true
   ·rw[xy td] at r;by_cases o:cG T B e n d%2=1
    ·rw[xy (t.mpr ⟨td,o⟩)] at r';lia
    ·rw[xp (fun x=>o (t.mp x).2)] at r';lia
   ·rw[xp td] at r;rw[xp (fun x=>td (t.mp x).1)] at r';lia
theorem gw{T T':Int->Bool}{n:Nat}(hB:∀d,Bar B e n d)(hT:∀d,T' d=true<->T d=true/\cG T B e n d%2=0):∀(k:Nat) (d:Int),Bar B e k d->cG T' B e n d=cG T B e n d/2
 | 0,_,⟨j,hj,_⟩=>absurd hj ⋯
 | k+1,d,h=>by
  have r:=Ka (T:=T) hB d;have r':=Ka (T:=T') hB d;have t:=hT d;by_cases hb:B d=true
  ·rw[xy hb] at r r';by_cases td:T d=true
   ·rw[xy td] at r;rw[xp (fun x=>by have:=(t.mp x).2;lia)] at r';lia
   ·rw[xp td] at r;rw[xp (fun x=>td (t.mp x).1)] at r';lia
  ·have ih:=gw hB hT k (d-e) (h.down hb);rw[xp hb] at r r';by_cases td:T d=true
   ·rw[xy td] at r;by_cases o:cG T B e n d%2=0
    ·rw[xy (t.mpr ⟨td,o⟩)] at r';lia
    ·rw[xp (fun x=>o (t.mp x).2)] at r';lia
   ·rw[xp td] at r;rw[xp (fun x=>td (t.mp x).1)] at r';lia
theorem aW{T:Int->Bool}{n:Nat}(hB:∀d,Bar B e n d):∀(k:Nat) (d:Int),Bar B e k d->(cG T B e n d=0<->∃j:Nat,B (d-e*(j:Int))=true/\∀i:Nat,i<=j->T (d-e*(i:Int))=false)
 | 0,_,⟨j,hj,_⟩=>absurd hj ⋯
 | k+1,d,h=>by
  have r:=Ka (T:=T) hB d;by_cases td:T d=true
  ·rw[xy td] at r;constructor
   ·intro h0;lia
   ·rintro⟨j,_,h2⟩;have:=h2 0 ⋯;rw[show d-e*((0:Nat):Int)=d by simp,td] at this;cases this
  ·rw[xp td] at r;by_cases hb:B d=true
   ·rw[xy hb] at r;refine⟨fun _=>⟨0,by simpa using hb,fun i hi=>?_⟩,fun _=>⋯⟩;have:i=0:=⋯
    subst this;simpa using td
   ·rw[xp hb,jq5] at r;rw[r,aW hB k (d-e) (h.down hb)];have ek:∀j:Nat,d-e*((j+1:Nat):Int)=d-e-e*(j:Int):=fun j=>by rw[ko,ja3];simp;lia
    constructor
    ·rintro⟨j,h1,h2⟩;refine⟨j+1,by rw[ek];exact h1,fun i hi=>?_⟩;cases i with
     | zero=>simpa using td
     | succ i=>
      rw[ek];exact h2 i ⋯
    ·rintro⟨j,h1,h2⟩;cases j with
     | zero=>exact absurd (by simpa using h1) hb
     | succ j=>
      refine⟨j,by rw[<-ek];exact h1,fun i hi=>?_⟩;rw[<-ek];exact h2 _ ⋯
theorem yE{n1 n2:Int}{b1 b2 n:Nat}(h1:0<n1)(hB:∀d,Bar (On n2 b2) 1 n d):∀(k:Nat) (d:Int),Bar (On n2 b2) 1 k d->∃b,On n2 b2 b=true/\b<=d/\(∀r,b<r->r<=d->On n2 b2 r=false)/\CC n1 b1 (d+1)-CC n1 b1 b=(cG (On n1 b1) (On n2 b2) 1 n d:Int)
 | 0,_,⟨j,hj,_⟩=>absurd hj ⋯
 | k+1,d,h=>by
  have r:=Ka (T:=On n1 b1) hB d;have c:=iR (b:=b1) h1 d;by_cases hb:On n2 b2 d=true
  ·rw[xy hb] at r;refine⟨d,hb,⋯,fun r h1 h2=>⋯,?_⟩;rw[r,c];split<;>simp_all<;>lia
  ·rw[xp hb] at r;obtain⟨b,g1,g2,g3,g4⟩:=yE h1 hB k (d-1) (h.down hb);rw[show d-1+1=d by lia] at g4;refine⟨b,g1,⋯,fun r h1 h2=>?_,?_⟩
   ·by_cases e:r=d
    ·rw[e];simpa using hb
    ·exact g3 r h1 ⋯
   ·rw[r,c,ko,<-g4];split<;>simp_all<;>lia
theorem yF{n1 n2:Int}{b1 b2 n:Nat}(hb':∀d,B d=On n2 b2 (d+1))(h1:0<n1)(hB:∀d,Bar B (-1) n d):∀(k:Nat) (d:Int),Bar B (-1) k d->∃e,On n2 b2 e=true/\d<e/\(∀r,d<r->r<e->On n2 b2 r=false)/\CC n1 b1 e-CC n1 b1 d=(cG (On n1 b1) B (-1) n d:Int)
 | 0,_,⟨j,hj,_⟩=>absurd hj ⋯
 | k+1,d,h=>by
  have r:=Ka (T:=On n1 b1) hB d;have c:=iR (b:=b1) h1 d;by_cases hb:B d=true
  ·rw[xy hb] at r;refine⟨d+1,by rw[<-hb'];exact hb,⋯,fun r h1 h2=>⋯,?_⟩;rw[r,c];split<;>simp_all<;>lia
  ·rw[xp hb] at r;obtain⟨e,g1,g2,g3,g4⟩:=yF hb' h1 hB k (d- -1) (h.down hb);rw[show d- -1=d+1 by lia] at g2 g3 g4 r;refine⟨e,g1,⋯,fun r h1 h2=>?_,?_⟩
   ·by_cases e:r=d+1
    ·rw[e,<-hb'];simpa using hb
    ·exact g3 r ⋯ h2
   ·rw[r,ko,<-g4,c];split<;>simp_all<;>lia
theorem rK(z0:0<z)(per:∀x y:Int,z∣x-y->B x=B y){x:Int}(hx:B x=true)(he:e=1\/e= -1)(d:Int):Bar B e z.toNat d:=by
 rcases he with rfl | rfl
 ·have h1:=qg (d-x) (show z≠0 by lia);have h2:=jv (d-x) z0;have h3:=jn5 (d-x) z;refine⟨((d-x)%z).toNat,⋯,?_⟩;rw[show d-1*((((d-x)%z).toNat:Nat):Int)=d-(d-x)%z by lia,per _ x ⟨(d-x)/z,⋯⟩];exact hx
 ·have h1:=qg (x-d) (show z≠0 by lia);have h2:=jv (x-d) z0;have h3:=jn5 (x-d) z;refine⟨((x-d)%z).toNat,⋯,?_⟩;rw[show d- -1*((((x-d)%z).toNat:Nat):Int)=d+(x-d)%z by lia,per _ x ⟨-((x-d)/z),by rw[jf1];lia⟩];exact hx
theorem ABM{T:Int->Bool}{n:Nat}(hB:∀d,Bar B e n d){d:Int}(td:T d=true):cG T B e n d=1<->∃j:Nat,B (d-e*(j:Int))=true/\∀i:Nat,0<i->i<=j->T (d-e*(i:Int))=false:=by
 have r:=Ka (T:=T) hB d;have f:=aW (T:=T) hB n (d-e) (hB _);have ek:∀j:Nat,d-e*((j+1:Nat):Int)=d-e-e*(j:Int):=fun j=>by rw[ko,ja3];simp;lia
 rw[xy td] at r;by_cases hb:B d=true
 ·rw[xy hb] at r;exact⟨fun _=>⟨0,by simpa using hb,fun i h1 h2=>⋯⟩,fun _=>⋯⟩
 ·rw[xp hb] at r;constructor
  ·intro h;obtain⟨j,h1,h2⟩:=f.mp ⋯;refine⟨j+1,by rw[ek];exact h1,fun i i0 hi=>?_⟩;have:=h2 (i-1) ⋯;rw[<-ek,show i-1+1=i by lia] at this;exact this
  ·rintro⟨j,h1,h2⟩;cases j with
   | zero=>exact absurd (by simpa using h1) hb
   | succ j=>
    have:=f.mpr ⟨j,by rw[<-ek];exact h1,fun i hi=>by rw[<-ek];exact h2 _ ⋯ ⋯⟩;lia
theorem AAi{n1 n2 k:Int}{b1 b2 n:Nat}(hb':∀d,B d=On n2 b2 (d+1))(h1:0<n1)(hU:∀d,Bar (On n2 b2) 1 n d)(hD:∀d,Bar B (-1) n d)(k0:k≠0):
 Kth n1 b1 n2 b2 k d<->On n1 b1 d=true/\(if 0<k then cG (On n1 b1) (On n2 b2) 1 n d else cG (On n1 b1) B (-1) n d)=k.natAbs:=by
 obtain⟨b,p1,p2,p3,p4⟩:=yE (b1:=b1) h1 hU n d (hU d);obtain⟨e,q1,q2,q3,q4⟩:=yF (b1:=b1) hb' h1 hD n d (hD d);constructor
 ·rintro⟨od,b',e',g1,g2,g3,g4,g5,g6,g7⟩;have eb:b=b':=by
   rcases Int.lt_trichotomy b b' with h | h | h
   ·rw[p3 b' h g3] at g1;cases g1
   ·exact h
   ·rw[g5 b h ⋯] at p1;cases p1
  have ee:e=e':=by
   rcases Int.lt_trichotomy e e' with h | h | h
   ·rw[g5 e ⋯ h] at q1;cases q1
   ·exact h
   ·rw[q3 e' ⋯ h] at g2;cases g2
  subst eb;subst ee;refine⟨od,?_⟩;split
  ·next h=>
   have:=g6 h;lia
  ·next h=>
   have:=g7 ⋯;lia
 ·rintro⟨od,h⟩;refine⟨od,b,e,p1,q1,p2,q2,fun r r1 r2=>?_,fun h0=>?_,fun h0=>?_⟩
  ·by_cases c:r<=d
   ·exact p3 r r1 c
   ·exact q3 r ⋯ r2
  ·rw[xy h0] at h;lia
  ·rw[xp ⋯] at h;lia
structure Nx(on:Int->Bool)(r r':Int):Prop where
 o1:on r=true
 o2:on r'=true
 lt:r<r'
 no:∀x,r<x->x<r'->on x=false
theorem Nx.per{on:Int->Bool}{r:Int}(per:∀d k,on (d+z*k)=on d)(h:Nx on r r')(k:Int):Nx on (r+z*k) (r'+z*k):=by
 refine⟨by rw[per];exact h.o1,by rw[per];exact h.o2,by have:=h.lt;lia,fun x h1 h2=>?_⟩;have:=h.no (x+z* -k) (by rw[jf1];lia) (by rw[jf1];lia)
 rwa [per] at this
theorem Nx.ge{on:Int->Bool}{r x:Int}(h:Nx on r r')(hx:on x=true)(l:r<x):r'<=x:=by
 by_cases c:r'<=x
 ·exact c
 ·have:=h.no x l ⋯;rw[hx] at this;cases this
theorem Nx.le{on:Int->Bool}{r x:Int}(h:Nx on r r')(hx:on x=true)(l:x<r'):x<=r:=by
 by_cases c:x<=r
 ·exact c
 ·have:=h.no x ⋯ l;rw[hx] at this;cases this
theorem Nx.un{on:Int->Bool}{r u u' s:Int}(h:Nx on r r')(g:Nx on u u')(h1:r<=s)(h2:s<r')(g1:u<=s)(g2:s<u'):r=u/\r'=u':=by
 have a1:=h.le g.o1 ⋯;have a2:=g.le h.o1 ⋯;have b1:=h.ge g.o2 ⋯;have b2:=g.ge h.o2 ⋯;lia
theorem vC{on:Int->Bool}{s:Int}(z0:0<z)(per:∀d k,on (d+z*k)=on d)(hs:on s=true)(d:Int):∃y,d<y/\on y=true/\∀r,d<r->r<y->on r=false:=by
 obtain⟨x,h1,h2,h3⟩:=gM (on:=fun t=>on (-t)) (z:=z) (s:= -s) z0 (fun t k=>by show on (-(t+z*k))=on (-t);rw[<-per (-t) (-k),jf1];congr 1;lia) (by show on (- -s)=true;rw[Int.neg_neg];exact hs) (-(d+1));refine⟨-x,⋯,h2,fun r a b=>?_⟩;have:=h3 (-r) ⋯ ⋯
 rwa [Int.neg_neg] at this
theorem pO{on:Int->Bool}{s:Int}(z0:0<z)(per:∀d k,on (d+z*k)=on d)(hs:on s=true)(d:Int):∃r r',Nx on r r'/\r<=d/\d<r':=by
 obtain⟨r,a1,a2,a3⟩:=gM z0 per hs d;obtain⟨r',b1,b2,b3⟩:=vC z0 per hs d;refine⟨r,r',⟨a2,b2,⋯,fun x h1 h2=>?_⟩,a1,b1⟩;rcases jj8 d x with c | c
 ·exact b3 x c h2
 ·exact a3 x h1 c
noncomputable def HW(z:Int)(ds:List Int):List Int:=ds.drop 1++(ds.take 1).map (· +z)
noncomputable def mids(z:Int)(ds:List Int):List Int:=List.zipWith (fun x y=>(x+y)/2+1) ds (HW z ds)
theorem Uq(z:Int)(ds:List Int):(HW z ds).length=ds.length:=by
 unfold HW;rw[zh,jc0,jp,je4];lia
theorem Wm{on:Int->Bool}{ds:List Int}(z0:0<z)(per:∀d k,on (d+z*k)=on d)(srt:ds.Pairwise (· < ·))(mem:∀d,d∈ds<->0<=d/\d<z/\on d=true){i:Nat}{x y:Int}
 (hx:ds[i]?=some x)(hy:(HW z ds)[i]?=some y):Nx on x y:=by
 have il:i<ds.length:=(qv.mp hx).1;obtain⟨f,hf⟩:∃f,ds[0]?=some f:=⟨_,qm ⋯⟩;obtain⟨g,hg⟩:∃g,ds[ds.length-1]?=some g:=⟨_,qm ⋯⟩;obtain⟨R,_,_⟩:=Rw.mk' z0 per srt mem hf hg;have e1:([g-z]++ds++[f+z])[i+1]?=some x:=by
  rw[jc4,jg3,jm3,jg8 il];exact hx
 have ht:ds.take 1=[f]:=by
  cases ds with
  | nil=>simp at hf
  | cons a r=>
   have:a=f:=by simpa using hf
   rw[this];rfl
 have hd:ds=f::ds.drop 1:=by
  cases ds with
  | nil=>simp at hf
  | cons a r=>
   have:a=f:=by simpa using hf
   rw[this];rfl
 have e2:([g-z]++ds++[f+z])[i+1+1]?=some y:=by
  rw[jc4,jg3,jm3];have:ds++[f+z]=f::(ds.drop 1++[f+z]):=by
   conv=>lhs;rw[hd]
   rfl
  rw[this,jm3];unfold HW at hy;rw[ht] at hy;exact hy
 exact⟨R.all _ (zk e1),R.all _ (zk e2),R8 R.srt (jo5 _) e1 e2,fun r a b=>R.gap e1 e2 a b⟩
theorem pR{on:Int->Bool}{ds:List Int}(z0:0<z)(per:∀d k,on (d+z*k)=on d)(srt:ds.Pairwise (· < ·))(mem:∀d,d∈ds<->0<=d/\d<z/\on d=true)(d:Int):
 hit z (mids z ds) d=true<->∃r r',Nx on r r'/\d=(r+r')/2+1:=by
 rw[vU];have bl:=Uq z ds;constructor
 ·rintro⟨m,hm,k,rfl⟩;obtain⟨i,hi⟩:=jd8.mp hm;unfold mids at hi;rw[jm9] at hi;cases ex:ds[i]? with
  | none=>rw[ex] at hi;simp at hi
  | some x=>
   cases ey:(HW z ds)[i]? with
   | none=>rw[ex,ey] at hi;simp at hi
   | some y=>
    rw[ex,ey] at hi;have hi':(x+y)/2+1=m:=by simpa using hi
    have N:=(Wm z0 per srt mem ex ey).per per k;exact⟨_,_,N,⋯⟩
 ·rintro⟨r,r',N,rfl⟩;have e:=ky r z;have m0:=qg r (show z≠0 by lia);have m1:=jv r z0;have N0:=N.per per (-(r/z));rw[jf1,show r+ -(z*(r/z))=r%z by lia] at N0;obtain⟨i,hi⟩:=jd8.mp ((mem (r%z)).mpr ⟨m0,m1,N0.o1⟩);have il:i<ds.length:=(qv.mp hi).1;obtain⟨y,hy⟩:∃y,(HW z ds)[i]?=some y:=⟨_,qm ⋯⟩;have N1:=Wm z0 per srt mem hi hy;obtain⟨_,ey⟩:=N0.un N1 (jh8 _) N0.lt (jh8 _) N1.lt;refine⟨(r%z+y)/2+1,?_,r/z,⋯⟩;refine jd8.mpr ⟨i,?_⟩;unfold mids;rw[jm9,hi,hy];rfl
def Wq(on:Int->Bool)(d:Int):Prop:=∃r r',Nx on r r'/\r<=d/\d<r'/\d-r<=r'-d
theorem j8{on on2:Int->Bool}(z0:0<z)(per:∀d k,on (d+z*k)=on d)(hm:∀d,on2 d=true<->∃r r',Nx on r r'/\d=(r+r')/2+1):
 (∃r,on r=true/\r<=d/\∀s,on2 s=true->r<s->d<s)<->Wq on d:=by
 constructor
 ·rintro⟨r,h1,h2,h3⟩;obtain⟨x,y,N,a,b⟩:=pO z0 per h1 d;refine⟨x,y,N,a,b,?_⟩;have rx:=N.le h1 ⋯;have lt:=N.lt;have:=h3 _ ((hm _).mpr ⟨x,y,N,rfl⟩) ⋯;lia
 ·rintro⟨r,r',N,h1,h2,h3⟩;refine⟨r,N.o1,h1,fun s hs rs=>?_⟩;obtain⟨u,u',M,e⟩:=(hm s).mp hs;by_cases c:d<s
  ·exact c
  ·have lt:=N.lt;have lt':=M.lt;by_cases c2:u<r
   ·have:=M.ge N.o1 c2;lia
   ·obtain⟨rfl,rfl⟩:=N.un M (s:=s-1) ⋯ ⋯ (by have:=N.le M.o1 ⋯;lia) ⋯;lia
theorem pQ{on on2:Int->Bool}(z0:0<z)(per:∀d k,on (d+z*k)=on d):
 ((on d=true/\∃s,(on2 s=true/\Wq on s)/\d<=s/\∀r,d<r->r<=s->on r=false)\/(on d=true/\∃s,(on2 s=true/\¬Wq on s)/\s<=d/\∀r,s<=r->r<d->on r=false))<->
  (on d=true/\∃s,on2 s=true/\∀r,on r=true->(d<r->(d-s).natAbs<=(r-s).natAbs)/\(r<d->(d-s).natAbs<(r-s).natAbs)):=by
 constructor
 ·rintro(⟨hd,s,⟨hs,r,r',N,h1,h2,h3⟩,ds,no⟩ | ⟨hd,s,⟨hs,ne⟩,sd,no⟩)
  ·have e1:=N.le hd ⋯;have e:r=d:=by
    by_cases c:r=d
    ·exact c
    ·have:=no r ⋯ h1;rw[N.o1] at this;cases this
   subst e;refine⟨hd,s,hs,fun x hx=>⟨fun l=>?_,fun l=>⋯⟩⟩;have:=N.ge hx l;lia
  ·refine⟨hd,s,hs,fun x hx=>⟨fun l=>⋯,fun l=>?_⟩⟩;by_cases c:s=d
   ·lia
   obtain⟨r,r',N,h1,h2⟩:=pO z0 per hd s;have g1:=N.ge hd ⋯;have g2:r'=d:=by
    by_cases c:r'=d
    ·exact c
    ·have:=no r' ⋯ ⋯;rw[N.o2] at this;cases this
   subst g2;have:=N.le hx l;by_cases c2:s-r<=r'-s
   ·exact absurd ⟨r,r',N,h1,h2,c2⟩ ne
   ·lia
 ·rintro⟨hd,s,hs,all⟩;rcases jj8 s d with c | c
  ·refine .inr ⟨hd,s,⟨hs,?_⟩,⋯,fun r h1 h2=>?_⟩
   ·rintro⟨r,r',N,h1,h2,h3⟩;have g1:=N.ge hd ⋯;have:=(all r N.o1).2 ⋯;have:=(all r' N.o2);by_cases c2:r'=d
    ·lia
    ·have:=this.2 ⋯;lia
   ·cases e:on r with
    | false=>rfl
    | true=>
     have:=(all r e).2 h2;lia
  ·obtain⟨r,r',N,h1,h2⟩:=pO z0 per hd s;refine .inl ⟨hd,s,⟨hs,r,r',N,h1,h2,?_⟩,c,fun x a b=>?_⟩
   ·have g1:=N.le hd ⋯;have g2:r=d:=by
     by_cases c2:r=d
     ·exact c2
     ·have:=(all r N.o1).1 ⋯;lia
    subst g2;have:=(all r' N.o2).1 ⋯;lia
   ·cases e:on x with
    | false=>rfl
    | true=>
     have:=(all x e).1 a;lia
noncomputable abbrev Wd:=List Nat
noncomputable def kL:Wd:=[40]
noncomputable def kR:Wd:=[41]
noncomputable def opd(p:Wd):Wd:=p.dropWhile (· ==40)
noncomputable def core(p:Wd):Wd:=((opd p).reverse.dropWhile (· ==41)).reverse
noncomputable def Hq(p:Wd):List Wd:=List.replicate (p.length-(opd p).length) kL++[core p]++List.replicate ((opd p).length-(core p).length) kR
theorem N7(p:Wd):(opd p).length<=p.length:=(jm8 _).length_le
theorem Q7(p:Wd):(core p).length<=(opd p).length:=by
 unfold core;rw[jl3];have:=(jm8 (· ==41) (l:=(opd p).reverse)).length_le
 rwa [jl3] at this
noncomputable def jn:List Wd->Wd
 | []=>[]
 | [w]=>w
 | w::y::r=>w++32::jn (y::r)
noncomputable def bA:List Wd->List Wd
 | []=>[]
 | p::r=>(40::p)::r
noncomputable def bB:List Wd->List Wd
 | []=>[]
 | [p]=>[p++[41]]
 | p::q::r=>p::bB (q::r)
theorem JX{w:Wd}{r:List Wd}(h:r≠[]):jn (w::r)=w++32::jn r:=by
 cases r with
 | nil=>exact absurd rfl h
 | cons y r=>rfl
theorem qJ:∀{ps qs:List Wd},ps≠[]->qs≠[]->jn (ps++qs)=jn ps++32::jn qs
 | [],_,h,_=>absurd rfl h
 | [w],qs,_,h=>by rw[jg3,JX h];rfl
 | w::y::r,qs,_,h=>by
  rw[ji6,JX (by simp),qJ (by simp) h];show _=(w++32::jn (y::r))++_;simp
theorem ACx{ps:List Wd}(h:ps≠[]):jn (bA ps)=40::jn ps:=by
 match ps,h with
 | [w],_=>rfl
 | w::y::r,_=>rfl
theorem xg:∀{ps:List Wd},ps≠[]->jn (bB ps)=jn ps++[41]
 | [],h=>absurd rfl h
 | [w],_=>rfl
 | w::y::r,_=>by
  have ih:=xg (ps:=y::r) (by simp);have ne:bB (y::r)≠[]:=by cases r<;>simp[bB]
  show jn (w::bB (y::r))=_;rw[JX ne,ih];show _=(w++32::jn (y::r))++[41];simp
theorem mj:∀{w:Wd} {ws:List Wd},(∀p∈w::ws,32∉p)->L2.spl 32 (jn (w::ws))=w::ws
 | w,[],h=>L2.Wy 32 w (h w qc)
 | w,y::r,h=>by
  show L2.spl 32 (w++32::jn (y::r))=_;rw[L2.Lj 32 w _ (h w qc),mj fun p hp=>h p (qk _ hp)]
theorem Pn{ps:List Wd}(h:ps≠[]):bA ps≠[]:=by cases ps<;>simp_all [bA]
theorem aZ{ps:List Wd}(h:ps≠[]):bB ps≠[]:=by
 match ps,h with
 | [w],_=>simp[bB]
 | w::y::r,_=>simp[bB]
theorem rM:∀(ps:List Wd) {qs:List Wd},qs≠[]->bB (ps++qs)=ps++bB qs
 | [],_,_=>rfl
 | [p],q::r,_=>rfl
 | p::y::r,qs,h=>by
  have:=rM (y::r) h;rw[ji6] at this ⊢;show bB (p::y::(r++qs))=_;show p::bB (y::(r++qs))=_;rw[this];rfl
theorem Ma(p:Wd):opd (40::p)=opd p:=by simp[opd,jc3]
theorem G6(p:Wd):core (40::p)=core p:=by unfold core;rw[Ma]
theorem Xk{p q:Wd}(h:opd p≠[]):opd (p++q)=opd p++q:=by
 unfold opd at*
 induction p with
 | nil=>exact absurd rfl h
 | cons a p ih=>
  by_cases e:a=40
  ·subst e;simp only[ji6,jc3,beq_self_eq_true,if_true] at*
   exact ih h
  ·simp[jc3,e]
theorem Kq{p:Wd}(h:opd p≠[]):core (p++[41])=core p:=by
 unfold core;rw[Xk h,List.reverse_append];simp[jc3]
theorem KC{p:Wd}(h:core p≠[]):opd p≠[]:=fun e=>h (by unfold core;rw[e];rfl)
theorem Vo(p:Wd):Hq (40::p)=kL::Hq p:=by
 have:=N7 p;unfold Hq;rw[Ma,G6,qr,Nat.succ_sub this,ja5];rfl
theorem Vn{p:Wd}(h:core p≠[]):Hq (p++[41])=Hq p++[kR]:=by
 have h2:=KC h;have:=Q7 p;unfold Hq;rw[Kq h2,Xk h2,zh,zh,show p.length+[41].length-((opd p).length+[41].length)=p.length-(opd p).length by simp,show(opd p).length+[41].length-(core p).length=(opd p).length-(core p).length+1 by simp;lia,List.replicate_succ'];simp
theorem Oe{p:Wd}(h1:p.head?≠some 40)(h2:p.getLast?≠some 41):core p=p:=by
 have e1:opd p=p:=by
  cases p with
  | nil=>rfl
  | cons a r=>
   have:a≠40:=fun e=>h1 (by rw[e];rfl);simp[opd,jc3,this]
 unfold core;rw[e1];cases e:p.reverse with
 | nil=>rw[List.dropWhile_nil];rw[List.reverse_eq_nil_iff.mp e];rfl
 | cons a r=>
  have:a≠41:=fun z=>h2 (by rw[List.getLast?_eq_head?_reverse,e,z];rfl);have e2:(a::r).dropWhile (· ==41)=a::r:=by simp[jc3,this]
  rw[e2,<-e,List.reverse_reverse]
theorem jV{p:Wd}(h1:p.head?≠some 40)(h2:p.getLast?≠some 41):Hq p=[p]:=by
 have e1:opd p=p:=by
  cases p with
  | nil=>rfl
  | cons a r=>
   have:a≠40:=fun e=>h1 (by rw[e];rfl);simp[opd,jc3,this]
 unfold Hq;rw[Oe h1 h2,e1];simp
theorem gB{ps:List Wd}(h:ps≠[]):∃l p,ps=l++[p]:=⟨ps.dropLast,ps.getLast h,(List.dropLast_concat_getLast h).symm⟩
theorem iB{l:List Wd}{p:Wd}:bB (l++[p])=l++[p++[41]]:=rM l (by simp)
noncomputable def tks(ps:List Wd):List Wd:=ps.flatMap Hq
theorem mG{w:Wd}{ps:List Wd}(h:Hq w=[w]):tks (w::ps)=w::tks ps:=by
 unfold tks;rw[je7,h];rfl
theorem tH(ps qs:List Wd):tks (ps++qs)=tks ps++tks qs:=jh9
theorem mD{ps:List Wd}(ne:ps≠[])(co:∀p∈ps,core p≠[]):tks (bB (bA ps))=kL::(tks ps++[kR]):=by
 match ps,ne with
 | [f],_=>
  show Hq ((40::f)++[41])++[]=kL::((Hq f++[])++[kR]);rw[Vn (by rw[G6];exact co f qc),Vo];simp
 | f::y::r,_=>
  obtain⟨l,p,e⟩:=gB (ps:=y::r) (by simp);have E:bB (bA (f::y::r))=(40::f)::(l++[p++[41]]):=by
   show(40::f)::bB (y::r)=_;rw[e,iB]
  rw[E,e];unfold tks;rw[je7,jh9,je7,List.flatMap_nil,je7,jh9,je7,List.flatMap_nil,Vo,Vn (co p (by rw[e];simp))];simp
theorem Wx{ps:List Wd}(ne:ps≠[])(bl:∀p∈ps,32∉p):L2.spl 32 (jn ps)=ps:=by
 cases ps with
 | nil=>exact absurd rfl ne
 | cons w ws=>exact mj bl
theorem Ye{ws:List Wd}{q:Wd}(h:q∈bB (bA ws))(ne:ws≠[]):∃w∈ws,q=w\/q=40::w\/q=w++[41]\/q=40::w++[41]:=by
 have A:∀q∈bA ws,∃w∈ws,q=w\/q=40::w:=fun q hq=>by
  cases ws with
  | nil=>exact absurd rfl ne
  | cons f r=>
   rcases zo.mp hq with z | z
   ·exact⟨f,qc,.inr z⟩
   ·exact⟨q,qk _ z,.inl rfl⟩
 obtain⟨l,p,e⟩:=gB (Pn ne);rw[e] at A;rw[e,iB] at h;rcases yi.mp h with z | z
 ·obtain⟨w,hw,h⟩:=A q (jb1 _ z);exact⟨w,hw,h.elim .inl fun h=>.inr (.inl h)⟩
 ·obtain⟨w,hw,h⟩:=A p (yv _ qc);rw[xc.mp z];rcases h with h | h
  ·exact⟨w,hw,.inr (.inr (.inl (by rw[h])))⟩
  ·exact⟨w,hw,.inr (.inr (.inr (by rw[h])))⟩
theorem X3(h:c≠32):∀{ws:List Wd},c∈jn ws->∃w∈ws,c∈w
 | [],m=>(nomatch m)
 | [w],m=>⟨w,qc,m⟩
 | w::x::r,m=>by
  rw[JX (by simp)] at m;rcases yi.mp m with m | m
  ·exact⟨w,qc,m⟩
  ·rcases zo.mp m with m | m
   ·exact absurd m h
   ·obtain⟨y,hy,z⟩:=X3 h m;exact⟨y,qk _ hy,z⟩
end Fw
namespace Fw
open PySem L2 PyProof.Rows
noncomputable def top(i:Nat):Stmt:=PySem.Challenge.pw_feastwheel_k94_whole_never_and_within.main.body.getD i (.Pass ⟨0,0,0,0⟩)
noncomputable abbrev jP:Stmt:=top 19
noncomputable abbrev VD:Stmt:=top 20
noncomputable abbrev ZM:Stmt:=top 21
noncomputable abbrev U8:Stmt:=top 22
noncomputable abbrev Y8:Stmt:=top 24
noncomputable abbrev K7:Stmt:=top 33
noncomputable abbrev jQ:Stmt:=top 34
noncomputable abbrev bx:Stmt:=top 35
noncomputable abbrev oJ:Stmt:=top 36
noncomputable abbrev ACU:Stmt:=top 37
noncomputable abbrev uY:Stmt:=top 38
noncomputable abbrev Lq:Stmt:=top 42
noncomputable abbrev bO:Stmt:=top 43
noncomputable abbrev jR:Stmt:=top 44
noncomputable abbrev zV:Stmt:=top 45
noncomputable abbrev ZP:Stmt:=top 47
noncomputable abbrev jT:Stmt:=top 48
noncomputable abbrev Y4:Stmt:=top 49
noncomputable abbrev VF:Stmt:=top 53
noncomputable abbrev zZ:Stmt:=top 54
noncomputable abbrev oH:Stmt:=top 55
noncomputable abbrev n8:Stmt:=top 56
noncomputable abbrev jF:Stmt:=top 57
noncomputable abbrev XJ:Stmt:=top 58
noncomputable abbrev uX:Stmt:=top 59
noncomputable abbrev oG:Stmt:=top 60
noncomputable abbrev bU:Stmt:=top 62
noncomputable abbrev jJ:Stmt:=top 64
noncomputable abbrev jG:Stmt:=top 73
noncomputable abbrev XD:Stmt:=top 74
noncomputable abbrev jO:Stmt:=top 75
noncomputable abbrev Rh:Stmt:=top 76
noncomputable abbrev Nh:Stmt:=top 77
noncomputable abbrev Y9:Stmt:=top 78
noncomputable abbrev Ga:Stmt:=inClass (top 79) 0
noncomputable abbrev XX:Stmt:=inClass (top 79) 1
noncomputable abbrev Rp:Stmt:=inClass (top 79) 2
noncomputable abbrev Np:Stmt:=inClass (top 79) 3
noncomputable abbrev QJ:Stmt:=top 86
noncomputable abbrev Gq:Stmt:=inClass (top 87) 0
noncomputable abbrev Nk:Stmt:=inClass (top 87) 1
noncomputable abbrev VG:Stmt:=inClass (top 87) 3
noncomputable abbrev ZS:Stmt:=inClass (top 87) 4
noncomputable abbrev U7:Stmt:=top 88
noncomputable abbrev QT:Stmt:=inClass (top 89) 0
noncomputable abbrev Lw:Stmt:=inClass (top 89) 1
noncomputable abbrev Rn:Stmt:=inClass (top 89) 3
noncomputable abbrev XS:Stmt:=inClass (top 89) 4
noncomputable abbrev Rf:Stmt:=top 91
noncomputable abbrev Y5:Stmt:=top 92
noncomputable abbrev XF:Stmt:=top 93
noncomputable abbrev bQ:Stmt:=top 94
noncomputable abbrev Y7:Stmt:=top 95
noncomputable abbrev QK:Stmt:=top 96
noncomputable abbrev Ly:Stmt:=inClass (top 98) 0
noncomputable abbrev Ni:Stmt:=top 104
noncomputable abbrev ZQ:Stmt:=top 105
noncomputable abbrev bR:Stmt:=top 106
noncomputable abbrev jK:Stmt:=top 107
noncomputable abbrev n6:Stmt:=top 108
noncomputable abbrev QH:Stmt:=top 110
noncomputable abbrev QM:Stmt:=top 111
noncomputable abbrev Rj:Stmt:=top 112
noncomputable abbrev XQ:Stmt:=top 113
noncomputable abbrev bw:Stmt:=top 115
noncomputable abbrev zT:Stmt:=top 116
noncomputable abbrev uW:Stmt:=top 117
noncomputable abbrev zU:Stmt:=top 118
noncomputable abbrev Rg:Stmt:=top 119
noncomputable abbrev zW:Stmt:=top 120
noncomputable abbrev ACV:Stmt:=top 121
noncomputable abbrev Hc:Stmt:=inClass (top 124) 0
noncomputable abbrev Nm:Stmt:=inClass (top 124) 1
noncomputable abbrev Jy:Stmt:=inClass (top 124) 3
noncomputable abbrev Ru:Stmt:=inClass (top 125) 0
noncomputable abbrev VL:Stmt:=inClass (top 126) 0
noncomputable abbrev ZR:Stmt:=top 127
noncomputable abbrev QV:Stmt:=inClass (top 128) 0
noncomputable abbrev U3:Stmt:=top 129
noncomputable abbrev XN:Stmt:=top 130
noncomputable abbrev Gz:Stmt:=inClass (top 131) 0
noncomputable abbrev Rm:Stmt:=inClass (top 132) 0
noncomputable abbrev QX:Stmt:=inClass (top 133) 0
noncomputable abbrev Lx:Stmt:=inClass (top 134) 0
noncomputable abbrev Rt:Stmt:=inClass (top 135) 0
noncomputable abbrev Lr:Stmt:=inClass (top 136) 0
noncomputable abbrev Nq:Stmt:=inClass (top 137) 0
noncomputable abbrev QQ:Stmt:=inClass (top 138) 0
noncomputable abbrev Nj:Stmt:=inClass (top 139) 0
noncomputable abbrev QS:Stmt:=inClass (top 140) 0
noncomputable abbrev QR:Stmt:=inClass (top 141) 0
noncomputable abbrev Rq:Stmt:=inClass (top 142) 0
noncomputable abbrev Nt:Stmt:=inClass (top 143) 0
noncomputable abbrev Ls:Stmt:=inClass (top 147) 0
noncomputable abbrev VJ:Stmt:=inClass (top 147) 1
noncomputable abbrev VH:Stmt:=inClass (top 147) 2
noncomputable abbrev bN:Stmt:=top 148
noncomputable abbrev Yx:Stmt:=top 149
noncomputable abbrev U6:Stmt:=top 150
noncomputable abbrev U5:Stmt:=top 151
noncomputable abbrev Yy:Stmt:=top 152
noncomputable abbrev Yz:Stmt:=top 153
noncomputable abbrev HY:Stmt:=top 154
noncomputable abbrev JQ:Stmt:=top 155
noncomputable abbrev Jx:Stmt:=top 156
noncomputable abbrev Ik:Stmt:=top 157
noncomputable abbrev Jw:Stmt:=top 158
noncomputable abbrev ZD:Stmt:=top 159
noncomputable abbrev ZC:Stmt:=top 160
noncomputable abbrev bV:Stmt:=top 161
noncomputable abbrev Y6:Stmt:=top 162
noncomputable abbrev jH:Stmt:=top 172
noncomputable abbrev Rk:Stmt:=top 173
noncomputable abbrev Yv:Stmt:=top 174
noncomputable abbrev XH:Stmt:=top 180
noncomputable abbrev Yw:Stmt:=top 181
noncomputable abbrev U4:Stmt:=top 182
noncomputable abbrev Rc:Stmt:=top 187
noncomputable abbrev jN:Stmt:=top 188
noncomputable abbrev ZF:Stmt:=top 189
noncomputable abbrev U9:Stmt:=top 190
noncomputable abbrev zX:Stmt:=top 191
noncomputable abbrev QW:Stmt:=inClass (top 192) 0
noncomputable abbrev bz:Stmt:=inClass (top 192) 1
noncomputable abbrev VB:Stmt:=top 194
noncomputable abbrev XM:Stmt:=top 195
noncomputable abbrev bZ:Stmt:=top 196
noncomputable abbrev Ri:Stmt:=top 197
noncomputable abbrev bj:Stmt:=top 198
noncomputable abbrev jL:Stmt:=top 199
noncomputable abbrev oE:Stmt:=top 200
noncomputable abbrev bY:Stmt:=top 201
noncomputable abbrev ZK:Stmt:=top 202
noncomputable abbrev ZG:Stmt:=top 203
noncomputable abbrev bc:Stmt:=top 204
noncomputable abbrev jM:Stmt:=top 205
noncomputable abbrev QL:Stmt:=top 206
noncomputable abbrev ZJ:Stmt:=top 207
noncomputable abbrev oA:Stmt:=top 208
noncomputable abbrev bh:Stmt:=top 209
noncomputable abbrev ZL:Stmt:=top 210
noncomputable abbrev bW:Stmt:=top 211
noncomputable abbrev fH:Stmt:=top 212
def nU(K:Fr):Sp:=fun vs H Q _=>Ex3 fun(a:Addr) (ns:List Int) (k:Int)=>An5 (vs=[.ref a,.int k]) (SqL K H a (ns.map V.int)) (0<=k) (ns.length<=63) (Q (.int (ns.getD k.toNat 0)) H)
def tR:Sp:=fun vs H Q _=>∃i:Int,vs=[.int i]/\Q (.bl true) H
variable{K:Fr}{a:Addr}{H:Hp}{Q:VK}{E:XK}
theorem fP{ns:List Int}{k:Int}(hS:SqL K H a (ns.map V.int))(hl:ns.length<=63)(hk:0<=k)(h:Q (.int (ns.getD k.toNat 0)) H):nU K ([.ref a,.int k]++[]) H Q E:=⟨a,ns,k,rfl,hS,hk,hl,h⟩
variable{i:Int}
theorem ZW(h:Q (.bl true) H):tR ([.int i]++[]) H Q E:=⟨i,rfl,h⟩
theorem wI{ns:List Int}{k:Int}(h0:0<=k)(h:k<(ns.length:Int)):atI (ns.map V.int) k=some (.int (ns.getD k.toNat 0)):=by
 have hk:k.toNat<ns.length:=⋯;have ek:k=((k.toNat:Nat):Int):=⋯;have q:atI (ns.map V.int) ((k.toNat:Nat):Int)=some (.int ns[k.toNat]):=Ej (by rw[xo,qm hk]<;>rfl);rw[<-ek] at q;rw[q];simp[List.getD,hk]
theorem p40:(10:Int)^(40:Int).toNat=10000000000000000000000000000000000000000:=nofun
theorem p39:(10:Int)^(39:Int).toNat=1000000000000000000000000000000000000000:=nofun
theorem bt_of{x:Int}(h1: -1000000000000000000000000000000000000000000000000000000000000<=x)(h2:x<=1000000000000000000000000000000000000000000000000000000000000):Bt 200 x:=by
 unfold Bt;have:(2:Nat)^200=1606938044258990275541962092341162602522202993782792835301376:=nofun;lia
theorem DY{a b:V}:([a,b]:List V).length<=sizeLine:=by show 2<=sizeLine;decide
variable{y:V}
theorem at0{x:V}:atI [x,y] 0=some x:=rfl
theorem at1{x:V}:atI [x,y] 1=some y:=rfl
local macro_rules | `(tactic| symm)=> `(tactic| (repeat (first | fail "r" | ((with_reducible refine' Fw.fP ?hc1 ?hc2 ?hc3 ?_);(case hc1=>assumption);(case hc2=>assumption);(case hc3=>decide)) | with_reducible refine Fw.ZW ?_)))
local macro_rules | `(tactic| exists $e)=> `(tactic| (refine $e;symm))
def m8:Sp:=fun vs H Q _=>∃n:Int,An3 (vs=[.int n]) (1<=n) (Q .non H)
def ADl:Sp:=fun vs H Q _=>Ex2 fun(a b:Int)=>An4 (vs=[.int a,.int b]) (Bt 500 a) (Bt 500 b) (∀(p:Addr) (u v g:Int) (H':Hp),Az H H'->H' p=some (.tup [.int u,.int v,.int g])->Eqn a b u v g->Q (.ref p) H')
def jA:Sp:=fun vs H Q _=>Ex2 fun(a b:Int)=>An4 (vs=[.int a,.int b]) (Bt 500 a) (Bt 500 b) (∀H',Az H H'->Q (.int (Int.gcd a b:Int)) H')
def nR:Sp:=fun vs H Q _=>Ex2 fun(a b:Int)=>An6 (vs=[.int a,.int b]) (0<a) (0<b) (Bt 500 a) (Bt 500 b) (∀H',Az H H'->Q (.int (Bj a b)) H')
theorem wK{x z:V}:atI [x,y,z] 0=some x:=rfl
theorem ABS{x z:V}:atI [x,y,z] 1=some y:=rfl
theorem Ve{x z:V}:atI [x,y,z] 2=some z:=rfl
theorem three{a b c:V}:([a,b,c]:List V).length<=sizeLine:=by show 3<=sizeLine;decide
theorem two{a b:V}:([a,b]:List V).length<=sizeLine:=by show 2<=sizeLine;decide
variable{m:Nat}
theorem aX{k:Nat}{x y:Int}(h:Bt k y)(l:x.natAbs<=4*y.natAbs+4)(hk:k+4<=m):Bt m x:=by
 unfold Bt at*
 have p:2^(k+4)<=2^m:=kc nofun hk;have e:2^(k+4)=2^k*16:=by rw[jp5]
 lia
variable{z:Int}
theorem ABO{k:Nat}{x y:Int}(h:Bt k y)(h':Bt k z)(l:x.natAbs<=y.natAbs+z.natAbs+4)(hk:k+4<=m):Bt m x:=by
 unfold Bt at*
 have p:2^(k+4)<=2^m:=kc nofun hk;have e:2^(k+4)=2^k*16:=by rw[jp5]
 lia
theorem CK{k:Nat}{x:Int}(h0:0<=x)(h1:x<18446744073709551616)(hk:64<=k):Bt k x:=Bt.mono (k:=64) (by unfold Bt;lia) hk
def zJ:Sp:=fun vs H Q _=>∃n:Int,An4 (vs=[.int n]) (0<=n) (n<=1000000) (Q (.int ((2^n.toNat-1:Nat):Int)) H)
def ABz(K:Fr):Sp:=fun vs H Q _=>Ex4 fun(a:Addr) (n d:Int) (b:Nat)=>An4 (vs=[.ref a,.int d]) (SqT K H a [.int n,.int (b:Int)]) (0<n) (Q (.bl (On n b d)) H)
variable{b:Nat}
theorem Kc{n:Nat}(h:b<2^n):Bt n (b:Int):=by unfold Bt;rw[jl9];exact h
theorem AAS(b k:Nat):decide (V.int (((b:Nat):Int)/2^k%2)=V.int 1)=b.testBit k:=by
 rw[<-ACn,Qr];simp
theorem bt1:Bt 1 1:=by unfold Bt;decide
variable{d:Int}
theorem ABP{k:Nat}{n:Int}(h:Bt k d)(hn:0<n):Bt k (d/n):=by
 refine h.le ?_;rcases jj8 d 0 with c | c
 ·have h1:d/n<0:=Int.ediv_neg_of_neg_of_pos c hn;have h2:d<=d/n:=(Int.le_ediv_iff_mul_le hn).mpr (by
   have:=Int.mul_le_mul_of_nonpos_left (show d<=0 by lia) (show 1<=n by lia);lia)
  lia
 ·have h1:0<=d/n:=jh0 c ⋯;have h2:d/n<=d:=ji5 n c;lia
theorem K8{f:Int->Int->V}{j:Int}(h:Q (f i j) H)(a:0<=i:=by lia)(b:i<18446744073709551616:=by lia)(c:0<=j:=by lia)(d:j<18446744073709551616:=by lia):rI iQ f (.int i) (.int j) H Q:=Dn ⟨64,64,CK a b nofun,CK c d nofun,nofun⟩ h
def iZ:Sp:=fun vs H Q _=>∃n:Int,An3 (vs=[.int n]) (n<=150000) (Q .non H)
def jB(K:Fr):Sp:=fun vs H Q _=>Ex4 fun(a:Addr) (n z:Int) (b:Nat)=>An8 (vs=[.ref a,.int z]) (SqT K H a [.int n,.int (b:Int)]) (0<n) (n<=300000) (b<2^n.toNat) (0<z) (z<=150000) (∀c:Nat,HX n.toNat b z.toNat c->Q (.int (c:Int)) H)
theorem wL(b k:Nat):decide (V.int (Builtin.bitAnd ((b:Int)/2^k) 1)=V.int 1)=b.testBit k:=by
 rw[HN,show(1:Int)=((1:Nat):Int) from rfl,Dm,Nat.and_one_is_mod,<-AAS]
 congr 1
 rw[HN];have e:(((b >>> k:Nat):Int)%2)=((b >>> k%2:Nat):Int):=⋯;rw[e];rfl
noncomputable def Sh(b k:Nat):List V:=(List.range k).map fun j=>V.int ((pc b j:Nat):Int)
theorem MN(b k:Nat):(Sh b k).length=k:=by unfold Sh;simp
theorem MP{k j:Nat}(h:j<k):(Sh b k)[j]?=some (V.int ((pc b j:Nat):Int)):=by
 unfold Sh;rw[xo,List.getElem?_range h];rfl
theorem jY(k:Nat):(List.replicate k [V.int 0]).flatten=Sh 0 k:=by
 unfold Sh;have:(fun j=>V.int ((pc 0 j:Nat):Int))=fun _=>V.int 0:=by
  funext j
  unfold pc;simp
 rw[this,List.map_const',vc]
 induction k with
 | zero=>rfl
 | succ k ih=>rw[ja5,je8,ih,ja5];rfl
theorem pF{k p:Nat}(h:p/256<k):(Sh b k).set (p/256) (V.int ((pc b (p/256) ||| 2^(p%256):Nat):Int))=Sh (b ||| 2^p) k:=by
 refine List.ext_getElem? fun j=>?_;rw[List.getElem?_set];by_cases hj:j<k
 ·rw[MP hj];by_cases c:p/256=j
  ·rw[xy c,xy (by rw[MN];lia)];subst c;rw[MP hj,pH]
  ·rw[xp c,MP hj,pG (Ne.symm c)]
 ·have e:∀b,(Sh b k)[j]?=none:=fun b=>jk0 (by rw[MN];lia);rw[xp ⋯,e,e]
def ie(K:Fr):Sp:=fun vs H Q _=>Ex3 fun(a:Addr) (ds:List Int) (n:Int)=>An5 (vs=[.int n,.ref a]) (SqL K H a (ds.map V.int)) (0<n) (n<=150000) (∀(p:Addr) (b:Nat) (H':Hp),Az H H'->H' p=some (.tup [.int n,.int (b:Int)])->RB n ds b->Q (.ref p) H')
theorem uf{n:Int}(hn:0<n)(hb:b<2^n.toNat):b%2^(256*((n/256+1).toNat))=b:=
 jf9 (xk hb (kc nofun ⋯))
structure Bo(f:Bool->Bool->Bool)(n1:Int)(b1:Nat)(n2:Int)(b2:Nat)(z:Int)(c:Nat):Prop where
 lt:c<2^z.toNat
 bit:∀i,i<z.toNat->c.testBit i=f (b1.testBit (i%n1.toNat)) (b2.testBit (i%n2.toNat))
def uA(K:Fr):Sp:=fun vs H Q _=>Ex3 fun(a:Addr) (n:Int) (b:Nat)=>An6 (vs=[.ref a]) (SqT K H a [.int n,.int (b:Int)]) (0<n) (n<=150000) (b<2^n.toNat) (∀(p:Addr) (c:Nat),H p=none->c<2^n.toNat->(∀i,i<n.toNat->c.testBit i=!b.testBit i)->Q (.ref p) (upd H p (.tup [.int n,.int (c:Int)])))
noncomputable def dl(b m:Nat):List Nat:=(List.range m).filter fun i=>b.testBit i
noncomputable def dli(b m:Nat):List Int:=(dl b m).map fun(i:Nat)=>(i:Int)
theorem ql(b m k:Nat):dl b (m+k)=dl b m++((List.range k).filter fun i=>b.testBit (m+i)).map fun i=>m+i:=by
 unfold dl;rw[List.range_add,jm1,List.filter_map];rfl
theorem vm{n:Nat}(hb:b<2^n)(k:Nat):dl b (n+k)=dl b n:=by
 rw[ql];have:((List.range k).filter fun i=>b.testBit (n+i))=[]:=by
  rw[List.filter_eq_nil_iff];intro i _;rw[high hb ⋯];exact zi
 rw[this,jl6,yy]
theorem AAy(b m:Nat):(dl b m).length<=m:=by
 unfold dl;exact zv (jn8 _ _) (by simp)
theorem mem_dl{i:Nat}:i∈dl b m<->i<m/\b.testBit i=true:=by
 unfold dl;rw[List.mem_filter,jj2]
theorem JV:d∈dli b m<->0<=d/\d<m/\b.testBit d.toNat=true:=by
 unfold dli;rw[ui];constructor
 ·rintro⟨i,hi,rfl⟩;obtain⟨h1,h2⟩:=mem_dl.mp hi;exact⟨⋯,⋯,by rw[xa];exact h2⟩
 ·rintro⟨h1,h2,h3⟩;exact⟨d.toNat,mem_dl.mpr ⟨⋯,h3⟩,⋯⟩
theorem vh(b m:Nat):(dl b m).Pairwise (· < ·):=List.Pairwise.filter _ List.pairwise_lt_range
theorem qj(b m:Nat):(dli b m).Pairwise (· < ·):=by
 unfold dli;rw[List.pairwise_map];exact(vh b m).imp fun h=>⋯
theorem gZ(b m:Nat):(dli b m).length<=m:=by
 unfold dli;rw[jp];exact AAy b m
def nQ(K:Fr):Sp:=fun vs H Q _=>Ex3 fun(a:Addr) (n:Int) (b:Nat)=>An6 (vs=[.ref a]) (SqT K H a [.int n,.int (b:Int)]) (0<n) (n<=150000) (b<2^n.toNat) (∀(l:Addr) (H':Hp),H l=none->Az H H'->H' l=some (.lst ((dli b n.toNat).map V.int))->Q (.ref l) H')
theorem jX(b m i:Nat):(Builtin.bitAnd (((b/2^m%2^256:Nat):Int)/2^i) 1 != 0)=(decide (i<256)&&b.testBit (m+i)):=by
 have h:(b/2^m%2^256).testBit i=(decide (i<256)&&b.testBit (m+i)):=by
  rw[jd2,<-ua,jb3]
 rw[HN,show(1:Int)=((1:Nat):Int) from rfl,Dm,Nat.and_one_is_mod,<-h,Nat.testBit_eq_decide_div_mod_eq,ua,Qr];simp only[bne_iff_ne,decide_eq_true_eq];lia
theorem Zx(b m:Nat):((dli b m).map V.int)++(((((List.range 256).map fun i=>V.int (0+(i:Nat)))).filter fun v=>match v with | .int d=>b.testBit (m+d.toNat) | _=>false).map fun v=>match v with | .int d=>V.int ((m:Int)+d) | _=>.non)=(dli b (m+256)).map V.int:=by
 unfold dli;rw[ql,vk,vk]
 congr 1
 rw[List.filter_map,va,va,va];have e:((fun v:V=>match v with | .int d=>b.testBit (m+d.toNat) | _=>false) ∘ fun i:Nat=>V.int (0+(i:Nat)))=fun i=>b.testBit (m+i):=by
  funext i
  show b.testBit (m+(0+(i:Int)).toNat)=_;rw[show (0+(i:Int)).toNat=i by lia]
 rw[e];refine jp1 fun i _=>?_;show V.int ((m:Int)+(0+(i:Int)))=V.int (((m+i:Nat):Int));rw[show (m:Int)+(0+(i:Int))=((m+i:Nat):Int) by lia]
theorem vg{n:Int}(n0:0<n)(d:Int):d∈dli b n.toNat<->0<=d/\d<n/\On n b d=true:=by
 rw[JV];constructor
 ·rintro⟨h1,h2,h3⟩;refine⟨h1,⋯,?_⟩;unfold On
  rwa [Zl h1 ⋯]
 ·rintro⟨h1,h2,h3⟩;refine⟨h1,⋯,?_⟩;unfold On at h3
  rwa [Zl h1 h2] at h3
theorem kJ(xs:List Int):Io (xs.map V.int) (some 1) none=(xs.drop 1).map V.int:=kW xs 1
theorem kI(xs:List V):Io xs none (some 1)=xs.take 1:=qy xs 1
theorem qz{b:Addr}{xs ys:List Int}{Z:L2.St}{te:TE}(ha:SqL K H a (xs.map V.int))(hb:SqL K H b (ys.map V.int))(hl:xs.length<sizeLine)(f:Int->Int->Int)
 (he:∀(x y:Int) (H':Hp) (Q':VK),Q' (.int (f x y)) H'->te (some (.int x)::some (.int y)::Z) H' Q')
 (h:∀(D:Addr) (H':Hp),H D=none->Az H H'->H' D=some (.lst ((List.zipWith f xs ys).map V.int))->Q (.ref D) H'):
 Us 2 (qU K 2 (V4 (Hk 0) (V4 (Hk 1) vW))) eN te Z Q (sO K a b false) H:=by
 intro D hD;have zl:(List.zipWith f xs ys).length=min xs.length ys.length:=List.length_zipWith;refine⟨fun i m zs H2=>i<=min xs.length ys.length/\m=min xs.length ys.length-i/\zs=((List.zipWith f xs ys).take i).map V.int/\H2 D=some (.lst zs)/\Az H H2,⟨_,ke _,rfl,rfl,Am,Ar hD _⟩,?_⟩;rintro i m zs H2 ⟨hi,rfl,rfl,hz,s2⟩;refine⟨hz,?_⟩;by_cases c:i<min xs.length ys.length
 ·have c1:i<xs.length:=⋯
  have c2:i<ys.length:=⋯;have ex:(xs.map V.int)[i]?=some (.int xs[i]):=by rw[xo,qm c1];rfl
  have ey:(ys.map V.int)[i]?=some (.int ys[i]):=by rw[xo,qm c2];rfl
  refine .inr ⟨⟨_,_,_,_,s2.seq ha,s2.seq hb,ex,ey⟩,?_,min xs.length ys.length-(i+1),⋯,?_⟩
  ·rw[jp,je4];lia
  rintro v H3 ⟨T,x,y,hT,rfl,rfl,hxy⟩ ρ hρ;obtain⟨gx,gy⟩:=hxy _ _ (s2.seq ha) (s2.seq hb);rw[ex] at gx;rw[ey] at gy;cases gx;cases gy;obtain⟨p,q,rfl⟩:∃p q,ρ=[p,q]:=by
   match ρ,hρ with
   | [p,q],_=>exact⟨p,q,rfl⟩
  refine⟨T,[.int xs[i],.int ys[i]],rfl,SqT.of Am,rfl,.int xs[i],[.int ys[i]],rfl,.int ys[i],[],rfl,⟨rfl,[some (.int xs[i]),some (.int ys[i])],rfl,rfl,?_⟩⟩;refine Hn ?_;rw[xy rfl];have nT:D≠T:=Bu hz hT;refine he _ _ _ _ ⟨by rw[BK nT];exact hz,⋯,rfl,?_,Am,?_⟩
  ·rw[List.take_succ,vk]
   congr 1
   have:(List.zipWith f xs ys)[i]?=some (f xs[i] ys[i]):=by
    rw[jm9,qm c1,qm c2];rfl
   rw[this];rfl
  ·exact Fb hD (s2.trans (Ar hT _))
 ·have e:i=min xs.length ys.length:=⋯
  refine .inl ⟨⟨_,_,s2.seq ha,s2.seq hb,by rw[jp,jp];exact e⟩,h D H2 hD s2 ?_⟩;rw[hz,uk ⋯]
def yt:Sp:=fun vs H Q _=>Ex2 fun(b n:Nat)=>An4 (vs=[.int (b:Int)]) (b<2^n) (n<=150000) (∀H',Az H H'->Q (.int ((cnt b n:Nat):Int)) H')
variable{c:Nat}
theorem gQ{w z f:Nat}(w0:0<w)(hf:f<2^z)(S:HX (2*w) (2^w-1) z c)(k:Nat):Ev w (f/2^k) ((f/2^k) &&& c):=fun i=>by
 rw[ja1];have fl:f/2^k<2^z:=vb (Nat.div_le_self _ _) hf;by_cases h:i<z
 ·rw[S.bit i h,jk4]
 ·rw[high fl ⋯];rfl
structure RC(K:Fr)(CR C:Addr):Prop where
 cl:Cls K C
 k:DX K C "kept"
 m:DX K C "made_of"
 w:DX K C "words"
 ca:PySem.W.findIn K (.ref C) "__class__"=some (some (.builtin "object.__class__"))
 ob:PySem.W.mroIn K C (.type "object")=some true
 isr:PySem.W.kitOne K (.ref C) (.ref CR)=some true
noncomputable def rF(p pm pw:Addr):List (Str×V):=[("kept",.ref p),("made_of",.ref pm),("words",.ref pw)]
structure Cw(K:Fr)(CR:Addr)(CL:List Addr)(H:Hp)(x:Addr)(n:Int)(b:Nat):Prop where
 ex:∃C dx p pm pw,C∈CL/\RC K CR C/\H x=some (.ins C dx (rF p pm pw))/\H p=some (.tup [.int n,.int (b:Int)])
 n0:0<n
 n1:n<=150000
 lt:b<2^n.toNat
variable{x:Addr}{H':Hp}
theorem Cw.same{CR:Addr}{CL:List Addr}{n:Int}(R:Cw K CR CL H x n b)(s:Az H H'):Cw K CR CL H' x n b:=by
 obtain⟨C,dx,p,pm,pw,h1,h2,h3,h4⟩:=R.ex;exact⟨⟨C,dx,p,pm,pw,h1,h2,s _ _ h3,s _ _ h4⟩,R.n0,R.n1,R.lt⟩
def KB(x:Addr)(H H':Hp):Prop:=∀y o,y≠x->H y=some o->H' y=some o
variable{H1:Hp}
theorem KB.pre(s:Az H H1)(k:KB x H1 H'):KB x H H':=fun y o h e=>k y o h (s _ _ e)
variable{o:HO}
theorem Vu{dx:Addr}{o':HO}(hx:H1 x=none)(hd:H1 dx=none)(ne:dx≠x)(k:KB x (upd (upd H1 dx o) x o') H'):Az H1 H':=fun y u e=>by
 have y1:y≠x:=Bu e hx;have y2:y≠dx:=Bu e hd;exact k y u y1 (by rw[BK y1,BK y2];exact e)
def W2(K:Fr)(CR:Addr):Sp:=fun vs H Q _=>Ex6 fun(x p pm pw C dx:Addr)=>An4 (vs=[.ref x,.ref p,.ref pm,.ref pw]) (H x=some (.ins C dx [])) (RC K CR C) (∀H',KB x H H'->H' x=some (.ins C dx (rF p pm pw))->Q .non H')
def M6(K:Fr)(CR:Addr)(CL:List Addr)(C:Addr)(H:Hp)(x:Addr)(Q:VK)(n:Int)(G:Nat->Prop):Prop:=(∃dx,H x=some (.ins C dx []))/\∀(b:Nat) H',KB x H H'->Cw K CR CL H' x n b->G b->Q .non H'
def ACN(K:Fr)(CR:Addr)(CL:List Addr)(C:Addr)(b0:Nat):Sp:=fun vs H Q _=>∃x,vs=[.ref x]/\M6 K CR CL C H x Q 1 (fun b=>b=b0)
def Kl(K:Fr)(CR:Addr)(CL:List Addr):Sp:=fun vs H Q _=>Ex3 fun(x:Addr) (n:Int) (b:Nat)=>An3 (vs=[.ref x]) (Cw K CR CL H x n b) (∀p,H p=some (.tup [.int n,.int (b:Int)])->Q (.ref p) H)
def eZ(K:Fr)(CR:Addr)(CL:List Addr):Sp:=fun vs H Q _=>Ex4 fun(x:Addr) (n d:Int) (b:Nat)=>An3 (vs=[.ref x,.int d]) (Cw K CR CL H x n b) (Q (.bl (On n b d)) H)
variable{p:Addr}
theorem Gg{CR:Addr}{CL:List Addr}{C dx pm pw:Addr}{H2:Hp}{n:Int}(hC:C∈CL)(R:RC K CR C)(hx:H2 x=some (.ins C dx []))(hp:H2 p=some (.tup [.int n,.int (b:Int)]))(k:KB x H2 H')(e:H' x=some (.ins C dx (rF p pm pw)))(n0:0<n)(n1:n<=150000)(lt:b<2^n.toNat):Cw K CR CL H' x n b:=
 ⟨⟨C,dx,p,pm,pw,hC,R,e,k _ _ (Hj hp hx (fun z=>nomatch z)) hp⟩,n0,n1,lt⟩
structure rZ(K:Fr)(H:Hp)(a1 a2:Addr)(n1 n2:Int)(b1 b2:Nat):Prop where
 s1:SqT K H a1 [.int n1,.int (b1:Int)]
 s2:SqT K H a2 [.int n2,.int (b2:Int)]
 p1:0<n1
 p2:0<n2
 l1:n1<=150000
 l2:n2<=150000
 k1:b1<2^n1.toNat
 k2:b2<2^n2.toNat
def ACR(K:Fr):Sp:=fun vs H Q _=>Ex6 fun(a1 a2:Addr) (n1 n2:Int) (b1 b2:Nat)=>An9 (vs=[.ref a1,.ref a2]) (SqT K H a1 [.int n1,.int (b1:Int)]) (SqT K H a2 [.int n2,.int (b2:Int)]) (0<n1) (0<n2) (n1<=150000) (n2<=150000) (Bj n1 n2<=150000) (∀H',Az H H'->Q (.int (Bj n1 n2)) H')
def Ig(K:Fr):Sp:=fun vs H Q _=>Ex4 fun(a:Addr) (n z:Int) (b:Nat)=>An9 (vs=[.ref a,.int z]) (SqT K H a [.int n,.int (b:Int)]) (0<n) (n<=150000) (b<2^n.toNat) (0<z) (z<=150000) (n∣z) (∀(p:Addr) (c:Nat),H p=none->HX n.toNat b z.toNat c->Q (.ref p) (upd H p (.tup [.int z,.int (c:Int)])))
def fG(K:Fr):Sp:=fun vs H Q _=>Ex4 fun(a:Addr) (n num:Int) (b:Nat)=>An6 (vs=[.ref a,.int num]) (SqT K H a [.int n,.int (b:Int)]) (0<n) (n<=150000) (b<2^n.toNat) (∀p,H p=none->Q (.ref p) (upd H p (.tup [.int n,.int ((lat n.toNat b (num%n).toNat:Nat):Int)])))
theorem Xy{n:Int}(n0:0<n)(z0:0<z)(h:n∣z):Bj n z=z:=by
 have f:=BV n0 z0;have h1:Bj n z∣z:=f.2.2.2.2.1 _ h (vv _);exact Int.dvd_antisymm ⋯ ⋯ h1 f.2.2.1
noncomputable abbrev Rel:=Int->Nat->Int->Nat->Int->Nat->Prop
noncomputable abbrev rT:=Int->Nat->Int->Nat->Int->Prop
def WR(U:rT):Rel:=fun n1 b1 n2 b2 z c=>∀d,On z c d=true<->U n1 b1 n2 b2 d
variable{n1 n2:Int}{b1 b2:Nat}
theorem Bo.on{f:Bool->Bool->Bool}(B:Bo f n1 b1 n2 b2 z c)(h1:0<n1)(h2:0<n2)(hz:0<z)(d1:n1∣z)(d2:n2∣z)(d:Int):On z c d=f (On n1 b1 d) (On n2 b2 d):=by
 have k1:=qg d (show z≠0 by lia);have k2:=jv d hz;have m:∀n:Int,0<n->n∣z->(d%z).toNat%n.toNat=(d%n).toNat:=fun n hn hd=>by
  have e:(d%z)%n=d%n:=jb0 d hd;have h3:=qg d (show n≠0 by lia);have k:(((d%z).toNat%n.toNat:Nat):Int)=d%z%n:=by
   rw[jb8];have a1:((d%z).toNat:Int)=d%z:=⋯;have a2:(n.toNat:Int)=n:=⋯;rw[a1,a2]
  rw[e] at k;lia
 unfold On;rw[B.bit _ ⋯,m n1 h1 d1,m n2 h2 d2]
theorem Bo.self{f:Bool->Bool->Bool}(B:Bo f z b1 z b2 z c)(h:0<z)(d:Int):On z c d=f (On z b1 d) (On z b2 d):=B.on h h h (vv z) (vv z) d
theorem cQ{c':Nat}(h:c<2^z.toNat)(h':c'<2^z.toNat)(e:∀d,On z c d=true<->On z c' d=true):c=c':=Um h h' fun i hi=>by
 have:=e (i:Int);unfold On at this;rw[Zl ⋯ ⋯,xa] at this;exact Qr.mpr this
theorem Bo.uniq{f:Bool->Bool->Bool}{c':Nat}(B:Bo f n1 b1 n2 b2 z c)(B':Bo f n1 b1 n2 b2 z c'):c=c':=Um B.lt B'.lt fun i hi=>by rw[B.bit i hi,B'.bit i hi]
theorem RB.uniq{n:Int}{ds:List Int}{b':Nat}(B:RB n ds b)(B':RB n ds b'):b=b':=cQ B.lt B'.lt fun d=>by rw[B.bit,B'.bit]
def OtR(n:Int)(b c:Nat):Prop:=c<2^n.toNat/\∀i,i<n.toNat->c.testBit i=!b.testBit i
theorem OtR.uniq{n:Int}{c':Nat}(h:OtR n b c)(g:OtR n b c'):c=c':=Um h.1 g.1 fun i hi=>by rw[h.2 i hi,g.2 i hi]
noncomputable def ltr(n:Int)(b:Nat)(s:Int):Nat:=lat n.toNat b (s%n).toNat
theorem Zh{n:Int}(n0:0<n)(h:∀i,i<n.toNat->c.testBit i=!b.testBit i)(d:Int):On n c d=!On n b d:=by
 have h1:=qg d (show n≠0 by lia);have h2:=jv d n0;unfold On;exact h _ ⋯
def UpJ(e:Int):rT:=fun n1 b1 n2 b2 d=>On n1 b1 d=true/\∃j:Nat,On n2 b2 (d-e*(j:Int))=true/\∀i:Nat,0<i->i<=j->On n1 b1 (d-e*(i:Int))=false
variable{e:Int}
theorem yN{cr cs l g:Nat}(oR:∀d,On z cr d=On n1 b1 d)(oS:∀d,On z cs d=On n2 b2 d)(oL:∀d,On z l d=On z cr (d-e))(og:∀d,On z g d=true<->Gat (On z cs) (On z l) e d)(d:Int):(On z cr d=true/\On z g d=true)<->UpJ e n1 b1 n2 b2 d:=by
 have sh:∀i:Nat,d-e*(i:Int)-e=d-e*((i+1:Nat):Int):=fun i=>by rw[ko,ja3];simp;lia
 rw[oR,og];refine and_congr_right fun _=>⟨fun ⟨j,ht,hb⟩=>⟨j,by rw[<-oS];exact ht,fun i i0 hi=>?_⟩,fun⟨j,ht,hb⟩=>⟨j,by rw[oS];exact ht,fun i hi=>by rw[oL,oR,sh];exact hb _ ⋯ ⋯⟩⟩;obtain⟨k,rfl⟩:∃k,i=k+1:=⟨i-1,⋯⟩;have:=hb k ⋯
 rwa [oL,oR,sh] at this
theorem lZ{t ce:Nat}:UpJ 1 n1 t n2 ce d<->GUp (On n1 t) (On n2 ce) d:=by
 refine and_congr_right fun _=>?_;constructor
 ·rintro⟨j,h1,h2⟩;refine⟨_,h1,⋯,fun r r1 r2=>?_⟩;have:=h2 (d-r).toNat ⋯ ⋯;rw[show d-1*(((d-r).toNat:Nat):Int)=r by lia] at this;exact this
 ·rintro⟨s,h1,h2,h3⟩;exact⟨(d-s).toNat,by rw[show d-1*(((d-s).toNat:Nat):Int)=s by lia];exact h1,fun i i0 hi=>h3 _ ⋯ ⋯⟩
theorem eF{t ce:Nat}:UpJ (-1) n1 t n2 ce d<->GUn (On n1 t) (On n2 ce) d:=by
 refine and_congr_right fun _=>?_;constructor
 ·rintro⟨j,h1,h2⟩;refine⟨_,h1,⋯,fun r r1 r2=>?_⟩;have:=h2 (r-d).toNat ⋯ ⋯;rw[show d- -1*(((r-d).toNat:Nat):Int)=r by lia] at this;exact this
 ·rintro⟨s,h1,h2,h3⟩;exact⟨(s-d).toNat,by rw[show d- -1*(((s-d).toNat:Nat):Int)=s by lia];exact h1,fun i i0 hi=>h3 _ ⋯ ⋯⟩
def TiU:rT:=fun n1 b1 n2 b2 d=>GTi (On n1 b1) (On n2 b2) d
def NrU:rT:=fun n1 b1 n2 b2 d=>GNr (On n1 b1) (On n2 b2) d
def KtU(k:Int):rT:=fun n1 b1 n2 b2 d=>Kth n1 b1 n2 b2 k d
noncomputable def bn(a b:Bool):Bool:=a&&!b
theorem O9{T B:Int->Bool}(k:Nat)(d:Int)(u v:Bool)(hu:u=true<->Gt T B e k d)(hv:v=true<->Gt T B e k (d-e*(k:Int))/\Fre B e k d):(or u v=true<->Gt T B e (2*k) d):=by
 rw[Gt.step,je9,hu,hv]
theorem Zo{T B:Int->Bool}(k:Nat)(d:Int)(u v:Bool)(hu:u=true<->cG T B e k d%2=1)(hv:v=true<->cG T B e k (d-e*(k:Int))%2=1/\Fre B e k d):((xor u v)=true<->cG T B e (2*k) d%2=1):=by
 rw[ABL,<-hu,<-hv];cases u<;>cases v<;>simp
theorem rG{T B:Int->Bool}:T d=true<->cG T B e 1 d%2=1:=by
 unfold cG;cases T d<;>simp[cG]
theorem qF{p:Int}{t g t' ce kk:Nat}(hB:∀d,Bar (On z ce) e z.toNat d)(kn:z.toNat<=kk)(og:∀d,On z g d=true<->cG (On z t) (On z ce) e kk d%2=1)(oB:∀d,On z c d=(On z t d&&On z g d))(p1:1<p)(h1:p%2=1->∀d,On z t' d=On z c d)(h2:¬p%2=1->∀d,On z t' d=(On z t d&&!On z c d))(d:Int):
 (On z t' d=true/\(cG (On z t') (On z ce) e z.toNat d:Int)=(p+1)/2)<->(On z t d=true/\(cG (On z t) (On z ce) e z.toNat d:Int)=p):=by
 have oc:∀d,On z c d=true<->On z t d=true/\cG (On z t) (On z ce) e z.toNat d%2=1:=fun d=>by
  rw[oB,vi,og,YW (hB d) kn]
 by_cases h:p%2=1
 ·have hT:∀d,On z t' d=true<->On z t d=true/\cG (On z t) (On z ce) e z.toNat d%2=1:=fun d=>by rw[h1 h,oc]
  rw[rH hB hT z.toNat d (hB d),hT];generalize cG (On z t) (On z ce) e z.toNat d=m;constructor
  ·rintro⟨⟨g1,g2⟩,g3⟩;exact⟨g1,⋯⟩
  ·rintro⟨g1,g2⟩;exact⟨⟨g1,⋯⟩,⋯⟩
 ·have hT:∀d,On z t' d=true<->On z t d=true/\cG (On z t) (On z ce) e z.toNat d%2=0:=fun d=>by
   rw[h2 h,vi,Bool.not_eq_true',<-jo2,oc];generalize cG (On z t) (On z ce) e z.toNat d=m;constructor
   ·rintro⟨g1,g2⟩;refine⟨g1,?_⟩;by_cases o:m%2=1
    ·exact absurd ⟨g1,o⟩ g2
    ·lia
   ·rintro⟨g1,g2⟩;exact⟨g1,fun⟨_,o⟩=>⋯⟩
  rw[gw hB hT z.toNat d (hB d),hT];generalize cG (On z t) (On z ce) e z.toNat d=m;constructor
  ·rintro⟨⟨g1,g2⟩,g3⟩;exact⟨g1,⋯⟩
  ·rintro⟨g1,g2⟩;exact⟨⟨g1,⋯⟩,⋯⟩
theorem d9(z d:Int):On z 0 d=false:=by
 unfold On;exact jd5 _
theorem vN{k p p0:Int}{t ce:Nat}(z0:0<z)(d2:n2∣z)(h1:0<n1)(k0:k≠0)(hek:e=if 0<k then 1 else -1)(ap:p0=(k.natAbs:Int))(oe:∀d,On z ce d=On n2 b2 (if 0<k then d else d+1))
 (hT:(∀d,Bar (On z ce) e z.toNat d)->∀d,(On z t d=true/\(cG (On z t) (On z ce) e z.toNat d:Int)=p)<->(On n1 b1 d=true/\(cG (On n1 b1) (On z ce) e z.toNat d:Int)=p0))(hp:p=1\/t=0)(d:Int):
 Kth n1 b1 n2 b2 k d<->UpJ e z t z ce d:=by
 unfold UpJ;have he:e=1\/e= -1:=by split at hek<;>lia
 by_cases hx:∃x,On n2 b2 x=true
 ·obtain⟨x,hx⟩:=hx;have pe:∀u v:Int,z∣u-v->On n2 b2 u=On n2 b2 v:=fun u v h=>Sv (ja2 d2 h);have hU:∀d,Bar (On n2 b2) 1 z.toNat d:=fun d=>rK z0 pe hx (.inl rfl) d;have hD:∀d,Bar (fun d=>On n2 b2 (d+1)) (-1) z.toNat d:=fun d=>rK (B:=fun d=>On n2 b2 (d+1)) z0 (fun u v h=>pe _ _ (by rw[show u+1-(v+1)=u-v by lia];exact h)) (x:=x-1) (by show On n2 b2 (x-1+1)=true;rw[show x-1+1=x by lia];exact hx) (.inr rfl) d;have key:(∀d,Bar (On z ce) e z.toNat d)/\(Kth n1 b1 n2 b2 k d<->On n1 b1 d=true/\cG (On n1 b1) (On z ce) e z.toNat d=k.natAbs):=by
   have kk:=AAi (n1:=n1) (b1:=b1) (d:=d) (k:=k) (B:=fun d=>On n2 b2 (d+1)) (fun _=>rfl) h1 hU hD k0;by_cases c:0<k
   ·have fe:On z ce=On n2 b2:=funext fun d=>by rw[oe,xy c]
    rw[xy c] at hek kk;rw[fe,hek];exact⟨hU,kk⟩
   ·have fe:On z ce=fun d=>On n2 b2 (d+1):=funext fun d=>by rw[oe,xp c]
    rw[xp c] at hek kk;rw[fe,hek];exact⟨hD,kk⟩
  obtain⟨hB,kk⟩:=key;have hTd:=hT hB d;rw[kk];have e1:(On n1 b1 d=true/\cG (On n1 b1) (On z ce) e z.toNat d=k.natAbs)<->(On n1 b1 d=true/\(cG (On n1 b1) (On z ce) e z.toNat d:Int)=p0):=by
   refine and_congr_right fun _=>?_;lia
  rw[e1,<-hTd];rcases hp with rfl | rfl
  ·refine and_congr_right fun td=>?_;rw[<-ABM hB td];lia
  ·rw[d9];simp
 ·constructor
  ·rintro⟨_,b,_,hb,_⟩;exact absurd ⟨b,hb⟩ hx
  ·rintro⟨_,j,hj,_⟩;rw[oe] at hj;exact absurd ⟨_,hj⟩ hx
section
variable(K:Fr)
def spJ(R:Rel):Sp:=fun vs H Q _=>Ex6 fun(a1 a2:Addr) (n1 n2:Int) (b1 b2:Nat)=>An4 (vs=[.ref a1,.ref a2]) (rZ K H a1 a2 n1 n2 b1 b2) (Bj n1 n2<=150000) (∀(p:Addr) (c:Nat) (H':Hp),Az H H'->H' p=some (.tup [.int (Bj n1 n2),.int (c:Int)])->c<2^(Bj n1 n2).toNat->R n1 b1 n2 b2 (Bj n1 n2) c->Q (.ref p) H')
def ACO(mg:Str->Option Value)(L:List (Str×Sp)):Sp:=fun vs H Q _=>wV fun(a1 a2 f:Addr) (n e:Int) (b c:Nat) (x:Str) (J:Bool->Bool->Bool) (G:Nat->Int->Prop)=>ADe (vs=[.ref a1,.ref a2,.int e,.ref f]) ((x,spJ K (Bo J))∈L) (mg x=some (.ref f)) (H a1=some (.tup [.int n,.int (b:Int)])) (SqT K H a2 [.int n,.int (c:Int)]) (0<n) (n<=150000) (b<2^n.toNat) (c<2^n.toNat) (e=1\/e= -1) (∀d,On n b d=true<->G 1 d) (∀k d u v,(u=true<->G k d)->(v=true<->G k (d-e*(k:Int))/\Fre (On n c) e k d)->(J u v=true<->G (2*k) d)) (∀(p:Addr) (g:Nat) (H':Hp) (k:Nat),n.toNat<=k->Az H H'->H' p=some (.tup [.int n,.int (g:Int)])->g<2^n.toNat->(∀d,On n g d=true<->G k d)->Q (.ref p) H')
def ACG:Sp:=fun vs H Q _=>Ex3 fun(a:Addr) (n:Int) (b:Nat)=>An6 (vs=[.ref a]) (SqT K H a [.int n,.int (b:Int)]) (0<n) (n<=150000) (b<2^n.toNat) (∀(p:Addr) (c:Nat) (H':Hp),Az H H'->H' p=some (.tup [.int n,.int (c:Int)])->c<2^n.toNat->(∀d,On n c d=true<->Wq (On n b) d)->Q (.ref p) H')
def ADk:Sp:=fun vs H Q _=>Ex7 fun(k:Int) (a1 a2:Addr) (n1 n2:Int) (b1 b2:Nat)=>An5 (vs=[.int k,.ref a1,.ref a2]) (rZ K H a1 a2 n1 n2 b1 b2) (k≠0) (Bj n1 n2<=150000) (∀(p:Addr) (c:Nat) (H':Hp),Az H H'->H' p=some (.tup [.int (Bj n1 n2),.int (c:Int)])->c<2^(Bj n1 n2).toNat->WR (KtU k) n1 b1 n2 b2 (Bj n1 n2) c->Q (.ref p) H')
end
theorem ABg{mg:Str->Option Value}{a1 a2 fe:Addr}{t:Int}{u:TE}(ht:t=1\/t= -1)(ve:mg "either"=some (.ref fe))(hu:∀{Z:L2.St} {H:Hp} {Q:VK},Q (.int t) H->u Z H Q)(W:rZ K H a1 a2 n1 n2 b1 b2)(lz:Bj n1 n2<=150000)
 (q:∀(p:Addr) (c:Nat) (H':Hp),Az H H'->H' p=some (.tup [.int (Bj n1 n2),.int (c:Int)])->c<2^(Bj n1 n2).toNat->WR (UpJ t) n1 b1 n2 b2 (Bj n1 n2) c->Q (.ref p) H'):
 tO (bI (Jl (ACR K) [] E0 (Ex (Gp 0) (Ex (Gp 1) Iz))) (Hk 2)) (tO (bI (Jl (Ig K) [] E0 (Ex (Gp 0) (Ex (Gp 2) Iz))) (Hk 3)) (yV (Jl (spJ K (Bo and)) [] E0 (Ex (Gp 3) (Ex (Jl (ACO K mg [("either",spJ K (Bo or)),("unlike",spJ K (Bo xor))]) [] E0 (Ex (Jl (Ig K) [] E0 (Ex (Gp 1) (Ex (Gp 2) Iz))) (Ex (Jl (fG K) [] E0 (Ex (Gp 3) (Ex u Iz))) (Ex u (Ex (tC (.ref fe)) Iz))))) Iz))))) { nx:=fun _ H'=>Q .non H',rt:=Q } (L2.start ["R","S","size","days"] [.ref a1,.ref a2]) H:=by
 have fl:=BV W.p1 W.p2;symm;refine⟨a1,a2,n1,n2,b1,b2,rfl,W.s1,W.s2,W.p1,W.p2,W.l1,W.l2,lz,fun H1 s1=>?_⟩;generalize hz:Bj n1 n2=z at*
 have z0:=fl.1;have d1:n1∣z:=fl.2.1;have d2:n2∣z:=fl.2.2.1;have ls:=lcm_self z0;symm;refine⟨a1,n1,z,b1,rfl,s1.tup W.s1,W.p1,W.l1,W.k1,z0,lz,d1,fun pr cr hr1 Sr=>?_⟩;exists fresh hr1 fun H2 s2 t2=>?_;refine⟨a2,n2,z,b2,rfl,s2.tup (s1.tup W.s2),W.p2,W.l2,W.k2,z0,lz,d2,fun ps cs hs1 Ss=>?_⟩;exists fresh hs1 fun H3 s3 t3=>?_;refine hu ?_;refine⟨pr,z,_,cr,rfl,s3.tup (SqT.of t2),z0,lz,Sr.lt,fun pl hl1=>?_⟩;exists fresh hl1 fun H4 s4 t4=>?_;exists hu ?_;refine⟨ps,pl,_,z,t,cs,_,_,or,Gt (On z cs) (On z (lat z.toNat cr (t%z).toNat)) t,rfl,qc,ve,s4 _ _ t3,SqT.of t4,z0,lz,Ss.lt,Ob _ _ _,ht,fun d=>Gt.one.symm,O9,fun pg g H5 k kn s5 t5 lg og0=>?_⟩;have en:((z.toNat:Nat):Int)=z:=⋯;have og:∀d,On z g d=true<->Gat (On z cs) (On z (lat z.toNat cr (t%z).toNat)) t d:=fun d=>by rw[og0,Gat.iff (n:=z.toNat) ⋯ kn (fun x y h=>Sv (en ▸ h)) (fun x y h=>Sv (en ▸ h))]
 symm;refine⟨pr,pg,z,z,cr,g,rfl,⟨s5.tup (s4.tup (s3.tup (SqT.of t2))),SqT.of t5,z0,z0,lz,lz,Sr.lt,lg⟩,by rw[ls];exact lz,fun p c H6 s6 t6 B R=>?_⟩;rw[ls] at t6 B R;refine q p c H6 (s1.trans (s2.trans (s3.trans (s4.trans (s5.trans s6))))) t6 B fun d=>?_;rw[R.self z0 d,vi];exact yN (HX.on W.p1 z0 d1 Sr) (HX.on W.p2 z0 d2 Ss) (fun d=>TF z0 Sr.lt) og d
noncomputable def tmV(t:Tm):List V:=[.int t.1,.int t.2.1,.int t.2.2.1,.int t.2.2.2]
inductive Tms(H:Hp):List V->List Tm->Prop
 | nil:Tms H [] []
 | cons {p:Addr} {t:Tm} {vs:List V} {ts:List Tm}:H p=some (.tup (tmV t))->Tms H vs ts->Tms H (.ref p::vs) (t::ts)
theorem Tms.same(s:Az H H'):∀{vs:List V} {ts:List Tm},Tms H vs ts->Tms H' vs ts
 | _,_,.nil=>.nil
 | _,_,.cons h t=>.cons (s _ _ h) (Tms.same s t)
theorem Tms.len:∀{vs:List V} {ts:List Tm},Tms H vs ts->vs.length=ts.length
 | _,_,.nil=>rfl
 | _,_,.cons _ t=>by rw[qr,qr,Tms.len t]
theorem Tms.mem{x:V}:∀{vs:List V} {ts:List Tm},Tms H vs ts->x∈vs->∃p t,x=.ref p/\t∈ts/\H p=some (.tup (tmV t))
 | _,_,.nil,h=>nomatch h
 | _,_,.cons g r,h=>by
  rcases zo.mp h with e | e
  ·exact⟨_,_,e,qc,g⟩
  ·obtain⟨p,t,e1,e2,e3⟩:=Tms.mem r e;exact⟨p,t,e1,qk _ e2,e3⟩
theorem Tms.at:∀{vs:List V} {ts:List Tm},Tms H vs ts->∀{i:Nat} {x:V},vs[i]?=some x->∃p t,x=.ref p/\ts[i]?=some t/\H p=some (.tup (tmV t))
 | _,_,.nil,i,x,h=>by simp at h
 | _,_,.cons g r,0,x,h=>by
  injection h with h;exact⟨_,_,h.symm,rfl,g⟩
 | _,_,.cons g r,i+1,x,h=>Tms.at r (i:=i) h
noncomputable def Uu(H:Hp)(v:V):Option Tm:=match v with
 | .ref p=>match H p with
  | some (.tup [.int s,.int a,.int b,.int n])=>some (s,a,b,n)
  | _=>none
 | _=>none
theorem JN{t:Tm}(h:H p=some (.tup (tmV t))):Uu H (.ref p)=some t:=by
 unfold Uu tmV at*
 simp only[h]
theorem Tms.fm(g:Tm->Bool)(f:Tm->V):∀{vs:List V} {ts:List Tm},Tms H vs ts->(vs.filter fun v=>((Uu H v).map g).getD false).map (fun v=>((Uu H v).map f).getD .non)=(ts.filter g).map f
 | _,_,.nil=>rfl
 | _,_,.cons (p:=p) (t:=t) h r=>by
  rw[ji7,ji7,JN h];show(if g t=true then _ else _:List V).map _=_;by_cases c:g t=true
  ·rw[xy c,xy c,zw,zw,Tms.fm g f r,JN h];rfl
  ·rw[xp c,xp c,Tms.fm g f r]
theorem rQ{t:Tm}:atI (tmV t) 0=some (V.int t.1):=rfl
theorem rP{t:Tm}:atI (tmV t) 1=some (V.int t.2.1):=rfl
theorem wJ{t:Tm}:atI (tmV t) 2=some (V.int t.2.2.1):=rfl
theorem Vd{t:Tm}:atI (tmV t) 3=some (V.int t.2.2.2):=rfl
structure TmT(K:Fr)(H:Hp)(p:Addr)(ts:List Tm):Prop where
 ex:∃vs,SqT K H p vs/\Tms H vs ts
 ok:∀t∈ts,OkT t
 few:ts.length<=6
variable{ts:List Tm}
theorem TmT.same(T:TmT K H p ts)(s:Az H H'):TmT K H' p ts:=by
 obtain⟨vs,h1,h2⟩:=T.ex;exact⟨⟨vs,s.tup h1,h2.same s⟩,T.ok,T.few⟩
def my:Sp:=fun vs H Q _=>Ex3 fun(p:Addr) (k:Int) (t:Tm)=>An5 (vs=[.ref p,.int k]) (H p=some (.tup (tmV t))) (OkT t) (Bt 400 k) (Q (.bl (onT t k)) H)
def tX(K:Fr):Sp:=fun vs H Q _=>Ex3 fun(p:Addr) (k:Int) (ts:List Tm)=>An4 (vs=[.ref p,.int k]) (TmT K H p ts) (Bt 400 k) (∀H',Az H H'->Q (.int (SU ts k)) H')
def nM:Sp:=fun vs H Q _=>Ex2 fun(p:Addr) (t:Tm)=>An4 (vs=[.ref p]) (H p=some (.tup (tmV t))) (OkT t) (Q (.bl true) H)
def uI(K:Fr):Sp:=fun vs H Q _=>Ex3 fun(p:Addr) (b:Int) (ts:List Tm)=>An3 (vs=[.int b,.ref p]) (TmT K H p ts) (∀H',Az H H'->Q (.int (b-falls ts)) H')
structure Wo(b:Int)(ts:List Tm):Prop where
 b0:0<=b
 b1:b<=20000
 fl:falls ts<=b
def ir(K:Fr):Sp:=fun vs H Q _=>Ex3 fun(p:Addr) (b:Int) (ts:List Tm)=>An4 (vs=[.int b,.ref p]) (TmT K H p ts) (Wo b ts) (∀H',Az H H'->Q .non H')
def nG(K:Fr):Sp:=fun vs H Q _=>Ex2 fun(p:Addr) (ts:List Tm)=>An3 (vs=[.ref p]) (TmT K H p ts) (∀H',Az H H'->Q (.int (PER ts)) H')
theorem MJ(h:∀t∈ts,OkT t):∀(i:Nat),i<=6->0<PER (ts.take i)/\PER (ts.take i)<=1000^i
 | 0,_=>⟨(show (0:Int)<1 by decide),(show (1:Int)<=1 by decide)⟩
 | i+1,hi=>by
  obtain⟨h1,h2⟩:=MJ h i ⋯;rw[kx];cases e:ts[i]? with
  | none=>
   simp only[Option.toList_none,yy];refine⟨h1,jj7 h2 ?_⟩;rw[Int.pow_succ];have:(0:Int)<1000^i:=Int.pow_pos nofun;lia
  | some t=>
   have ok:=h t (zk e);have e2:PER (ts.take i++(some t).toList)=Bj (PER (ts.take i)) t.2.2.2:=by
    unfold PER;rw[jd3,List.foldl_append];rfl
   rw[e2];have n0:=ok.n0;refine⟨(BV h1 ⋯).1,jj7 (vL h1 ⋯) ?_⟩;rw[Int.pow_succ];exact vt h2 ok.n1 ⋯ (jd4 (Int.pow_pos nofun))
theorem AAG{i:Nat}(h:i<=6):(1000:Int)^i<=1000000000000000000:=by
 have:=kc (n:=1000) nofun h;rw[show(1000:Int)^i=((1000^i:Nat):Int) from(jh4 1000 i).symm];lia
theorem fW(h:∀t∈ts,OkT t):∀(i:Nat),i<=6->∀t∈ts.take i,t.2.2.2∣PER (ts.take i)
 | 0,_=>fun t ht=>by simp at ht
 | i+1,hi=>by
  obtain⟨h1,_⟩:=MJ h i ⋯;have ih:=fW h i ⋯;rw[kx];cases e:ts[i]? with
  | none=>
   simp only[Option.toList_none,yy];exact ih
  | some u=>
   have ok:=h u (zk e);have e2:PER (ts.take i++(some u).toList)=Bj (PER (ts.take i)) u.2.2.2:=by
    unfold PER;rw[jd3,List.foldl_append];rfl
   have n0:=ok.n0;have f:=BV h1 (show 0<u.2.2.2 by lia);rw[e2];intro t ht;rcases yi.mp ht with z | z
   ·exact ja2 (ih t z) f.2.1
   ·rw[jd3,xc] at z;subst z;exact f.2.2.1
noncomputable def mF(b:Int)(p:Addr)(c s:Int):List (Str×V):=[("base",.int b),("terms",.ref p),("full_count",.int c),("full_sum",.int s)]
structure Me(K:Fr)(C:Addr)(H:Hp)(x:Addr)(b:Int)(ts:List Tm):Prop where
 ex:∃dx p,H x=some (.ins C dx (mF b p (PER ts) (UP b ts (PER ts))))/\TmT K H p ts
 gd:Wo b ts
 po:0<UP b ts (PER ts)
def yf(K:Fr)(C:Addr):Sp:=fun vs H Q _=>Ex7 fun(x p dx:Addr) (k b:Int) (ts:List Tm) (fs:List (Str×V))=>An9 (vs=[.ref x,.int k]) (H x=some (.ins C dx fs)) (fs.lookup (Str.ofString "base")=some (V.int b)) (fs.lookup (Str.ofString "terms")=some (V.ref p)) (TmT K H p ts) (0<=b) (b<=20000) (Bt 400 k) (∀H',Az H H'->Q (.int (UP b ts k)) H')
def W5(K:Fr)(C:Addr):Sp:=fun vs H Q _=>Ex6 fun(x dx:Addr) (b:Int) (v:V) (us:List V) (ts:List Tm)=>An9 (vs=[.ref x,.int b,v]) (H x=some (.ins C dx [])) (Tms H us ts) (( v=.non/\us=[])\/∃l,v=.ref l/\H l=some (.lst us)) (∀t∈ts,OkT t) (ts.length<=6) (Wo b ts) (0<UP b ts (PER ts)) (∀H',(∀y o,y≠x->H y=some o->H' y=some o)->Me K C H' x b ts->Q .non H')
theorem Me.same{C:Addr}{b:Int}(M:Me K C H x b ts)(s:Az H H'):Me K C H' x b ts:=by
 obtain⟨dx,p,e,T⟩:=M.ex;exact⟨⟨dx,p,s _ _ e,T.same s⟩,M.gd,M.po⟩
theorem Me.meth{C:Addr}{b:Int}(M:Me K C H x b ts):∃dx fs,H x=some (.ins C dx fs)/\fs.lookup (Str.ofString "seek")=none/\fs.lookup (Str.ofString "at")=none/\fs.lookup (Str.ofString "upto")=none/\fs.lookup (Str.ofString "period")=none:=by
 obtain⟨dx,p,e,T⟩:=M.ex;exact⟨dx,_,e,rfl,rfl,rfl,rfl⟩
def ADm(K:Fr)(C:Addr):Sp:=fun vs H Q _=>Ex4 fun(x:Addr) (k b:Int) (ts:List Tm)=>An4 (vs=[.ref x,.int k]) (Me K C H x b ts) (Bt 400 k) (∀H',Az H H'->Q (.int (AT b ts k)) H')
def ABw(K:Fr)(C:Addr):Sp:=fun vs H Q _=>Ex3 fun(x:Addr) (b:Int) (ts:List Tm)=>An3 (vs=[.ref x]) (Me K C H x b ts) (Q (.int (PER ts)) H)
theorem X4{C:Addr}{dx:Addr}{b:Int}{v:V}{us:List V}(hx:H1 x=none)(hdx:H1 dx=none)(ne:dx≠x)(hT:Tms H1 us ts)(hv:(v=.non/\us=[])\/∃l,v=.ref l/\H1 l=some (.lst us))(ok:∀t∈ts,OkT t)(few:ts.length<=6)(g:Wo b ts)(po:0<UP b ts (PER ts))
 (q:∀H',Az H1 H'->Me K C H' x b ts->Q .non H'):W5 K C [.ref x,.int b,v] (upd (upd H1 dx (.own x)) x (.ins C dx [])) Q E:=by
 have k4:Az H1 (upd (upd H1 dx (.own x)) x (.ins C dx [])):=(Ar hdx _).trans (Ar (by rw[BK (Ne.symm ne)];exact hx) _);have x4:upd (upd H1 dx (.own x)) x (.ins C dx []) x=some (.ins C dx []):=Am;refine⟨x,dx,b,v,us,ts,rfl,x4,hT.same k4,?_,ok,few,g,po,fun H5 k5 M=>q _ (fun y o h=>k5 y o (fun e=>by subst e;rw[hx] at h;cases h) (k4 y o h)) M⟩;rcases hv with z | ⟨l,z,e⟩
 ·exact .inl z
 ·exact .inr ⟨l,z,k4 _ _ e⟩
def But(l:Addr)(H H':Hp):Prop:=∀y o,y≠l->H y=some o->H' y=some o
variable{l:Addr}
theorem But.upd:But l H (L2.upd H l o):=fun y o hy h=>by rw[BK hy];exact h
structure NoT(o:HO):Prop where
 t:∀vs,o≠.tup vs
 f:∀ob u,o≠.frz ob u
variable{xs:List V}
theorem NoT.lst:NoT (.lst xs):=⟨fun _ z=>(nomatch z),fun _ _ z=>(nomatch z)⟩
theorem NoT.ins{C d:Addr}{fs:List (Str×V)}:NoT (.ins C d fs):=⟨fun _ z=>(nomatch z),fun _ _ z=>(nomatch z)⟩
theorem Tms.but(hl:H l=some o)(no:NoT o)(k:But l H H'):∀{vs:List V} {ts:List Tm},Tms H vs ts->Tms H' vs ts
 | _,_,.nil=>.nil
 | _,_,.cons g r=>.cons (k _ _ (Hj g hl (Ne.symm (no.t _))) g) (Tms.but hl no k r)
theorem eY{vs:List V}(hl:H l=some o)(no:NoT o)(k:But l H H')(h:SqT K H p vs):SqT K H' p vs:=by
 rcases h with (h | ⟨o,h⟩) | h
 ·exact .inl (.inl (k _ _ (Hj h hl (Ne.symm (no.t _))) h))
 ·exact .inl (.inr ⟨o,k _ _ (Hj h hl (Ne.symm (no.f _ _))) h⟩)
 ·exact .inr h
theorem TmT.but(hl:H l=some o)(no:NoT o)(k:But l H H')(T:TmT K H p ts):TmT K H' p ts:=by
 obtain⟨vs,h1,h2⟩:=T.ex;exact⟨⟨vs,eY hl no k h1,h2.but hl no k⟩,T.ok,T.few⟩
theorem Me.butX{C:Addr}{b:Int}(M:Me K C H x b ts)(hl:H l=some o)(no:NoT o)(ne:x≠l)(k:But l H H'):Me K C H' x b ts:=by
 obtain⟨dx,p,e,T⟩:=M.ex;exact⟨⟨dx,p,k _ _ ne e,T.but hl no k⟩,M.gd,M.po⟩
theorem Me.but{C:Addr}{b:Int}(M:Me K C H x b ts)(hl:H l=some (.lst xs))(k:But l H H'):Me K C H' x b ts:=by
 obtain⟨dx,p,e,T⟩:=M.ex;exact M.butX hl .lst (Hj e hl (by intro z;cases z)) k
theorem Hl.gm{ls:List Int}{lp:Int}(g:Hl ls lp ts):Wo ls.sum ts:=⟨g.sum.1,g.sum.2,jd4 g.f1⟩
theorem Q0(ok:∀t∈ts,OkT t)(few:ts.length<=6):0<PER ts/\PER ts<=1000000000000000000/\∀t∈ts,t.2.2.2∣PER ts:=by
 obtain⟨h1,h2⟩:=MJ ok 6 nofun;have hd:=fW ok 6 nofun;rw[uk few] at h1 h2 hd;exact⟨h1,jj7 h2 (AAG nofun),hd⟩
theorem Hl.po{ls:List Int}{lp:Int}(g:Hl ls lp ts):0<UP ls.sum ts (PER ts):=Yb g.ok g.f1 (Q0 g.ok g.few).1
noncomputable def sF(s lp:Int)(p y:Addr):List (Str×V):=[("start",.int s),("months",.ref p),("leap",.int lp),("years",.ref y)]
structure JL(K:Fr)(CS CM:Addr)(H:Hp)(x:Addr)(s:Int)(ls:List Int)(lp:Int)(ts:List Tm):Prop where
 ex:∃dx p y,H x=some (.ins CS dx (sF s lp p y))/\SqT K H p (ls.map V.int)/\Me K CM H y ls.sum ts
 gd:Hl ls lp ts
 bs:Bt 290 s
section
variable{K:Fr}{CS CM:Addr}{H H':Hp}{x:Addr}{s:Int}{ls:List Int}{lp:Int}{ts:List Tm}
theorem JL.same(S:JL K CS CM H x s ls lp ts)(e:Az H H'):JL K CS CM H' x s ls lp ts:=by
 obtain⟨dx,p,y,h1,h2,h3⟩:=S.ex;exact⟨⟨dx,p,y,e _ _ h1,e.tup h2,h3.same e⟩,S.gd,S.bs⟩
theorem JL.but(S:JL K CS CM H x s ls lp ts)(hl:H l=some (.lst xs))(k:But l H H'):JL K CS CM H' x s ls lp ts:=by
 obtain⟨dx,p,y,h1,h2,h3⟩:=S.ex;exact⟨⟨dx,p,y,k _ _ (Hj h1 hl (by intro z;cases z)) h1,eY hl .lst k h2,h3.but hl k⟩,S.gd,S.bs⟩
theorem JL.meth(S:JL K CS CM H x s ls lp ts):∃dx fs,H x=some (.ins CS dx fs)/\fs.lookup (Str.ofString "year_start")=none/\fs.lookup (Str.ofString "year_at")=none/\fs.lookup (Str.ofString "lengths")=none/\fs.lookup (Str.ofString "cycle")=none/\fs.lookup (Str.ofString "date_of")=none/\fs.lookup (Str.ofString "day_of")=none:=by
 obtain⟨dx,p,y,e,_⟩:=S.ex;exact⟨dx,_,e,rfl,rfl,rfl,rfl,rfl,rfl⟩
end
def tZ(K:Fr):Sp:=fun vs H Q _=>Ex4 fun(l:Addr) (lp:Int) (ls:List Int) (ts:List Tm)=>An4 (vs=[.ref l,.int lp]) (SqL K H l (ls.map V.int)) (Hl ls lp ts) (Q .non H)
def Qv(K:Fr)(CS CM:Addr):Sp:=fun vs H Q _=>Ex9 fun(x dx ll:Addr) (s lp:Int) (v:V) (us:List V) (ls:List Int) (ts:List Tm)=>An8 (vs=[.ref x,.int s,.ref ll,.int lp,v]) (H x=some (.ins CS dx [])) (H ll=some (.lst (ls.map V.int))) (Tms H us ts) (( v=.non/\us=[])\/∃l,v=.ref l/\H l=some (.lst us)) (Hl ls lp ts) (Bt 290 s) (∀H',(∀y o,y≠x->H y=some o->H' y=some o)->JL K CS CM H' x s ls lp ts->Q .non H')
theorem qO{CS CM:Addr}{dx ll:Addr}{s lp:Int}{v:V}{us:List V}{ls:List Int}(hx:H1 x=none)(hdx:H1 dx=none)(ne:dx≠x)(hl:H1 ll=some (.lst (ls.map V.int)))(hT:Tms H1 us ts)(hv:(v=.non/\us=[])\/∃l,v=.ref l/\H1 l=some (.lst us))(g:Hl ls lp ts)(bs:Bt 290 s)
 (q:∀H',Az H1 H'->JL K CS CM H' x s ls lp ts->Q .non H'):Qv K CS CM [.ref x,.int s,.ref ll,.int lp,v] (upd (upd H1 dx (.own x)) x (.ins CS dx [])) Q E:=by
 have k4:Az H1 (upd (upd H1 dx (.own x)) x (.ins CS dx [])):=(Ar hdx _).trans (Ar (by rw[BK (Ne.symm ne)];exact hx) _);have x4:upd (upd H1 dx (.own x)) x (.ins CS dx []) x=some (.ins CS dx []):=Am;refine⟨x,dx,ll,s,lp,v,us,ls,ts,rfl,x4,k4 _ _ hl,hT.same k4,?_,g,bs,fun H5 k5 M=>q _ (fun y o h=>k5 y o (fun e=>by subst e;rw[hx] at h;cases h) (k4 y o h)) M⟩;rcases hv with z | ⟨l,z,e⟩
 ·exact .inl z
 ·exact .inr ⟨l,z,k4 _ _ e⟩
def ABs(K:Fr)(CS CM:Addr):Sp:=fun vs H Q _=>Ex6 fun(x:Addr) (n s:Int) (ls:List Int) (lp:Int) (ts:List Tm)=>An4 (vs=[.ref x,.int n]) (JL K CS CM H x s ls lp ts) (Bt 390 n) (∀H',Az H H'->Q (.int (s+UP ls.sum ts n)) H')
def nJ(K:Fr)(CS CM:Addr):Sp:=fun vs H Q _=>Ex6 fun(x:Addr) (n s:Int) (ls:List Int) (lp:Int) (ts:List Tm)=>An4 (vs=[.ref x,.int n]) (JL K CS CM H x s ls lp ts) (Bt 390 n) (∀(p:Addr) H',H p=none->Az H H'->H' p=some (.lst ((Vf ls lp ts n).map V.int))->Q (.ref p) H')
def xN(K:Fr)(CS CM:Addr):Sp:=fun vs H Q _=>Ex5 fun(x:Addr) (s:Int) (ls:List Int) (lp:Int) (ts:List Tm)=>An3 (vs=[.ref x]) (JL K CS CM H x s ls lp ts) (∀(p:Addr) H',Az H H'->H' p=some (.tup [.int (PER ts),.int (UP ls.sum ts (PER ts))])->Q (.ref p) H')
theorem yG{n:Nat}{b:Int}(h:∀t∈ts,OkT t)(b0:0<=b)(b1:b<=20000)(few:ts.length<=6){k:Int}(bk:Bt n k):Bt (n+16) (UP b ts k):=by
 have:=rY h b0 b1 few (k:=k) (K:=(k.natAbs:Int)) ⋯ ⋯;unfold Bt at*
 rw[jp5];lia
noncomputable def moF(s:Int)(d m:Addr):List (Str×V):=[("start",.int s),("days",.ref d),("many",.ref m)]
structure Gn(K:Fr)(CO CM:Addr)(H:Hp)(x:Addr)(s bd:Int)(td:List Tm)(bm:Int)(tm:List Tm):Prop where
 ex:∃dx d m,H x=some (.ins CO dx (moF s d m))/\Me K CM H d bd td/\Me K CM H m bm tm
 gd:Iv bd td bm tm
 bs:Bt 290 s
section
variable{K:Fr}{CO CM:Addr}{H H':Hp}{x:Addr}{s bd:Int}{td:List Tm}{bm:Int}{tm:List Tm}
theorem Gn.same(S:Gn K CO CM H x s bd td bm tm)(e:Az H H'):Gn K CO CM H' x s bd td bm tm:=by
 obtain⟨dx,d,m,h1,h2,h3⟩:=S.ex;exact⟨⟨dx,d,m,e _ _ h1,h2.same e,h3.same e⟩,S.gd,S.bs⟩
theorem Gn.but(S:Gn K CO CM H x s bd td bm tm)(hl:H l=some (.lst xs))(k:But l H H'):Gn K CO CM H' x s bd td bm tm:=by
 obtain⟨dx,d,m,h1,h2,h3⟩:=S.ex;exact⟨⟨dx,d,m,k _ _ (Hj h1 hl (by intro z;cases z)) h1,h2.but hl k,h3.but hl k⟩,S.gd,S.bs⟩
theorem Gn.meth(S:Gn K CO CM H x s bd td bm tm):∃dx fs,H x=some (.ins CO dx fs)/\fs.lookup (Str.ofString "year_start")=none/\fs.lookup (Str.ofString "year_at")=none/\fs.lookup (Str.ofString "lengths")=none/\fs.lookup (Str.ofString "cycle")=none/\fs.lookup (Str.ofString "date_of")=none/\fs.lookup (Str.ofString "day_of")=none:=by
 obtain⟨dx,d,m,e,_⟩:=S.ex;exact⟨dx,_,e,rfl,rfl,rfl,rfl,rfl,rfl⟩
end
def tY(K:Fr)(C:Addr):Sp:=fun vs H Q _=>Ex4 fun(y:Addr) (b g:Int) (ts:List Tm)=>An5 (vs=[.ref y,.int g]) (Me K C H y b ts) (falls ts<b) (b<=g) (∀H',Az H H'->Q .non H')
def Yt(K:Fr)(CO CM:Addr):Sp:=fun vs H Q _=>Ex9 fun(x dx d m:Addr) (s bd bm:Int) (td tm:List Tm)=>An7 (vs=[.ref x,.int s,.ref d,.ref m]) (H x=some (.ins CO dx [])) (Me K CM H d bd td) (Me K CM H m bm tm) (Iv bd td bm tm) (Bt 290 s) (∀H',(∀y o,y≠x->H y=some o->H' y=some o)->Gn K CO CM H' x s bd td bm tm->Q .non H')
theorem jx{CO CM:Addr}{dx d m:Addr}{s bd bm:Int}{td tm:List Tm}(hx:H1 x=none)(hdx:H1 dx=none)(ne:dx≠x)(hd:Me K CM H1 d bd td)(hm:Me K CM H1 m bm tm)(g:Iv bd td bm tm)(bs:Bt 290 s)
 (q:∀H',Az H1 H'->Gn K CO CM H' x s bd td bm tm->Q .non H'):Yt K CO CM [.ref x,.int s,.ref d,.ref m] (upd (upd H1 dx (.own x)) x (.ins CO dx [])) Q E:=by
 have k4:Az H1 (upd (upd H1 dx (.own x)) x (.ins CO dx [])):=(Ar hdx _).trans (Ar (by rw[BK (Ne.symm ne)];exact hx) _);have x4:upd (upd H1 dx (.own x)) x (.ins CO dx []) x=some (.ins CO dx []):=Am;exact⟨x,dx,d,m,s,bd,bm,td,tm,rfl,x4,hd.same k4,hm.same k4,g,bs,fun H5 k5 M=>q _ (fun y o h=>k5 y o (fun e=>by subst e;rw[hx] at h;cases h) (k4 y o h)) M⟩
def xK(K:Fr)(CO CM:Addr):Sp:=fun vs H Q _=>Ex7 fun(x:Addr) (n s bd bm:Int) (td tm:List Tm)=>An4 (vs=[.ref x,.int n]) (Gn K CO CM H x s bd td bm tm) (Bt 370 n) (∀H',Az H H'->Q (.int (MYS s bd td bm tm n)) H')
def fB(K:Fr)(CO CM:Addr):Sp:=fun vs H Q _=>Ex7 fun(x:Addr) (n s bd bm:Int) (td tm:List Tm)=>An4 (vs=[.ref x,.int n]) (Gn K CO CM H x s bd td bm tm) (Bt 370 n) (∀(p:Addr) H',H p=none->Az H H'->H' p=some (.lst ((dq bd td bm tm n).map V.int))->Q (.ref p) H')
theorem kO(xs:List Int){j:Nat}(hj:j<=xs.length):Io (xs.map V.int) none (some (j:Int))=(xs.take j).map V.int:=by
 unfold Io;rw[HT.sIx_none,HT.sIx_nat,jp,jm5 hj,jl1,Nat.sub_zero,List.map_take]
def FQ(K:Fr)(CS CO CM:Addr)(H:Hp)(x:Addr):Bq->Prop
 | .sun s ls lp ts=>JL K CS CM H x s ls lp ts
 | .moon s bd td bm tm=>Gn K CO CM H x s bd td bm tm
noncomputable def ACz:Bq->Bool
 | .sun .. =>true
 | .moon .. =>false
section
variable{K:Fr}{CS CO CM:Addr}{H H':Hp}{x:Addr}{d:Bq}
theorem FQ.same(S:FQ K CS CO CM H x d)(e:Az H H'):FQ K CS CO CM H' x d:=by
 cases d with
 | sun s ls lp ts=>exact JL.same S e
 | moon s bd td bm tm=>exact Gn.same S e
theorem FQ.but(S:FQ K CS CO CM H x d)(hl:H l=some (.lst xs))(k:But l H H'):FQ K CS CO CM H' x d:=by
 cases d with
 | sun s ls lp ts=>exact JL.but S hl k
 | moon s bd td bm tm=>exact Gn.but S hl k
theorem FQ.good(S:FQ K CS CO CM H x d):d.good:=by
 cases d with
 | sun s ls lp ts=>exact JL.gd S
 | moon s bd td bm tm=>exact Gn.gd S
theorem FQ.ys(S:FQ K CS CO CM H x d):∃C dx fs sp,(C,sp)∈[(CS,ABs K CS CM),(CO,xK K CO CM)]/\H x=some (.ins C dx fs)/\fs.lookup (Str.ofString "year_start")=none/\
 ∀{H2:Hp} {n:Int} {Q:VK} {E:XK},FQ K CS CO CM H2 x d->Bt 370 n->(∀H',Az H2 H'->Q (.int (d.Y n)) H')->sp [.ref x,.int n] H2 Q E:=by
 cases d with
 | sun s ls lp ts=>
  obtain⟨dx,fs,e,m⟩:=JL.meth S;exact⟨CS,dx,fs,_,qc,e,m.1,fun S2 bn q=>⟨x,_,s,ls,lp,ts,rfl,S2,bn.mono nofun,q⟩⟩
 | moon s bd td bm tm=>
  obtain⟨dx,fs,e,m⟩:=Gn.meth S;exact⟨CO,dx,fs,_,qk _ qc,e,m.1,fun S2 bn q=>⟨x,_,s,bd,bm,td,tm,rfl,S2,bn,q⟩⟩
theorem FQ.le(S:FQ K CS CO CM H x d):∃C dx fs sp,(C,sp)∈[(CS,nJ K CS CM),(CO,fB K CO CM)]/\H x=some (.ins C dx fs)/\fs.lookup (Str.ofString "lengths")=none/\
 ∀{H2:Hp} {n:Int} {Q:VK} {E:XK},FQ K CS CO CM H2 x d->Bt 370 n->(∀(p:Addr) H',H2 p=none->Az H2 H'->H' p=some (.lst ((d.L n).map V.int))->Q (.ref p) H')->sp [.ref x,.int n] H2 Q E:=by
 cases d with
 | sun s ls lp ts=>
  obtain⟨dx,fs,e,m⟩:=JL.meth S;exact⟨CS,dx,fs,_,qc,e,m.2.2.1,fun S2 bn q=>⟨x,_,s,ls,lp,ts,rfl,S2,bn.mono nofun,q⟩⟩
 | moon s bd td bm tm=>
  obtain⟨dx,fs,e,m⟩:=Gn.meth S;exact⟨CO,dx,fs,_,qk _ qc,e,m.2.2.1,fun S2 bn q=>⟨x,_,s,bd,bm,td,tm,rfl,S2,bn,q⟩⟩
end
section
variable{K:Fr}{CS CO CM:Addr}{H H':Hp}{x:Addr}{d:Bq}
end
def yw:Sp:=fun _ _ _ _=>False
noncomputable def oI(o:Option Int):V:=match o with | none=>.non | some i=>.int i
def okM(m:Option Int):Prop:=∀i,m=some i->1<=i
def nH(K:Fr)(CO CM:Addr):Sp:=fun vs H Q _=>Ex6 fun(x:Addr) (s bd bm:Int) (td tm:List Tm)=>An3 (vs=[.ref x]) (Gn K CO CM H x s bd td bm tm) (∀(p:Addr) H',Az H H'->H' p=some (.tup [.int (PER tm*moT td bm tm),.int (UP bd td (UP bm tm (PER tm)*moT td bm tm))])->Q (.ref p) H')
theorem FQ.cyc{CS CO CM:Addr}{d:Bq}(S:FQ K CS CO CM H x d):∃C dx fs sp,(C,sp)∈[(CS,xN K CS CM),(CO,nH K CO CM)]/\H x=some (.ins C dx fs)/\fs.lookup (Str.ofString "cycle")=none/\
 ∀{H2:Hp} {Q:VK} {E:XK},FQ K CS CO CM H2 x d->(∀(p:Addr) H',Az H2 H'->H' p=some (.tup [.int d.cy.1,.int d.cy.2])->Q (.ref p) H')->sp [.ref x] H2 Q E:=by
 cases d with
 | sun s ls lp ts=>
  obtain⟨dx,fs,e,m⟩:=JL.meth S;exact⟨CS,dx,fs,_,qc,e,m.2.2.2.1,fun S2 q=>⟨x,s,ls,lp,ts,rfl,S2,q⟩⟩
 | moon s bd td bm tm=>
  obtain⟨dx,fs,e,m⟩:=Gn.meth S;exact⟨CO,dx,fs,_,qk _ qc,e,m.2.2.2.1,fun S2 q=>⟨x,s,bd,bm,td,tm,rfl,S2,q⟩⟩
noncomputable def plD(n i:Int):Int:=if 0<i then i-1 else n+i
noncomputable def YD(f n:Int)(d:Option Int):List Int:=match d with
 | none=>(List.range n.toNat).map fun i:Nat=>f+(i:Int)
 | some i=>if plD n i<0\/n<=plD n i then [] else [f+plD n i]
noncomputable def yrL:List Int->Int->Int->Option Int->Option Int->List Int
 | [],_,_,_,_=>[]
 | n::ls,f,k,m,i=>(if m=none\/m=some k then YD f n i else [])++yrL ls (f+n) (k+1) m i
theorem Wt{M:Int}:∀{ls:List Int},(∀n∈ls,0<=n/\n<=M)->0<=ls.sum/\ls.sum<=M*(ls.length:Int)
 | [],_=>⟨jh8 _,by simp⟩
 | a::ls,h=>by
  have:=Wt (ls:=ls) fun n hn=>h n (qk _ hn);have:=h a qc;have e:M*((a::ls).length:Int)=M*(ls.length:Int)+M:=by
   rw[qr,show((ls.length+1:Nat):Int)=(ls.length:Int)+1 by lia,ja3,jc9]
  rw[kz,e];lia
theorem RD:∀(l1 l2:List Int) (f k:Int) (m i:Option Int),yrL (l1++l2) f k m i=yrL l1 f k m i++yrL l2 (f+l1.sum) (k+(l1.length:Int)) m i
 | [],l2,f,k,m,i=>by
  show yrL l2 f k m i=[]++yrL l2 (f+0) (k+0) m i;rw[jk2,jd6,jd6]
 | n::l1,l2,f,k,m,i=>by
  show _++yrL (l1++l2) (f+n) (k+1) m i=(_++yrL l1 (f+n) (k+1) m i)++_;rw[RD l1 l2,jc4,kz,qr,show f+(n+l1.sum)=f+n+l1.sum by lia,show k+((l1.length+1:Nat):Int)=k+1+(l1.length:Int) by lia]
theorem lV{ls:List Int}{j:Nat}{n:Int}(h:ls[j]?=some n)(f:Int)(m i:Option Int):yrL (ls.take (j+1)) f 1 m i=yrL (ls.take j) f 1 m i++(if m=none\/m=some (1+(j:Int)) then YD (f+PS ls j) n i else []):=by
 have hj:=(qv.mp h).1;rw[kx,h,jd3,RD,je4,jm5 ⋯];show _++(_++[])=_;rw[yy];rfl
theorem gY{f n:Int}(n0:0<=n)(i:Option Int):((YD f n i).length:Int)<=n:=by
 unfold YD;cases i with
 | none=>
  simp only[jp,vc];lia
 | some i=>
  simp only[];generalize plD n i=pl;split<;>simp<;>lia
theorem ao:∀(ls:List Int) (f k:Int) (m i:Option Int),(∀n∈ls,0<=n)->((yrL ls f k m i).length:Int)<=ls.sum
 | [],f,k,m,i,_=>jh8 _
 | n::ls,f,k,m,i,h=>by
  have a:=ao ls (f+n) (k+1) m i fun x hx=>h x (qk _ hx);have n0:=h n qc;have b:=gY (f:=f) n0 i;show(((if m=none\/m=some k then YD f n i else [])++yrL ls (f+n) (k+1) m i).length:Int)<=(n::ls).sum;rw[zh,kz];split
  ·lia
  ·rw[jk1];lia
def tV:Sp:=fun vs H Q _=>Ex3 fun(m d:Option Int) (st:Int)=>An5 (vs=[oI m,oI d,.int st]) (okM m) (d≠some 0) (1<=st) (Q .non H)
def uP:Sp:=fun vs H Q _=>Ex3 fun(f n:Int) (d:Option Int)=>An4 (vs=[.int f,.int n,oI d]) (0<=n) (n<=10000) (∀(l:Addr) (H':Hp),H l=none->Az H H'->H' l=some (.lst ((YD f n d).map V.int))->Q (.ref l) H')
def uO(K:Fr)(CS CO CM:Addr):Sp:=fun vs H Q _=>Ex5 fun(x:Addr) (d:Bq) (y:Int) (m i:Option Int)=>An4 (vs=[.ref x,.int y,oI m,oI i]) (FQ K CS CO CM H x d) (Bt 370 y) (∀(l:Addr) (H':Hp),H l=none->Az H H'->H' l=some (.lst ((yrL (d.L y) (d.Y y) 1 m i).map V.int))->Q (.ref l) H')
noncomputable def dtL(g:Bq)(m i:Option Int):Nat->List Int
 | 0=>[]
 | k+1=>dtL g m i k++yrL (g.L (k:Int)) (g.Y (k:Int)) 1 m i
structure SmC(g:Bq):Prop where
 y0:1<=g.cy.1
 y1:g.cy.1<=10
 d0:1<=g.cy.2
 d1:g.cy.2<=64
def Yu(K:Fr)(CS CO CM:Addr):Sp:=fun vs H Q _=>Ex4 fun(x:Addr) (g:Bq) (m i:Option Int)=>An6 (vs=[.ref x,oI m,oI i,.int 1,.int 0]) (FQ K CS CO CM H x g) (SmC g) (okM m) (i≠some 0) (∀(p:Addr) (c:Nat) (H':Hp),Az H H'->H' p=some (.tup [.int g.cy.2,.int (c:Int)])->RB g.cy.2 (dtL g m i g.cy.1.toNat) c->Q (.ref p) H')
noncomputable def cpl(z:Str):List Nat:=z.cps.toList
theorem Hm{y z:Str}(h:cpl y=cpl z):y=z:=by
 cases y;cases z;simp only[cpl] at h;exact yk Str.mk (jf7.mp h)
noncomputable def HS(cs:List Nat):List Nat:=if cs.head?=some 45 then cs.drop 1 else cs
structure M7(cs:List Nat):Prop where
 lo:1<=(HS cs).length
 hi:(HS cs).length<=60
 dg:∀c∈HS cs,48<=c/\c<=57
 z0:(HS cs).head?=some 48->cs=[48]
noncomputable def J3(cs:List Nat):Int:=if cs.head?=some 45 then -((PySem.NumText.digitsVal (HS cs):Nat):Int) else ((PySem.NumText.digitsVal (HS cs):Nat):Int)
theorem Eu(z:Str):(cpl z).length=z.length:=Qb
theorem Od{z:Str}(h:M7 (cpl z)):PySem.intText? z=some (J3 (cpl z)):=by
 have hl:z.length<=4300:=by
  have:=h.hi;rw[<-Eu];unfold HS at this;split at this
  ·rw[jc0] at this;lia
  ·lia
 unfold J3;by_cases e:(cpl z).head?=some 45
 ·rw[xy e];have ef:HS (cpl z)=(cpl z).drop 1:=by unfold HS;rw[xy e]
  have hz:z.cps.toList=45::(cpl z).drop 1:=by
   show cpl z=_;generalize cpl z=cs at e;cases cs with
   | nil=>cases e
   | cons a r=>
    injection e with e;rw[e];rfl
  rw[ef];refine PySem.intText_neg hz (fun c hc=>h.dg c (by rw[ef];exact hc)) (fun z0=>?_) hl;have:=h.lo;rw[ef,z0] at this;simp at this
 ·rw[xp e];have ef:HS (cpl z)=cpl z:=by unfold HS;rw[xp e]
  rw[ef];refine PySem.intText_digits (fun c hc=>h.dg c (by rw[ef];exact hc)) (fun z0=>?_) hl;have:=h.lo;rw[ef] at this;have z1:cpl z=[]:=z0;rw[z1] at this;simp at this
theorem O3{z:Str}(h:1<=z.length):cpl (Txt.slice z (some 1) none)=(cpl z).drop 1:=by
 rw[slice_from_eq (b:=(z.length:Int)) nofun (by omega) rfl];show((List.drop 1 z.cps.toList).take ((z.length:Int)-1).toNat)=_;rw[uk]
 ·rfl
 ·rw[jc0];have:z.cps.toList.length=z.length:=Eu z;omega
theorem jC(z:Str):cpl (Txt.slice z none (some 1))=(cpl z).take 1:=by
 by_cases h:1<=z.length
 ·have e:=slice_closes_toL (x:=z) (j:=1) nofun ⋯;rw[eq_of_beq e];rfl
 ·have e0:(cpl z).length=0:=by rw[Eu];lia
  have e1:(cpl (Txt.slice z none (some 1))).length=0:=by
   have:=Txt.slice_le z none (some 1);rw[Eu];lia
  rw[jd1.mp e0,jd1.mp e1];rfl
theorem jD{z:Str}{lo hi:Option Int}(h:c∈cpl (Txt.slice z lo hi)):c∈cpl z:=by
 unfold Txt.slice at h;split at h
 ·exact h
 ·simp only[cpl] at h;obtain⟨i,_,hi⟩:=List.mem_filterMap.mp h;have hi':z.cps.toList[i]?=some c:=by rw[Array.getElem?_toList];exact hi
  exact zk hi'
theorem GC{z:Str}:asc z=true<->∀c∈cpl z,c<128:=by
 unfold asc cpl;rw[Array.all_eq_true'];simp[Array.mem_toList_iff]
theorem Ww{z:Str}(h:1<=z.length\/True):Txt.startswith z "-"=decide ((cpl z).head?=some 45):=by
 have ey:(Str.ofString "-")=⟨#[45]⟩:=∅;rw[ey];unfold Txt.startswith Builtin.Str.subAt;show(decide (0+1<=z.length)&&(z.cps.extract 0 (0+1)== #[45]))=_;rw[Qr,vi,decide_eq_true_eq,decide_eq_true_eq,jc6];have el:(cpl z).length=z.length:=Eu z;have ex:(z.cps.extract 0 (0+1)).toList=(cpl z).take 1:=by
  rw[Array.toList_extract];simp[cpl,List.extract_eq_drop_take]
 constructor
 ·rintro⟨_,e⟩;rw[e] at ex;generalize cpl z=cs at ex;cases cs with
  | nil=>cases ex
  | cons a r=>
   injection ex with e1 _;rw[e1];rfl
 ·intro e;cases hc:cpl z with
  | nil=>rw[hc] at e;cases e
  | cons a r=>
   rw[hc] at e ex el;injection e with e;rw[qr] at el;refine⟨⋯,jf7.mp ?_⟩;rw[ex,e];rfl
theorem vo(c:Nat):c∈cpl "0123456789"<->48<=c/\c<=57:=by
 have e:cpl "0123456789"=List.range' 48 10:=∅;rw[e,List.mem_range'_1];lia
theorem qP(c:Nat):(!(Builtin.Str.occurrences "0123456789" ⟨#[c]⟩ 0 (Str.ofString "0123456789").length 1).isEmpty)=decide (48<=c/\c<=57):=by
 rw[StrLaws.found_one,Qr,decide_eq_true_eq,decide_eq_true_eq];exact vo c
structure TOk(z:Str):Prop where
 asc:asc z=true
 len:z.length<=1000000
theorem TOk.fit{z:Str}(h:TOk z):z.length<=sizeLine:=zv h.len nofun
theorem TOk.slice{z:Str}(h:TOk z)(lo hi:Option Int):TOk (Txt.slice z lo hi):=⟨GC.mpr fun c hc=>GC.mp h.asc c (jD hc),zv (Txt.slice_le z lo hi) h.len⟩
inductive Hnd(H:Hp):V->Prop
 | txt (z:Str):TOk z->Hnd H (.str z)
 | non:Hnd H .non
 | int (i:Int):Hnd H (.int i)
 | tup (a:Addr) (xs:List V):H a=some (.tup xs)->Hnd H (.ref a)
 | lst (a:Addr) (xs:List V):H a=some (.lst xs)->Hnd H (.ref a)
noncomputable def isT(v:V):Bool:=match v with | .str _=>true | _=>false
theorem AAk(K:Fr):PySem.W.kitOne K (.type "str") (.type "str")=some true:=by unfold PySem.W.kitOne;rw[xy (by simp)]
theorem AAl(K:Fr):PySem.W.kitOne K (.type "NoneType") (.type "str")=some false:=by first | rfl | ac_rfl | with_unfolding_all rfl
theorem vO(K:Fr):PySem.W.kitOne K (.type "int") (.type "str")=some false:=by first | rfl | ac_rfl | with_unfolding_all rfl
theorem AAj(K:Fr):PySem.W.kitOne K (.type "tuple") (.type "str")=some false:=by first | rfl | ac_rfl | with_unfolding_all rfl
theorem AAm(K:Fr):PySem.W.kitOne K (.type "list") (.type "str")=some false:=by first | rfl | ac_rfl | with_unfolding_all rfl
theorem cD{v:V}(h:Hnd H v)(q:Q (.bl (isT v)) H):zq K [v,.ty "str"] H Q:=by
 cases h with
 | txt z hz=>exact Rz (.str z) (AAk K) q
 | non=>exact Rz .non (AAl K) q
 | int i=>exact Rz (.int i) (vO K) q
 | tup a xs e=>exact Rz (.tup e) (AAj K) q
 | lst a xs e=>exact Rz (.lst e) (AAm K) q
def uK:Sp:=fun vs H Q _=>∃z:Str,An3 (vs=[.str z]) (TOk z) (∀(v:Bool) (H':Hp),Az H H'->(v=true<->M7 (cpl z))->Q (.bl v) H')
theorem Q6(a b:Str):cpl (a++b)=cpl a++cpl b:=by
 show(a.cps++b.cps).toList=_;rw[jo9];rfl
theorem Ko(h1: -1000000000000000000000000000000000000000000000000000000000000<=i)(h2:i<=1000000000000000000000000000000000000000000000000000000000000):i.natAbs.log2<1920:=by
 have b:Bt 200 i:=bt_of h1 h2;unfold Bt at b;by_cases z:i.natAbs=0
 ·rw[z];decide
 ·exact xk ((Nat.log2_lt z).mpr b) nofun
theorem four{a b c d:V}:([a,b,c,d]:List V).length<=sizeLine:=by show 4<=sizeLine;decide
theorem dT(n:Nat):cpl (Dj (n:Int))=(Nat.toDigits 10 n).map Char.toNat:=by
 unfold Dj cpl;rw[signs_ofString];have e:(toString (Int.ofNat n)).toList=Nat.toDigits 10 n:=by
  show(Nat.repr n).toList=_;rw[jp7]
 exact yk (List.map Char.toNat) e
theorem ofNat_toNat{cs:List Nat}(h:∀c∈cs,48<=c/\c<=57):(cs.map Char.ofNat).map Char.toNat=cs:=by
 rw[va]
 conv=>rhs;rw[<-List.map_id cs]
 refine jp1 fun c hc=>?_;exact(by decide:∀c<58,(Char.toNat ∘ Char.ofNat) c=c) c (Nat.lt_succ_of_le (h c hc).2)
theorem canon{cs:List Nat}(h:∀c∈cs,48<=c/\c<=57)(ne:cs≠[])(z:cs.head?=some 48->cs=[48]):cpl (Dj ((PySem.NumText.digitsVal cs:Nat):Int))=cs:=by
 rw[dT];obtain⟨c,r,rfl⟩:∃c r,cs=c::r:=by
  cases cs with
  | nil=>exact absurd rfl ne
  | cons c r=>exact⟨c,r,rfl⟩
 have hc:=h c qc;rw[PySem.NumText.toDigits_digitsVal r.length (c::r) (by simp) h (by
  by_cases e:c=48
  ·have:=z (by rw[e];rfl);injection this with _ e2;exact .inl (by rw[e2];rfl)
  ·exact .inr ⟨c,r,rfl,⋯⟩)]
 exact ofNat_toNat h
theorem kZ{cs:List Nat}(h:∀c∈cs,48<=c/\c<=57)(ne:cs≠[]):cpl (Dj ((PySem.NumText.digitsVal cs:Nat):Int))=cs<->(cs.head?=some 48->cs=[48]):=by
 refine⟨fun e z=>?_,canon h ne⟩;refine Classical.byContradiction fun hn=>?_;obtain⟨r,rfl⟩:∃r,cs=48::r:=by
  cases cs with
  | nil=>exact absurd rfl ne
  | cons c r=>
   injection z with z;exact⟨r,by rw[z]⟩
 have rn:r≠[]:=fun y=>hn (by rw[y]);have dr:∀c∈r,48<=c/\c<=57:=fun c hc=>h c (qk _ hc);have ev:PySem.NumText.digitsVal (48::r)=PySem.NumText.digitsVal r:=rfl;rw[dT,ev,PySem.NumText.toDigits_all r dr] at e;have l:r.length+1=(match r.dropWhile (· ==48) with | []=>['0'] | c::r=>(c::r).map Char.ofNat).length:=by
  have:=yk List.length e;rw[jp,qr] at this;exact this.symm
 have d:(r.dropWhile (· ==48)).length<=r.length:=(jm8 _).length_le;have r1:1<=r.length:=by
  cases r with
  | nil=>exact absurd rfl rn
  | cons _ _=>simp
 cases hd:r.dropWhile (· ==48) with
 | nil=>
  rw[hd] at l;have l':r.length+1=1:=l;lia
 | cons a b=>
  rw[hd] at l d;have l':r.length+1=((a::b).map Char.ofNat).length:=l;rw[jp] at l';lia
theorem dB(n:Nat):(∀c∈cpl (Dj (n:Int)),48<=c/\c<=57)/\cpl (Dj (n:Int))≠[]/\PySem.NumText.digitsVal (cpl (Dj (n:Int)))=n:=by
 rw[dT];refine⟨fun c hc=>?_,fun e=>?_,PySem.W.KIN.val_back n⟩
 ·obtain⟨ch,hch,e⟩:=ui.mp hc;have r:=digit_range (Nat.isDigit_of_mem_toDigits nofun nofun hch);lia
 ·have:=yk List.length e;rw[jp] at this;have p:=Nat.length_toDigits_pos (b:=10) (n:=n);rw[jk1] at this;lia
def spR(sp:Sp)(d:Nat):Sp:=fun vs H Q E=>0<d/\sp vs H Q E
theorem Yq{sp:Sp}{vs:List V}(h:spR sp 0 vs H Q E):False:=absurd h.1 nofun
theorem Cw.mt{CR:Addr}{CL:List Addr}{n:Int}(R:Cw K CR CL H x n b):∃C dx fs,(∀sp:Sp,(C,sp)∈CL.map fun c=>(c,sp))/\H x=some (.ins C dx fs)/\fs.lookup (Str.ofString "turn")=none/\fs.lookup (Str.ofString "size")=none/\fs.lookup (Str.ofString "on")=none:=by
 obtain⟨C,dx,p,pm,pw,h1,h2,h3,h4⟩:=R.ex;exact⟨C,dx,_,fun sp=>ui.mpr ⟨C,h1,rfl⟩,h3,rfl,rfl,rfl⟩
theorem vp{cs:List Nat}(h:∀c∈cs,48<=c/\c<=57):cs.head?≠some 45:=by
 cases cs with
 | nil=>exact fun z=>nomatch z
 | cons a r=>
  intro z;injection z with z;have:=h a qc;lia
theorem ABG{n:Nat}(h:n<10^60):(cpl (Dj (n:Int))).length<=60:=by
 rw[dT,jp];exact(Nat.length_toDigits_le_iff nofun nofun).mpr h
theorem HR{cs:List Nat}(h:cs.head?≠some 45):HS cs=cs:=by unfold HS;rw[xp h]
theorem sZ{cs:List Nat}(h:cs.head?≠some 45):J3 cs=((PySem.NumText.digitsVal cs:Nat):Int):=by unfold J3;rw[xp h,HR h]
theorem Td{y:Int}(h:y.natAbs<10^60):M7 (cpl (Dj y))/\J3 (cpl (Dj y))=y/\HS (cpl (Dj y))=cpl (Dj ((y.natAbs:Nat):Int)):=by
 have id:=dB y.natAbs;have dl:=ABG h;have z0:(cpl (Dj ((y.natAbs:Nat):Int))).head?=some 48->cpl (Dj ((y.natAbs:Nat):Int))=[48]:=by
  have c:=(kZ id.1 id.2.1).mp (by rw[id.2.2]);exact c
 have l1:1<=(cpl (Dj ((y.natAbs:Nat):Int))).length:=by
  cases hh:cpl (Dj ((y.natAbs:Nat):Int)) with
  | nil=>exact absurd hh id.2.1
  | cons a r=>simp
 rcases jj8 y 0 with c | c
 ·have e:cpl (Dj y)=45::cpl (Dj ((y.natAbs:Nat):Int)):=by
   cases y with
   | ofNat k=>exact absurd c (by simp)
   | negSucc k=>
    show cpl (Dj (Int.negSucc k))=45::cpl (Dj (((k+1:Nat)):Int));rw[dT];unfold Dj cpl;rw[signs_ofString];show(("-"++Nat.repr (k+1)).toList).map Char.toNat=_;rw[String.toList_append,vk,jp7];rfl
  have hh:(cpl (Dj y)).head?=some 45:=by rw[e];rfl
  have ef:HS (cpl (Dj y))=cpl (Dj ((y.natAbs:Nat):Int)):=by unfold HS;rw[xy hh,e];rfl
  refine⟨⟨by rw[ef];exact l1,by rw[ef];exact dl,by rw[ef];exact id.1,fun z=>?_⟩,?_,ef⟩
  ·rw[ef] at z;have:=z0 z;have v:=id.2.2;rw[this] at v;have:PySem.NumText.digitsVal [48]=0:=rfl;lia
  ·unfold J3;rw[xy hh,ef,id.2.2];lia
 ·have e:Dj y=Dj ((y.natAbs:Nat):Int):=by congr 1;lia
  rw[e];have h45:=vp id.1;refine⟨⟨by rw[HR h45];exact l1,by rw[HR h45];exact dl,by rw[HR h45];exact id.1,fun z=>z0 (by rw[HR h45] at z;exact z)⟩,?_,HR h45⟩;rw[sZ h45,id.2.2];lia
noncomputable def nW(n:Int):List Nat:=cpl (Dj n)
def Sm(i:Int):Prop:=i.natAbs<10^40
theorem zQ(h:Sm i):i.natAbs<10^60:=jq3 h nofun
theorem JS(h:Sm i):M7 (nW i)/\J3 (nW i)=i:=⟨(Td (zQ h)).1,(Td (zQ h)).2.1⟩
theorem Hw(h:Sm i):∀c∈nW i,c=45\/48<=c/\c<=57:=fun c hc=>by
 have N:=(JS h).1;have hd:=N.dg;by_cases e:(nW i).head?=some 45
 ·have ef:HS (nW i)=(nW i).drop 1:=by unfold HS;rw[xy e]
  rw[ef] at hd;cases hn:nW i with
  | nil=>rw[hn] at hc;cases hc
  | cons a r=>
   rw[hn] at hc e hd;injection e with e;rcases zo.mp hc with z | z
   ·exact .inl (by rw[z,e])
   ·exact .inr (hd c z)
 ·rw[HR e] at hd;exact .inr (hd c hc)
theorem Es(h:Sm i):(nW i).length<=41:=by
 have e:=(Td (zQ h)).2.2;have l:(cpl (Dj ((i.natAbs:Nat):Int))).length<=40:=by
  rw[dT,jp];exact(Nat.length_toDigits_le_iff nofun nofun).mpr h
 rw[<-e] at l;unfold HS nW at*
 split at l
 ·rw[jc0] at l;lia
 ·lia
theorem AAV(h:Sm i):nW i≠[]:=fun z=>by
 have:=(JS h).1.lo;rw[z] at this;simp[HS] at this
theorem Kw(h1: -10000000000000000000000000000000000000000<i)(h2:i<10000000000000000000000000000000000000000):Sm i:=by
 unfold Sm;have:(10:Nat)^40=10000000000000000000000000000000000000000:=nofun;lia
theorem CZ(h:Sm i):i.natAbs.log2<1920:=by
 refine Ko ?_ ?_
 ·unfold Sm at h;have:(10:Nat)^40=10000000000000000000000000000000000000000:=nofun
  lia
 ·unfold Sm at h;have:(10:Nat)^40=10000000000000000000000000000000000000000:=nofun
  lia
noncomputable def Fd(c:Nat):List (List Nat)->List Nat
 | []=>[]
 | w::ws=>w++(ws.map (c:: ·)).flatten
theorem TV(c:Nat)(w y:List Nat)(ws:List (List Nat)):Fd c (w::y::ws)=w++c::Fd c (y::ws):=by
 show w++((c::y)++(ws.map (c:: ·)).flatten)=w++c::(y++(ws.map (c:: ·)).flatten);rfl
theorem Vl(c:Nat):∀(w:List Nat) (ws:List (List Nat)),(∀x∈w::ws,c∉x)->spl c (Fd c (w::ws))=w::ws
 | w,[],h=>by
  show spl c (w++[])=[w];rw[yy];exact Wy c w (h w qc)
 | w,y::ws,h=>by
  rw[TV,Lj c w _ (h w qc),Vl c y ws fun x hx=>h x (qk _ hx)]
theorem V3(c:Nat):∀(zs:List Str) (acc:Array Nat),(zs.foldl (fun acc (p:Str)=>acc++(⟨#[c]⟩:Str).cps++p.cps) acc).toList=acc.toList++((zs.map cpl).map (c:: ·)).flatten
 | [],acc=>by simp
 | z::zs,acc=>by
  rw[List.foldl_cons,V3 c zs,jo9,jo9,zw,zw,je8];show(acc.toList++[c]++cpl z)++_=acc.toList++((c::cpl z)++_);simp
theorem qH(c:Nat)(zs:List Str):cpl (Txt.join ⟨#[c]⟩ zs)=Fd c (zs.map cpl):=by
 cases zs with
 | nil=>rfl
 | cons z zs=>
  show((zs.foldl (fun acc (p:Str)=>acc++(⟨#[c]⟩:Str).cps++p.cps) z.cps)).toList=_;rw[V3];rfl
theorem ABN{k:Nat}{x:Int}(h:Bt k x)(hk:k<=1920)(h0:0<k):x.natAbs.log2<1920:=by
 unfold Bt at h;by_cases z:x.natAbs=0
 ·rw[z];decide
 ·exact xk ((Nat.log2_lt z).mpr h) hk
theorem J7(a b:Str):(a++b).length=a.length+b.length:=by
 show(a.cps++b.cps).size=_;rw[Array.size_append];rfl
theorem zr{m:Hp->Prop}(h:∀H',KB x H H'->H' x=some o->m H'):m (upd H x o):=h _ (fun y _ ne e=>by rw[BK ne];exact e) Am
noncomputable def sg(z:String):List Nat:=cpl (Str.ofString z)
theorem bsg:sg " "=[32]:=∅
theorem dsg:sg "date "=sg "date"++[32]:=∅
noncomputable def gR(n r:Int):List Nat:=sg "each "++nW n++sg " from "++nW r
noncomputable def Fg:Option Int->List Nat
 | none=>sg "*"
 | some i=>nW i
noncomputable def yD(nm:List Nat)(m d:Option Int):List Nat:=sg "date "++nm++sg " "++Fg m++sg " "++Fg d
def okO(m:Option Int):Prop:=∀i,m=some i->i.natAbs.log2<1920
section
variable(K:Fr)(CR:Addr)(CL:List Addr)(C:Addr)
def ACL:Sp:=fun vs H Q _=>Ex3 fun(x:Addr) (n r:Int)=>An4 (vs=[.ref x,.int n,.int r]) (1<=n) (n<=1000) (M6 K CR CL C H x Q n (fun b=>RB n [r] b))
def ACM:Sp:=fun vs H Q _=>Ex4 fun(x r:Addr) (n:Int) (b:Nat)=>An3 (vs=[.ref x,.ref r]) (Cw K CR CL H r n b) (M6 K CR CL C H x Q n (fun c=>OtR n b c))
def ACI:Sp:=fun vs H Q _=>Ex5 fun(x r:Addr) (k n:Int) (b:Nat)=>An4 (vs=[.ref x,.int k,.ref r]) (k.natAbs.log2<1920) (Cw K CR CL H r n b) (M6 K CR CL C H x Q n (fun c=>c=ltr n b k))
def Lk(R:Rel):Sp:=fun vs H Q _=>Ex7 fun(x r t:Addr) (n1 n2:Int) (b1 b2:Nat)=>An5 (vs=[.ref x,.ref r,.ref t]) (Cw K CR CL H r n1 b1) (Cw K CR CL H t n2 b2) (Bj n1 n2<=150000) (M6 K CR CL C H x Q (Bj n1 n2) (fun c=>R n1 b1 n2 b2 (Bj n1 n2) c))
def ACJ:Sp:=fun vs H Q _=>Ex8 fun(x r t:Addr) (k n1 n2:Int) (b1 b2:Nat)=>An7 (vs=[.ref x,.int k,.ref r,.ref t]) (k≠0) (k.natAbs.log2<1920) (Cw K CR CL H r n1 b1) (Cw K CR CL H t n2 b2) (Bj n1 n2<=150000) (M6 K CR CL C H x Q (Bj n1 n2) (fun c=>WR (KtU k) n1 b1 n2 b2 (Bj n1 n2) c))
def xM(CS CO CM:Addr):Sp:=fun vs H Q _=>Ex6 fun(x y:Addr) (z:Str) (g:Bq) (m d:Option Int)=>An9 (vs=[.ref x,.str z,.ref y,oI m,oI d,.int 1,.int 0]) (z.length<=100) (FQ K CS CO CM H y g) (SmC g) (okM m) (okO m) (d≠some 0) (okO d) (M6 K CR CL C H x Q g.cy.2 (fun c=>RB g.cy.2 (dtL g m d g.cy.1.toNat) c))
end
def ACP:Sp:=fun vs H Q _=>Ex2 fun(n r:Int)=>An4 (vs=[.int n,.int r]) (1<=n) (n<=1000) (∀z:Str,z.length<=3900->Q (.str z) H)
def ABt:Sp:=fun vs H Q _=>∃m:Option Int,An3 (vs=[oI m]) (okO m) (∀z:Str,z.length<=1921->Q (.str z) H)
def ACQ:Sp:=fun vs H Q _=>Ex3 fun(z:Str) (m d:Option Int)=>An5 (vs=[.str z,oI m,oI d,.int 1,.int 0]) (z.length<=100) (okO m) (okO d) (∀(y:Str) (H':Hp),Az H H'->Q (.str y) H')
theorem ACt(h1: -1000000<=i)(h2:i<=1000000):i.natAbs.log2<1920:=ABN (bt_of ⋯ ⋯) nofun nofun
theorem ADN:cpl Str.empty=[]:=rfl
local macro_rules | `(tactic| walk_at"mm")=> `(tactic| (repeat (first | exact List.Mem.head _ | refine List.Mem.tail _ ?_)))
theorem in2{CR C r t dx:Addr}{CL:List Addr}{R:Rel}{w:Str}(cm:C∈CL):Cw K CR CL H r n1 b1->Cw K CR CL H t n2 b2->Bj n1 n2<=150000->(∀b H',KB x H H'->Cw K CR CL H' x (Bj n1 n2) b->R n1 b1 n2 b2 (Bj n1 n2) b->Q V.non H')->H x=some (.ins C dx [])->RC K CR C->mO (Jl (W2 K CR) [] E0 (Ex (Gp 0) (Ex (Jl (spJ K R) [] E0 (Ex (RM (CL.map fun C=>(C,spR (Kl K CR CL) 1)) "turn" (Gp 1) Iz) (Ex (RM (CL.map fun C=>(C,spR (Kl K CR CL) 1)) "turn" (Gp 2) Iz) Iz))) (Ex (tM (Ex (Gp 1) (Ex (Gp 2) Iz))) (Ex (tM (Ex (tC (.str "(")) (Ex (tC (.str w)) (Ex (tC (.str ")")) Iz)))) Iz))))) { nx:=fun _ H'=>Q V.non H',rt:=Q } (L2.start ["self","R","S"] [.ref x,.ref r,.ref t]) H:=by
 intro R1 R2 lz q hx rc;have fl:=BV R1.n0 R2.n0;symm;obtain⟨C,dr,fs,m,hr,l1,_⟩:=R1.mt;exists⟨_,C,dr,fs,_,m _,rfl,hr,l1,?_⟩;exists⟨jf3,_,_,_,rfl,R1,fun p hp=>?_⟩;obtain⟨C',dr',fs',m',hr',l1',_⟩:=R2.mt;exists⟨_,C',dr',fs',_,m' _,rfl,hr',l1',?_⟩;exists⟨jf3,_,_,_,rfl,R2,fun p' hp'=>?_⟩;exists⟨p,p',_,_,_,_,rfl,⟨SqT.of hp,SqT.of hp',R1.n0,R2.n0,R1.n1,R2.n1,R1.lt,R2.lt⟩,lz,fun p2 c H1 s1 t1 lt Rr=>?_⟩;refine⟨DY,fun pm hpm=>?_⟩;exists fresh hpm fun H2 s2 t2=>?_;refine⟨(by show 3<=sizeLine;decide),fun pw hpw=>?_⟩;refine fresh hpw fun H3 s3 t3=>?_;have s3:=s2.trans s3;have hx3:=(s1.trans s3) _ _ hx;symm;exact⟨_,p2,pm,pw,_,_,rfl,hx3,rc,fun H' k e=>q _ H' (k.pre (s1.trans s3)) (Gg cm rc hx3 (s3 _ _ t1) k e fl.1 lz lt) Rr⟩
noncomputable def sW(w:Wd):Str:=⟨w.toArray⟩
theorem Bp(w:Wd):cpl (sW w)=w:=by unfold cpl sW;simp
theorem Jz(z:Str):sW (cpl z)=z:=Hm (Bp _)
theorem DQ(w:Wd):(sW w).length=w.length:=by rw[<-Eu,Bp]
theorem xO{a b:Wd}:V.str (sW a)=V.str (sW b)<->a=b:=⟨fun e=>by injection e with e;rw[<-Bp a,e,Bp],fun e=>by rw[e]⟩
structure Iu(cs:List Nat):Prop where
 lo:1<=cs.length
 hi:cs.length<=8
 ch:∀c∈cs,97<=c/\c<=122
theorem vJ(c:Nat):c∈cpl "abcdefghijklmnopqrstuvwxyz"<->97<=c/\c<=122:=by
 have e:cpl "abcdefghijklmnopqrstuvwxyz"=(List.range 26).map (97+ ·):=∅;rw[e,ui];constructor
 ·rintro⟨k,hk,rfl⟩;have:=jj2.mp hk;lia
 ·intro h;exact⟨c-97,jj2.mpr ⋯,⋯⟩
theorem AAr(c:Nat):(!(Builtin.Str.occurrences "abcdefghijklmnopqrstuvwxyz" ⟨#[c]⟩ 0 (Str.ofString "abcdefghijklmnopqrstuvwxyz").length 1).isEmpty)=decide (97<=c/\c<=122):=by
 rw[StrLaws.found_one,Qr,decide_eq_true_eq,decide_eq_true_eq];exact vJ c
def zH:Sp:=fun vs H Q _=>∃z:Str,An3 (vs=[.str z]) (TOk z) (∀(v:Bool) (H':Hp),Az H H'->(v=true<->Iu (cpl z))->Q (.bl v) H')
def W0:Sp:=fun vs H Q _=>∃z:Str,An4 (vs=[.str z]) (TOk z) (z.length<=4000) (Q (.bl true) H)
noncomputable def rdF(p:Addr)(k:Nat):List (Str×V):=[("words",.ref p),("place",.int (k:Int))]
structure Rdr(CD:Addr)(H:Hp)(x p:Addr)(ws:List Wd)(k:Nat):Prop where
 ex:∃dx,H x=some (.ins CD dx (rdF p k))
 tp:H p=some (.tup (ws.map fun w=>.str (sW w)))
 ln:ws.length<=100000
 ok:∀w∈ws,TOk (sW w)
def Rd(CD:Addr)(H:Hp)(x:Addr)(r:List Wd):Prop:=∃p ws k,Rdr CD H x p ws k/\ws.drop k=r
section
variable{CD:Addr}{H H':Hp}{x:Addr}{r:List Wd}{w:Wd}
theorem Rd.ob(R:Rd CD H x r):∃dx fs,H x=some (.ins CD dx fs)/\fs.lookup (Str.ofString "take")=none/\fs.lookup (Str.ofString "peek")=none:=by
 obtain⟨p,ws,k,⟨⟨dx,h⟩,_⟩,_⟩:=R;exact⟨dx,_,h,rfl,rfl⟩
theorem Rd.same(R:Rd CD H x r)(s:Az H H'):Rd CD H' x r:=by
 obtain⟨p,ws,k,⟨⟨dx,h⟩,t,l,o⟩,e⟩:=R;exact⟨p,ws,k,⟨⟨dx,s _ _ h⟩,s _ _ t,l,o⟩,e⟩
theorem Rd.tk(R:Rd CD H x (w::r)):TOk (sW w):=by
 obtain⟨p,ws,k,R,e⟩:=R;exact R.ok w (List.mem_of_mem_drop (by rw[e];exact .head _))
end
theorem KB.tr{H2:Hp}(a:KB x H H1)(b:KB x H1 H2):KB x H H2:=fun y o h e=>b y o h (a y o h e)
theorem KB.sm(s:Az H H1):KB x H H1:=fun y o _ e=>s y o e
def Tk(CD:Addr)(H:Hp)(x:Addr)(r:List Wd)(G:V->Hp->Prop)(Q:VK):Prop:=∀v H',KB x H H'->Rd CD H' x r->G v H'->Q v H'
theorem Tk.on{CD:Addr}{r:List Wd}{G:V->Hp->Prop}(t:Tk CD H x r G Q)(k:KB x H H1):Tk CD H1 x r G Q:=fun v H' k'=>t v H' (k.tr k')
inductive PK | an | or | bu | ul | up | un | ne | ti
noncomputable def PK.s:PK->String | an=>"and" | or=>"or" | bu=>"but" | ul=>"unlike" | up=>"upon" | un=>"until" | ne=>"near" | ti=>"till"
def PK.R:PK->Rel | an=>Bo and | or=>Bo Bool.or | bu=>Bo bn | ul=>Bo xor | up=>WR (UpJ 1) | un=>WR (UpJ (-1)) | ne=>WR NrU | ti=>WR TiU
inductive PT:Type
 | lf (b:Bool)
 | each (n r:Int)
 | date (nm:Wd) (m d:Option Int) (y:Option (Int×Int))
 | no (p:PT)
 | la (k:Int) (p:PT)
 | nt (k:Int) (p q:PT)
 | pr (w:PK) (p q:PT)
noncomputable def lfS(b:Bool):String:=if b then "all" else "none"
noncomputable def yrW:Option (Int×Int)->List Wd
 | none=>[]
 | some y=>[sg "each",nW y.1,sg "from",nW y.2]
noncomputable def yr(y:Option (Int×Int)):Int×Int:=y.getD (1,0)
namespace PT
noncomputable def tok:PT->List Wd
 | lf b=>[sg (lfS b)]
 | each n r=>[sg "each",nW n,sg "from",nW r]
 | date nm m d y=>sg "date"::nm::Fg m::Fg d::yrW y
 | no p=>kL::sg "not"::(p.tok++[kR])
 | la k p=>kL::nW k::sg "later"::(p.tok++[kR])
 | nt k p q=>kL::nW k::sg "of"::(p.tok++sg "from"::(q.tok++[kR]))
 | pr w p q=>kL::(p.tok++sg w.s::(q.tok++[kR]))
noncomputable def deep:PT->Nat
 | no p=>p.deep+1
 | la _ p=>p.deep+1
 | nt _ p q=>max p.deep q.deep+1
 | pr _ p q=>max p.deep q.deep+1
 | _=>0
def okS(m:Option Int):Prop:=∀i,m=some i->Sm i
def ok:PT->Prop
 | lf _=>True
 | each n r=>Sm n/\Sm r/\1<=n/\n<=420
 | date nm m d y=>Iu nm/\okS m/\okS d/\(∀z,y=some z->Sm z.1/\Sm z.2/\1<=z.1/\z.1<=2)/\okM m/\d≠some 0
 | no p=>p.ok
 | la k p=>Sm k/\p.ok
 | nt k p q=>Sm k/\p.ok/\q.ok/\k≠0
 | pr _ p q=>p.ok/\q.ok
theorem hd(p:PT):∃z t,p.tok=z::t/\z∈[sg "all",sg "none",sg "each",sg "date",kL]:=by
 cases p with
 | lf b=>cases b<;>exact⟨_,_,rfl,∅⟩
 | each=>exact⟨_,_,rfl,∅⟩
 | date=>exact⟨_,_,rfl,∅⟩
 | _=>exact⟨_,_,rfl,∅⟩
end PT
def PlH(H:Hp):PT->V->Prop
 | .lf b,v=>∃q,v=.ref q/\H q=some (.tup [.str (lfS b)])
 | .each n r,v=>∃q,v=.ref q/\H q=some (.tup [.str "each",.int n,.int r])
 | .date nm m d y,v=>∃q,v=.ref q/\H q=some (.tup [.str "date",.str (sW nm),oI m,oI d,.int (yr y).1,.int (yr y).2])
 | .no p,v=>∃q u,v=.ref q/\H q=some (.tup [.str "not",u])/\PlH H p u
 | .la k p,v=>∃q u,v=.ref q/\H q=some (.tup [.str "later",.int k,u])/\PlH H p u
 | .nt k p r,v=>∃q u y,v=.ref q/\H q=some (.tup [.str "of",.int k,u,y])/\PlH H p u/\PlH H r y
 | .pr w p r,v=>∃q u y,v=.ref q/\H q=some (.tup [.str w.s,u,y])/\PlH H p u/\PlH H r y
theorem PlH.kp(s:∀y xs,H y=some (.tup xs)->H' y=some (.tup xs)):∀{p:PT} {v:V},PlH H p v->PlH H' p v
 | .lf _,v,⟨q,e,h⟩=>⟨q,e,s _ _ h⟩
 | .each ..,v,⟨q,e,h⟩=>⟨q,e,s _ _ h⟩
 | .date ..,v,⟨q,e,h⟩=>⟨q,e,s _ _ h⟩
 | .no _,v,⟨q,u,e,h,g⟩=>⟨q,u,e,s _ _ h,PlH.kp s g⟩
 | .la ..,v,⟨q,u,e,h,g⟩=>⟨q,u,e,s _ _ h,PlH.kp s g⟩
 | .nt ..,v,⟨q,u,y,e,h,g,g'⟩=>⟨q,u,y,e,s _ _ h,PlH.kp s g,PlH.kp s g'⟩
 | .pr ..,v,⟨q,u,y,e,h,g,g'⟩=>⟨q,u,y,e,s _ _ h,PlH.kp s g,PlH.kp s g'⟩
theorem PlH.same(s:Az H H'){p:PT}{v:V}(h:PlH H p v):PlH H' p v:=PlH.kp (fun _ _ e=>s _ _ e) h
theorem PlH.kb{CD:Addr}{r:List Wd}(R:Rd CD H x r)(kb:KB x H H'){q:PT}{v:V}(h:PlH H q v):PlH H' q v:=PlH.kp (fun y xs e=>by
 obtain⟨dx,fs,hx,_⟩:=R.ob;exact kb y _ (Hj e hx (fun z=>nomatch z)) e) h
section
variable(CD:Addr)
def uL:Sp:=fun vs H Q _=>Ex4 fun(x dx l:Addr) (ws:List Wd)=>An6 (vs=[.ref x,.ref l]) (H x=some (.ins CD dx [])) (H l=some (.lst (ws.map fun w=>.str (sW w)))) (ws.length<=100000) (∀w∈ws,TOk (sW w)) (∀H',KB x H H'->Rd CD H' x ws->Q .non H')
def yq:Sp:=fun vs H Q _=>Ex2 fun(x:Addr) (r:List Wd)=>An3 (vs=[.ref x]) (Rd CD H x r) (Q (.str (sW (r.headD []))) H)
def yh:Sp:=fun vs H Q _=>Ex2 fun(x:Addr) (r:List Wd)=>An3 (vs=[.ref x]) (Rd CD H x r) (∀H',KB x H H'->Rd CD H' x r.tail->Q (.str (sW (r.headD []))) H')
def ye:Sp:=fun vs H Q _=>Ex3 fun(x:Addr) (z:Str) (r:List Wd)=>An3 (vs=[.ref x,.str z]) (Rd CD H x (cpl z::r)) (∀H',KB x H H'->Rd CD H' x r->Q .non H')
def yu:Sp:=fun vs H Q _=>Ex3 fun(x:Addr) (n:Int) (r:List Wd)=>An4 (vs=[.ref x]) (Rd CD H x (nW n::r)) (Sm n) (∀H',KB x H H'->Rd CD H' x r->Q (.int n) H')
def tU:Sp:=fun vs H Q _=>Ex3 fun(x:Addr) (m:Option Int) (r:List Wd)=>An4 (vs=[.ref x]) (Rd CD H x (Fg m::r)) (PT.okS m) (∀H',KB x H H'->Rd CD H' x r->Q (oI m) H')
def uN:Sp:=fun vs H Q _=>Ex4 fun(x:Addr) (n m:Int) (r:List Wd)=>An5 (vs=[.ref x]) (Rd CD H x (nW n::sg "from"::nW m::r)) (Sm n) (Sm m) (∀q H',KB x H H'->Rd CD H' x r->H' q=some (.tup [.int n,.int m])->Q (.ref q) H')
def uQ:Sp:=fun vs H Q _=>Ex6 fun(x:Addr) (nm:Wd) (m d:Option Int) (y:Option (Int×Int)) (r:List Wd)=>An5 (vs=[.ref x]) (Rd CD H x (nm::Fg m::Fg d::(yrW y++r))) ((PT.date nm m d y).ok) (r.headD []≠sg "each") (Tk CD H x r (fun v H'=>PlH H' (.date nm m d y) v) Q)
def spP(d:Nat)(G:PT->List Wd->List Wd)(C:PT->Prop):Sp:=fun vs H Q _=>Ex3 fun(x:Addr) (p:PT) (r:List Wd)=>An7 (vs=[.ref x]) (Rd CD H x (G p r)) p.ok (C p) (p.deep<d) (r.headD []≠sg "each") (Tk CD H x r (fun v H'=>PlH H' p v) Q)
def cLN:PT->Prop | .la .. =>True | .nt .. =>True | _=>False
def cEv(_:PT):Prop:=False
def cPr:PT->Prop | .pr .. =>True | _=>False
def cIn:PT->Prop | .no _=>True | p=>cLN p\/cEv p\/cPr p
noncomputable def inn:PT->List Wd->List Wd
 | .no p,r=>sg "not"::(p.tok++r)
 | .la k p,r=>nW k::sg "later"::(p.tok++r)
 | .nt k p q,r=>nW k::sg "of"::(p.tok++sg "from"::(q.tok++r))
 | .pr w p q,r=>p.tok++sg w.s::(q.tok++r)
 | _,r=>r
def Jv(d:Nat):Sp:=spP CD d (fun p r=>p.tok++r) (fun _=>True)
def W4(d:Nat):Sp:=spP CD (d+1) inn cLN
def RV(d:Nat):Sp:=spP CD (d+1) (fun p r=>(inn p r).tail) cEv
def W3(d:Nat):Sp:=spP CD (d+1) inn cPr
def RQ(d:Nat):Sp:=spP CD (d+1) inn cIn
end
theorem Yr{CD:Addr}{vs:List V}(h:Jv CD 0 vs H Q E):False:=by
 obtain⟨x,p,r,_,_,_,_,h,_⟩:=h;lia
theorem Yd{a b:String}(h:Str.ofString a≠Str.ofString b):V.str (sW (sg a))≠V.str (Str.ofString b):=fun z=>h (by
 rw[<-Jz (Str.ofString a)];exact V.str.inj z)
theorem Hg(a:String):V.str (sW (sg a))=V.str (Str.ofString a):=by rw[show sg a=cpl (Str.ofString a) from rfl,Jz]
theorem qL{w:Wd}(h:M7 (c::w)):c=45\/48<=c/\c<=57:=by
 by_cases e:c=45
 ·exact .inl e
 ·exact .inr (h.dg c (by rw[HR (show (c::w).head?≠some 45 from fun z=>e (ub z))];exact .head _))
theorem Sx{n:Int}(h:Sm n){z:String}(hz:∃c w,sg z=c::w/\¬(c=45\/48<=c/\c<=57)):V.str (sW (nW n))≠V.str (Str.ofString z):=fun e=>by
 obtain⟨c,w,e1,e2⟩:=hz;have e3:nW n=sg z:=by rw[<-Bp (nW n),V.str.inj e];rfl
 have:=(JS h).1;rw[e3,e1] at this;exact e2 (qL this)
theorem hdn{a:String}{r:List Wd}(h:sg a≠sg "each"):(sg a::r).headD []≠sg "each":=h
theorem xf:kL=sg "(":=∅
theorem yM{b:String}(h:Str.ofString "("≠Str.ofString b):V.str (sW kL)≠V.str (Str.ofString b):=by
 rw[xf];exact Yd h
theorem ACj(w:PK):inV (V.str (Str.ofString w.s)) [.str "and",.str "or",.str "but",.str "unlike",.str "upon",.str "until",.str "near",.str "till"]=true:=by cases w<;>ac_rfl
theorem tG(p:Nat->Bool)(l:List Nat):l.drop (l.takeWhile p).length=l.dropWhile p:=by
 conv=>lhs;rw[<-ja8 (p:=p) (l:=l)]
 rw[ja8]
 conv=>lhs;rw[<-ja8 (p:=p) (l:=l)]
 exact List.drop_left' (by rw[ja8])
theorem g40:(fun c=>(Str.ofString "(").cps.contains c)=(· ==40):=by
 funext c
 rw[show (Str.ofString "(").cps= #[40] by ac_rfl];by_cases h:c=40
 ·subst h;simp
 ·rw[show (#[40]:Array Nat).contains c=false by simpa using h];exact(beq_false_of_ne h).symm
theorem g41:(fun c=>(Str.ofString ")").cps.contains c)=(· ==41):=by
 funext c
 rw[show (Str.ofString ")").cps= #[41] by ac_rfl];by_cases h:c=41
 ·subst h;simp
 ·rw[show (#[41]:Array Nat).contains c=false by simpa using h];exact(beq_false_of_ne h).symm
noncomputable def lsT(z:Str):Str:=if stripSame (Str.ofString "(").cps.contains true false z then z else stripped (Str.ofString "(").cps.contains true false z
noncomputable def rsT(z:Str):Str:=if stripSame (Str.ofString ")").cps.contains false true z then z else stripped (Str.ofString ")").cps.contains false true z
theorem vD(z:Str):cpl (lsT z)=opd (cpl z):=by
 have lo:stripLo (Str.ofString "(").cps.contains true z=((cpl z).takeWhile (· ==40)).length:=by
  unfold stripLo;rw[xy rfl];show((cpl z).takeWhile (fun c=>(Str.ofString "(").cps.contains c)).length=_;rw[g40]
 unfold lsT opd;rw[<-tG];split
 ·rename_i h
  unfold stripSame at h;simp only[vi,jc6] at h;rw[lo] at h;rw[h.1];rfl
 ·unfold stripped;show(Builtin.Str.strSub z _ _).cps.toList=_;rw[StrLaws.strSub_toList,lo];have:stripHi (Str.ofString "(").cps.contains false z ((cpl z).takeWhile (· ==40)).length=z.length:=rfl;rw[this];exact uk (by rw[jc0];have:=Eu z;unfold cpl at this;lia)
theorem uZ(z:Str):cpl (rsT z)=((cpl z).reverse.dropWhile (· ==41)).reverse:=by
 have hi:stripHi (Str.ofString ")").cps.contains true z 0=z.length-((cpl z).reverse.takeWhile (· ==41)).length:=by
  unfold stripHi;rw[xy rfl];show z.length-((cpl z).reverse.takeWhile (fun c=>(Str.ofString ")").cps.contains c)).length=_;rw[g41]
 have key:(cpl z).take ((cpl z).length-((cpl z).reverse.takeWhile (· ==41)).length)=((cpl z).reverse.dropWhile (· ==41)).reverse:=by
  have e:=ja8 (p:=(· ==41)) (l:=(cpl z).reverse);have e2:=yk List.reverse e;rw[List.reverse_append,List.reverse_reverse] at e2;have l2:=yk List.length e;rw[zh,jl3] at l2
  conv=>lhs;rw[<-e2]
  rw[List.take_left'];rw[jl3,e2];lia
 unfold rsT;split
 ·rename_i h
  unfold stripSame at h;simp only[vi,jc6] at h;have h2:stripHi (Str.ofString ")").cps.contains true z 0=z.length:=h.2;rw[hi] at h2;rw[<-key,Eu,h2,<-Eu,ja6]
 ·unfold stripped;show(Builtin.Str.strSub z 0 (stripHi (Str.ofString ")").cps.contains true z 0)).cps.toList=_;rw[StrLaws.strSub_toList,hi,<-key,Eu];rfl
theorem ACs(w:Wd):lsT (sW w)=sW (opd w):=Hm (by rw[vD,Bp,Bp])
theorem ACX(w:Wd):rsT (sW (opd w))=sW (core w):=Hm (by rw[uZ,Bp,Bp];rfl)
theorem bJ(z:Str):JP 32 z=(spl 32 (cpl z)).map sW:=rfl
theorem nj:Str.ofString ""=sW []:=∅
theorem ADo:Str.ofString "("=sW kL:=∅
theorem ADn:Str.ofString ")"=sW kR:=∅
theorem mZ(c:Nat):∀l:List Nat,((spl c l).map fun w=>w.length+1).sum=l.length+1
 | []=>rfl
 | a::l=>by
  have ih:=mZ c l;by_cases e:a=c
  ·subst e;rw[mq,zw,kz,ih,qr];show 0+1+_=_;lia
  ·rw[Wz l e,zw,kz,qr,qr];rw[Qu c l,zw,kz] at ih;lia
theorem gF{a:Nat}:∀{l:List Nat},a∈l->a<=l.sum
 | b::l,h=>by
  rw[kz];rcases zo.mp h with z | z
  ·lia
  ·have:=gF z;lia
theorem Zb(p:Wd):(Hq p).length<=p.length+1:=by
 have a:=N7 p;have b:=Q7 p;unfold Hq;simp only[zh,jc5,qr,jk1];lia
theorem Zt:∀ps:List Wd,(ps.flatMap Hq).length<=(ps.map fun w=>w.length+1).sum
 | []=>qq _
 | p::ps=>by
  rw[je7,zh,zw,kz];have:=Zt ps;have:=Zb p;lia
theorem tK{ps:List Wd}(i:Nat):((ps.take i).flatMap Hq).length<=(ps.flatMap Hq).length:=by
 conv=>rhs;rw[<-List.take_append_drop i ps,jh9,zh]
 lia
theorem Rv{α:Type}(v:α):∀k:Nat,(List.replicate k [v]).flatten=List.replicate k v
 | 0=>rfl
 | k+1=>by rw[ja5,je8,Rv v k];rfl
theorem zu(p:Wd):(Hq p).map (fun w=>V.str (sW w))=List.replicate (p.length-(opd p).length) (V.str (sW kL))++[V.str (sW (core p))]++List.replicate ((opd p).length-(core p).length) (V.str (sW kR)):=by
 unfold Hq;simp
theorem xW:∀p:Wd,p.length-(opd p).length<=p.count 40
 | []=>qq _
 | a::p=>by
  by_cases e:a=40
  ·subst e;rw[Ma,List.count_cons_self,qr];have:=xW p;have:=N7 p;lia
  ·rw[show opd (a::p)=a::p by simp[opd,jc3,e]];lia
noncomputable def opn(p:Wd):Nat:=p.length-(opd p).length
noncomputable def cls(p:Wd):Nat:=(opd p).length-(core p).length
def Dok(c:Int):List Wd->Prop
 | []=>True
 | w::r=>c+(opn w:Int)<=40/\Dok (c+(opn w:Int)-(cls w:Int)) r
noncomputable def dpf:List Wd->Int
 | []=>0
 | w::r=>(opn w:Int)-(cls w:Int)+dpf r
def tQ:Sp:=fun vs H Q _=>∃z:Str,An6 (vs=[.str z]) (TOk z) ((cpl z).length<=4000) (∀p∈spl 32 (cpl z),core p≠[]) (Dok 0 (spl 32 (cpl z))) (∀l H',Az H H'->H' l=some (.lst ((tks (spl 32 (cpl z))).map fun w=>.str (sW w)))->Q (.ref l) H')
structure Wf(ws ts:List Wd)(b:Nat):Prop where
 ne:ws≠[]
 bl:∀w∈ws,32∉w
 co:∀w∈ws,core w≠[]
 tk:tks ws=ts
 dk:∀c:Int,c+(b:Int)<=40->Dok c ws
 dp:dpf ws=0
 as:∀w∈ws,∀c∈w,c<128
def gs(c:Nat):Prop:=c<128/\c≠32/\c≠40/\c≠41
theorem Wf.one{w:Wd}(ne:w≠[])(g:∀c∈w,gs c):Wf [w] [w] 0:=by
 have h1:w.head?≠some 40:=fun z=>(g 40 (List.mem_of_mem_head? z)).2.2.1 rfl;have h2:w.getLast?≠some 41:=fun z=>(g 41 (List.mem_of_getLast? z)).2.2.2 rfl;have s:∀x∈[w],x=w:=fun x h=>xc.mp h;have e0:opn w=0:=by
  have:=xW w;rw[List.count_eq_zero.mpr fun z=>(g 40 z).2.2.1 rfl] at this;exact Nat.le_zero.mp this
 have e1:cls w=0:=by
  unfold cls;rw[Oe h1 h2];exact Nat.sub_eq_zero_of_le (N7 w)
 refine⟨by simp,fun x h=>by rw[s x h];exact fun z=>(g 32 z).2.1 rfl,fun x h=>by rw[s x h,Oe h1 h2];exact ne,by rw[mG (jV h1 h2)];rfl,fun c h=>⟨by rw[e0];exact h,trivial⟩,by simp[dpf,e0,e1],fun x h=>by rw[s x h];exact fun c hc=>(g c hc).1⟩
theorem gW:∀ws r:List Wd,dpf (ws++r)=dpf ws+dpf r
 | [],r=>(jq1 _).symm
 | w::ws,r=>by
  show _+dpf (ws++r)=_+dpf ws+_;rw[gW ws r];lia
theorem Dok.app:∀{ws r:List Wd} {c:Int},Dok c ws->Dok (c+dpf ws) r->Dok c (ws++r)
 | [],r,c,_,h=>by rwa [show dpf []=0 from rfl,jd6] at h
 | w::ws,r,c,h,g=>⟨h.1,Dok.app h.2 (by
  rwa [show c+(opn w:Int)-(cls w:Int)+dpf ws=c+dpf (w::ws) by show _=c+((opn w:Int)-(cls w:Int)+dpf ws);lia])⟩
theorem Wf.app{ws ts ws' ts':List Wd}{b':Nat}(A:Wf ws ts b)(B:Wf ws' ts' b'):Wf (ws++ws') (ts++ts') (max b b'):=
 ⟨fun z=>A.ne (List.append_eq_nil_iff.mp z).1,fun w h=>(yi.mp h).elim (A.bl w) (B.bl w),fun w h=>(yi.mp h).elim (A.co w) (B.co w),by rw[tH,A.tk,B.tk],fun c h=>(A.dk c ⋯).app (by rw[A.dp];exact B.dk _ ⋯),by rw[gW,A.dp,B.dp];rfl,fun w h=>(yi.mp h).elim (A.as w) (B.as w)⟩
theorem pJ{p:Wd}(h:core p≠[]):opn (p++[41])=opn p/\cls (p++[41])=cls p+1:=by
 unfold opn cls;have:=Q7 p;rw[Xk (KC h),Kq (KC h),zh,zh];exact⟨by simp,by show(opd p).length+1-_=_;lia⟩
theorem AAR(w:Wd):opn (40::w)=opn w+1/\cls (40::w)=cls w:=by
 unfold opn cls;rw[Ma,G6,qr];have:=N7 w;exact⟨⋯,rfl⟩
theorem ADL:∀{ws:List Wd} {c:Int},ws≠[]->(∀w∈ws,core w≠[])->Dok c ws->Dok c (bB ws)/\dpf (bB ws)=dpf ws-1
 | [],_,n,_,_=>absurd rfl n
 | [w],c,_,h,d=>by
  obtain⟨e1,e2⟩:=pJ (h w (.head _));refine⟨⟨by rw[e1];exact d.1,trivial⟩,?_⟩;show(opn (w++[41]):Int)-(cls (w++[41]):Int)+0=(opn w:Int)-(cls w:Int)+0-1;rw[e1,e2];lia
 | w::y::r,c,_,h,d=>by
  obtain⟨a,b⟩:=ADL (ws:=y::r) (by simp) (fun x hx=>h x (.tail _ hx)) d.2;refine⟨⟨d.1,a⟩,?_⟩;show _+dpf (bB (y::r))=_+dpf (y::r)-1;rw[b];lia
theorem AEH{ws:List Wd}{c:Int}(n:ws≠[])(d:Dok (c+1) ws):Dok c (bA ws)/\dpf (bA ws)=dpf ws+1:=by
 cases ws with
 | nil=>exact absurd rfl n
 | cons w r=>
  obtain⟨e1,e2⟩:=AAR w;refine⟨⟨by rw[e1];have:=d.1;lia,?_⟩,?_⟩
  ·have:=d.2;rw[e1,e2]
   rwa [show c+((opn w+1:Nat):Int)-(cls w:Int)=c+1+(opn w:Int)-(cls w:Int) by lia]
  ·show(opn (40::w):Int)-(cls (40::w):Int)+dpf r=(opn w:Int)-(cls w:Int)+dpf r+1;rw[e1,e2];lia
theorem Wf.wrap{ws ts:List Wd}(A:Wf ws ts b):Wf (bB (bA ws)) (kL::(ts++[kR])) (b+1):=by
 have cA:∀w∈bA ws,core w≠[]:=by
  have:=A.co;cases ws with
  | nil=>exact fun _ h=>nomatch h
  | cons w r=>
   intro x hx;rcases zo.mp hx with z | z
   ·rw[z,G6];exact this w (.head _)
   ·exact this x (.tail _ z)
 have mem:∀{P:Nat->Prop},P 40->P 41->(∀w∈ws,∀c∈w,P c)->∀w∈bB (bA ws),∀c∈w,P c:=fun{P} p0 p1 h w hw c hc=>by
  obtain⟨x,hx,e⟩:=Ye hw A.ne;have:=h x hx;rcases e with e | e | e | e<;>subst e
  ·exact this c hc
  ·rcases zo.mp hc with z | z
   ·exact z ▸ p0
   ·exact this c z
  ·rcases yi.mp hc with z | z
   ·exact this c z
   ·exact(xc.mp z) ▸ p1
  ·rcases zo.mp hc with z | z
   ·exact z ▸ p0
   ·rcases yi.mp z with z | z
    ·exact this c z
    ·exact(xc.mp z) ▸ p1
 have dA:∀c:Int,c+((b+1:Nat):Int)<=40->Dok c (bB (bA ws))/\dpf (bB (bA ws))=0:=fun c h=>by
  obtain⟨a,e⟩:=AEH (c:=c) A.ne (A.dk (c+1) ⋯);obtain⟨a,f⟩:=ADL (Pn A.ne) cA a;exact⟨a,by rw[f,e,A.dp];rfl⟩
 refine⟨aZ (Pn A.ne),fun w hw z=>mem (P:=(· ≠32)) nofun nofun (fun w h c hc e=>A.bl w h (e ▸ hc)) w hw 32 z rfl,fun w hw=>?_,by rw[mD A.ne A.co,A.tk],fun c h=>(dA c h).1,(dA (-(b:Int)) ⋯).2,mem nofun nofun A.as⟩;obtain⟨x,hx,e⟩:=Ye hw A.ne;have c:=A.co x hx;rcases e with e | e | e | e<;>subst e
 ·exact c
 ·rw[G6];exact c
 ·rw[Kq (KC c)];exact c
 ·rw[Kq (KC (by rw[G6];exact c)),G6];exact c
theorem Sy{n:Int}(h:Sm n):Wf [nW n] [nW n] 0:=.one (AAV h) fun c hc=>by
 have:=Hw h c hc;unfold gs;lia
theorem Qt{m:Option Int}(h:PT.okS m):Wf [Fg m] [Fg m] 0:=by
 cases m with
 | none=>exact .one ∅ (by unfold gs;ac_rfl)
 | some i=>exact Sy (h i rfl)
namespace PT
noncomputable def wd:PT->List Wd
 | lf b=>[sg (lfS b)]
 | each n r=>[sg "each",nW n,sg "from",nW r]
 | date nm m d y=>[sg "date"]++([nm]++([Fg m]++([Fg d]++yrW y)))
 | no p=>bB (bA ([sg "not"]++p.wd))
 | la k p=>bB (bA ([nW k]++([sg "later"]++p.wd)))
 | nt k p q=>bB (bA ([nW k]++([sg "of"]++(p.wd++([sg "from"]++q.wd)))))
 | pr w p q=>bB (bA (p.wd++([sg w.s]++q.wd)))
noncomputable def br:PT->Nat
 | no p=>p.br+1
 | la _ p=>p.br+1
 | nt _ p q=>p.br+q.br+1
 | pr _ p q=>p.br+q.br+1
 | _=>0
noncomputable def lv:PT->Nat
 | no p=>p.lv
 | la _ p=>p.lv
 | nt _ p q=>p.lv+q.lv
 | pr _ p q=>p.lv+q.lv
 | _=>1
theorem Qc{z:String}(ne:sg z≠[]:=by ac_rfl)(h:∀c∈sg z,gs c:=by unfold gs;ac_rfl):Wf [sg z] [sg z] 0:=.one ne h
theorem wf:∀{p:PT},p.ok->Wf p.wd p.tok p.deep
 | lf b,_=>by cases b<;>exact Qc
 | each n r,h=>((Qc (z:="each")).app ((Sy h.1).app ((Qc (z:="from")).app (Sy h.2.1))))
 | date nm m d y,h=>by
  have a:Wf [nm] [nm] 0:=.one (fun z=>by have:=h.1.lo;rw[z] at this;exact absurd this nofun) fun c hc=>by
   have:=h.1.ch c hc;unfold gs;lia
  cases y with
  | none=>exact(Qc (z:="date")).app (a.app ((Qt h.2.1).app (Qt h.2.2.1)))
  | some y=>
   have o:=h.2.2.2.1 y rfl;exact(Qc (z:="date")).app (a.app ((Qt h.2.1).app ((Qt h.2.2.1).app ((Qc (z:="each")).app ((Sy o.1).app ((Qc (z:="from")).app (Sy o.2.1)))))))
 | no p,h=>by
  have:=((Qc (z:="not")).app (wf (p:=p) h)).wrap
  rwa [Nat.zero_max] at this
 | la k p,h=>by
  have:=((Sy h.1).app ((Qc (z:="later")).app (wf h.2))).wrap
  rwa [Nat.zero_max,Nat.zero_max] at this
 | nt k p q,h=>by
  have:=((Sy h.1).app ((Qc (z:="of")).app ((wf h.2.1).app ((Qc (z:="from")).app (wf h.2.2.1))))).wrap;simpa [tok,wd,deep] using this
 | pr w p q,h=>by
  have k:Wf [sg w.s] [sg w.s] 0:=by cases w<;>exact Qc
  have:=((wf h.1).app (k.app (wf h.2))).wrap;simpa [tok,wd,deep] using this
noncomputable def tx(p:PT):Wd:=jn p.wd
end PT
namespace PT
theorem wd_ne:∀p:PT,p.wd≠[]
 | lf _=>by simp[wd]
 | each .. =>by simp[wd]
 | date .. =>by simp[wd]
 | no _=>aZ (Pn (by simp))
 | la .. =>aZ (Pn (by simp))
 | nt .. =>aZ (Pn (by simp))
 | pr .. =>aZ (Pn (by simp))
theorem jw{ps:List Wd}(h:ps≠[]):jn (bB (bA ps))=sg "("++jn ps++sg ")":=by
 rw[xg (Pn h),ACx h,show sg "("=[40] by ac_rfl,show sg ")"=[41] by ac_rfl];rfl
theorem j1{w:Wd}{ps:List Wd}(h:ps≠[]):jn ([w]++ps)=w++sg " "++jn ps:=by
 rw[jg3,JX h,bsg];simp
theorem ja(p:PT){ps:List Wd}(h:ps≠[]):jn (p.wd++ps)=p.tx++sg " "++jn ps:=by
 rw[qJ p.wd_ne h,bsg];simp[tx]
theorem zY:sg "each "=sg "each"++sg " ":=∅
theorem oF:sg " from "=sg " "++sg "from"++sg " ":=∅
theorem tx_each(n r:Int):tx (each n r)=gR n r:=by
 unfold gR;rw[zY,oF,bsg];simp[tx,wd,jn]
theorem tx_date0(nm:Wd)(m d:Option Int):tx (date nm m d none)=yD nm m d:=by
 unfold yD;rw[dsg,bsg];simp[tx,wd,jn,yrW]
theorem tx_no(p:PT):tx (no p)=sg "(not "++p.tx++sg ")":=by
 show jn _=_;rw[wd,jw (by simp),j1 p.wd_ne,show sg "(not "=sg "("++sg "not"++sg " " by ac_rfl];simp[tx]
theorem tx_la(k:Int)(p:PT):tx (la k p)=sg "("++nW k++sg " later "++p.tx++sg ")":=by
 show jn _=_;rw[wd,jw (by simp),j1 (by simp),j1 p.wd_ne,show sg " later "=sg " "++sg "later"++sg " " by ac_rfl];simp[tx]
theorem ADp:sg " of "=sg " "++sg "of"++sg " ":=∅
theorem tx_nt(k:Int)(p q:PT):tx (nt k p q)=sg "("++nW k++sg " of "++p.tx++sg " from "++q.tx++sg ")":=by
 show jn _=_;rw[wd,jw (by simp),j1 (by simp),j1 (by simp),ja p (by simp),j1 q.wd_ne,ADp,oF];simp[tx]
noncomputable def _root_.Fw.PK.t:PK->String | .an=>" and " | .or=>" or " | .bu=>" but " | .ul=>" unlike " | .up=>" upon " | .un=>" until " | .ne=>" near " | .ti=>" till "
theorem pk_t(w:PK):sg w.t=sg " "++sg w.s++sg " ":=by cases w<;>ac_rfl
theorem tx_pr(w:PK)(p q:PT):tx (pr w p q)=sg "("++p.tx++sg w.t++q.tx++sg ")":=by
 show jn _=_;rw[wd,jw (by simp[wd_ne]),ja p (by simp),j1 q.wd_ne,pk_t];simp[tx]
theorem lv_br:∀p:PT,p.lv<=p.br+1/\1<=p.lv/\p.deep<=p.br
 | lf _=>by simp[lv,br,deep]
 | each .. =>by simp[lv,br,deep]
 | date .. =>by simp[lv,br,deep]
 | no p=>by have:=lv_br p;simp only[lv,br,deep];lia
 | la _ p=>by have:=lv_br p;simp only[lv,br,deep];lia
 | nt _ p q=>by have:=lv_br p;have:=lv_br q;simp only[lv,br,deep];lia
 | pr _ p q=>by have:=lv_br p;have:=lv_br q;simp only[lv,br,deep];lia
theorem rdy{p:PT}(h:p.ok)(hl:p.tx.length<=4000)(hd:p.deep<=40):spl 32 p.tx=p.wd/\TOk (sW p.tx)/\Dok 0 p.wd/\∀q∈p.wd,core q≠[]:=by
 have W:=wf h;refine⟨Wx W.ne W.bl,⟨GC.mpr fun c hc=>?_,by rw[DQ];lia⟩,W.dk 0 ⋯,W.co⟩;rw[Bp] at hc;by_cases e:c=32
 ·lia
 ·obtain⟨w,hw,m⟩:=X3 e hc;exact W.as w hw c m
section
variable(g:Bq)
noncomputable def sz:PT->Int
 | lf _=>1
 | each n _=>n
 | date .. =>g.cy.2
 | no p=>p.sz
 | la _ p=>p.sz
 | nt _ p q=>Bj p.sz q.sz
 | pr _ p q=>Bj p.sz q.sz
noncomputable def _root_.Fw.ep(z:Int)(P:Nat->Prop):Nat:=Classical.epsilon fun c=>c<2^z.toNat/\P c
noncomputable def bt:PT->Nat
 | lf b=>ep 1 fun c=>c=if b then 1 else 0
 | each n r=>ep n fun c=>RB n [r] c
 | date _ m i _=>ep g.cy.2 fun c=>RB g.cy.2 (dtL g m i g.cy.1.toNat) c
 | no p=>ep (p.sz g) fun c=>OtR (p.sz g) (bt p) c
 | la k p=>ep (p.sz g) fun c=>c=ltr (p.sz g) (bt p) k
 | nt k p q=>ep (Bj (p.sz g) (q.sz g)) fun c=>WR (KtU k) (p.sz g) (bt p) (q.sz g) (bt q) (Bj (p.sz g) (q.sz g)) c
 | pr w p q=>ep (Bj (p.sz g) (q.sz g)) fun c=>w.R (p.sz g) (bt p) (q.sz g) (bt q) (Bj (p.sz g) (q.sz g)) c
def rl:PT->Nat->Prop
 | lf b,c=>c=if b then 1 else 0
 | each n r,c=>RB n [r] c
 | date _ m i _,c=>RB g.cy.2 (dtL g m i g.cy.1.toNat) c
 | no p,c=>OtR (p.sz g) (p.bt g) c/\p.bt g<2^(p.sz g).toNat/\rl p (p.bt g)
 | la k p,c=>c=ltr (p.sz g) (p.bt g) k/\p.bt g<2^(p.sz g).toNat/\rl p (p.bt g)
 | nt k p q,c=>WR (KtU k) (p.sz g) (p.bt g) (q.sz g) (q.bt g) (Bj (p.sz g) (q.sz g)) c/\(p.bt g<2^(p.sz g).toNat/\rl p (p.bt g))/\q.bt g<2^(q.sz g).toNat/\rl q (q.bt g)
 | pr w p q,c=>w.R (p.sz g) (p.bt g) (q.sz g) (q.bt g) (Bj (p.sz g) (q.sz g)) c/\(p.bt g<2^(p.sz g).toNat/\rl p (p.bt g))/\q.bt g<2^(q.sz g).toNat/\rl q (q.bt g)
end
def r0(g:Bq):PT->Nat->Prop
 | no p,c=>OtR (p.sz g) (p.bt g) c
 | la k p,c=>c=ltr (p.sz g) (p.bt g) k
 | nt k p q,c=>WR (KtU k) (p.sz g) (p.bt g) (q.sz g) (q.bt g) (Bj (p.sz g) (q.sz g)) c
 | pr w p q,c=>w.R (p.sz g) (p.bt g) (q.sz g) (q.bt g) (Bj (p.sz g) (q.sz g)) c
 | p,c=>p.rl g c
variable{g:Bq}
theorem ACY:∀{p:PT},p.rl g c->p.r0 g c
 | lf _,h=>h
 | each ..,h=>h
 | date ..,h=>h
 | no _,h=>h.1
 | la ..,h=>h.1
 | nt ..,h=>h.1
 | pr ..,h=>h.1
theorem uq{c':Nat}:∀{p:PT},c<2^(p.sz g).toNat->c'<2^(p.sz g).toNat->p.r0 g c->p.r0 g c'->c=c'
 | lf _,_,_,h,h'=>h.trans h'.symm
 | each ..,_,_,h,h'=>RB.uniq h h'
 | date ..,_,_,h,h'=>RB.uniq h h'
 | no _,_,_,h,h'=>OtR.uniq h h'
 | la ..,_,_,h,h'=>h.trans h'.symm
 | nt ..,l,l',h,h'=>cQ l l' fun d=>(h d).trans (h' d).symm
 | pr w _ _,l,l',h,h'=>by
  cases w
  all_goals first | exact Bo.uniq h h' | exact cQ l l' fun d=>(h d).trans (h' d).symm
theorem ADR(p:PT):p.bt g=ep (p.sz g) (p.r0 g):=by cases p<;>rfl
theorem bt_of{p:PT}(l:c<2^(p.sz g).toNat)(h:p.rl g c):p.bt g=c:=by
 have:=Classical.epsilon_spec (p:=fun c=>c<2^(p.sz g).toNat/\p.r0 g c) ⟨c,l,ACY h⟩;rw[ADR];exact uq this.1 l this.2 (ACY h)
theorem sz_pos(hD:SmC g):∀{p:PT},p.ok->0<p.sz g
 | lf _,_=>by simp only[sz];decide
 | each ..,h=>by have:=h.2.2.1;simp only[sz];lia
 | date ..,_=>by have:=hD.d0;simp only[sz];lia
 | no p,h=>sz_pos hD (p:=p) h
 | la _ p,h=>sz_pos hD (p:=p) h.2
 | nt _ p q,h=>(BV (sz_pos hD h.2.1) (sz_pos hD h.2.2.1)).1
 | pr _ p q,h=>(BV (sz_pos hD h.1) (sz_pos hD h.2)).1
end PT
def PT.kn:PT->Prop
 | .date nm _ _ y=>nm=sg "c"/\y=none
 | .no p=>p.kn
 | .la _ p=>p.kn
 | .nt _ p q=>p.kn/\q.kn
 | .pr _ p q=>p.kn/\q.kn
 | _=>True
def Dc(K:Fr)(CS CO CM:Addr)(g:Bq)(H:Hp)(a:Addr):Prop:=∃kv y,H a=some (.dK kv)/\GF kv (.inr (sW (sg "c")))=some (.ref y)/\FQ K CS CO CM H y g
theorem Dc.same{CS CO CM:Addr}(d:Dc K CS CO CM g H a)(s:Az H H'):Dc K CS CO CM g H' a:=by
 obtain⟨kv,y,h,e,C⟩:=d;exact⟨kv,y,s _ _ h,e,C.same s⟩
section
variable(K:Fr)(CR:Addr)(CL:List Addr)(CS CO CM:Addr)
def Tl(g:Bq)(p:PT)(H:Hp)(Q:VK):Prop:=∀x H',Az H H'->Cw K CR CL H' x (p.sz g) (p.bt g)->p.rl g (p.bt g)->Q (.ref x) H'
def uF:Sp:=fun vs H Q _=>Ex5 fun(v:V) (a:Addr) (m d:Option Int) (g:Bq)=>An6 (vs=[v,.ref a]) (PlH H (.date (sg "c") m d none) v) ((PT.date (sg "c") m d none).ok) (SmC g) (Dc K CS CO CM g H a) (Tl K CR CL g (.date (sg "c") m d none) H Q)
def uE:Sp:=fun vs H Q _=>Ex7 fun(w:PK) (x y:Addr) (n1 n2:Int) (b1 b2:Nat)=>An5 (vs=[.str w.s,.ref x,.ref y]) (Cw K CR CL H x n1 b1) (Cw K CR CL H y n2 b2) (Bj n1 n2<=150000) (∀z b H',Az H H'->Cw K CR CL H' z (Bj n1 n2) b->w.R n1 b1 n2 b2 (Bj n1 n2) b->Q (.ref z) H')
def RT(d:Nat):Sp:=fun vs H Q _=>Ex4 fun(v:V) (a:Addr) (p:PT) (g:Bq)=>An9 (vs=[v,.ref a]) (PlH H p v) p.ok p.kn (p.deep<d) (SmC g) (Dc K CS CO CM g H a) (p.sz g<=150000) (Tl K CR CL g p H Q)
def yo:Sp:=fun vs H Q _=>Ex3 fun(a:Addr) (p:PT) (g:Bq)=>ABd (vs=[.str (sW p.tx),.ref a]) p.ok p.kn (p.tx.length<=4000) (p.deep<=40) (p.lv+p.br<=200) (SmC g) (Dc K CS CO CM g H a) (p.sz g<=150000) (Tl K CR CL g p H Q)
end
theorem Tl.go{CR:Addr}{CL:List Addr}{p:PT}(q:Tl K CR CL g p H Q)(s:Az H H')(N:Cw K CR CL H' x (p.sz g) b)(r:p.rl g b):Q (.ref x) H':=by
 have e:=PT.bt_of N.lt r;exact q x H' s (e.symm ▸ N) (e.symm ▸ r)
theorem Ys{CR:Addr}{CL:List Addr}{CS CO CM:Addr}{vs:List V}(h:RT K CR CL CS CO CM 0 vs H Q E):False:=by
 obtain⟨v,a,p,D,_,_,_,_,h,_⟩:=h;lia
section
variable{K:Fr}{CR:Addr}{CL:List Addr}{C:Addr}{H:Hp}{y dy:Addr}{Q:VK}{E:XK}
theorem Ii(hy:H y=none)(hdy:H dy=none)(ne:dy≠y):Az H (upd (upd H dy (.own y)) y o):=(Ar hdy _).trans (Ar (by rw[BK (Ne.symm ne)];exact hy) _)
theorem M6.go{n:Int}{G:Nat->Prop}(hy:H y=none)(hdy:H dy=none)(ne:dy≠y)(q:∀b H',Az H H'->Cw K CR CL H' y n b->G b->Q .non H'):M6 K CR CL C (upd (upd H dy (.own y)) y (.ins C dy [])) y Q n G:=
 ⟨⟨dy,Am⟩,fun b H' k N g=>q b H' (Vu hy hdy ne k) N g⟩
theorem ADv{R:Rel}{r t:Addr}(R1:Cw K CR CL H r n1 b1)(R2:Cw K CR CL H t n2 b2)(lz:Bj n1 n2<=150000)(hy:H y=none)(hdy:H dy=none)(ne:dy≠y)(q:∀b H',Az H H'->Cw K CR CL H' y (Bj n1 n2) b->R n1 b1 n2 b2 (Bj n1 n2) b->Q .non H'):Lk K CR CL C R [.ref y,.ref r,.ref t] (upd (upd H dy (.own y)) y (.ins C dy [])) Q E:=
 ⟨y,r,t,n1,n2,b1,b2,rfl,R1.same (Ii hy hdy ne),R2.same (Ii hy hdy ne),lz,.go hy hdy ne q⟩
end
theorem ACi(w:PK):∀z∈["all","none","each","date","not","later","every","of"],Str.ofString w.s≠Str.ofString z:=by cases w<;>ac_rfl
theorem qC{a b:Int}(h1:0<a)(h2:0<b):a<=Bj a b/\b<=Bj a b:=by
 have f:=BV h1 h2;exact⟨jk6 f.1 f.2.1,jk6 f.1 f.2.2.1⟩
namespace PT
theorem tok_len:∀p:PT,p.tok.length<=10*(p.lv+p.br)
 | lf _=>by simp[tok,lv,br]
 | each .. =>by simp[tok,lv,br]
 | date _ _ _ none=>by simp[tok,yrW,lv,br]
 | date _ _ _ (some _)=>by simp[tok,yrW,lv,br]
 | no p=>by have:=tok_len p;simp[tok,lv,br];lia
 | la _ p=>by have:=tok_len p;simp[tok,lv,br];lia
 | nt _ p q=>by have:=tok_len p;have:=tok_len q;simp[tok,lv,br];lia
 | pr _ p q=>by have:=tok_len p;have:=tok_len q;simp[tok,lv,br];lia
theorem tok_ok{p:PT}(h:p.ok):∀w∈p.tok,TOk (sW w):=by
 have num:∀{n:Int},Sm n->TOk (sW (nW n)):=fun{n} h=>⟨GC.mpr fun c hc=>by rw[Bp] at hc;have:=Hw h c hc;lia,by rw[DQ];have:=Es h;lia⟩;have str:∀{m:Option Int},okS m->TOk (sW (Fg m)):=fun{m} h=>by
  cases m with
  | none=>exact⟨∅,∅⟩
  | some i=>exact num (h i rfl)
 have all:∀{ws:List Wd} {w:Wd},TOk (sW w)->(∀x∈ws,TOk (sW x))->∀x∈w::ws,TOk (sW x):=fun h g x hx=>(zo.mp hx).elim (fun e=>e ▸ h) (g x);have app:∀{ws vs:List Wd},(∀x∈ws,TOk (sW x))->(∀x∈vs,TOk (sW x))->∀x∈ws++vs,TOk (sW x):=fun h g x hx=>(yi.mp hx).elim (h x) (g x);have nil:∀x∈([]:List Wd),TOk (sW x):=fun _ h=>nomatch h;have L:TOk (sW kL):=⟨∅,∅⟩;have R:TOk (sW kR):=⟨∅,∅⟩;have k1:TOk (sW (sg "each")):=⟨∅,∅⟩;have k2:TOk (sW (sg "from")):=⟨∅,∅⟩;have k3:TOk (sW (sg "of")):=⟨∅,∅⟩
 induction p with
 | lf b=>cases b<;>exact all ⟨∅,∅⟩ nil
 | each n r=>exact all k1 (all (num h.1) (all k2 (all (num h.2.1) nil)))
 | date nm m d y=>
  refine all ⟨∅,∅⟩ (all ⟨GC.mpr fun c hc=>by rw[Bp] at hc;have:=h.1.ch c hc;lia,by rw[DQ];have:=h.1.hi;lia⟩ (all (str h.2.1) (all (str h.2.2.1) ?_)));cases y with
  | none=>exact nil
  | some y=>exact all k1 (all (num (h.2.2.2.1 y rfl).1) (all k2 (all (num (h.2.2.2.1 y rfl).2.1) nil)))
 | no p i=>exact all L (all ⟨∅,∅⟩ (app (i h) (all R nil)))
 | la k p i=>exact all L (all (num h.1) (all ⟨∅,∅⟩ (app (i h.2) (all R nil))))
 | nt k p q i j=>exact all L (all (num h.1) (all k3 (app (i h.2.1) (all k2 (app (j h.2.2.1) (all R nil))))))
 | pr w p q i j=>
  have:TOk (sW (sg w.s)):=by cases w<;>exact⟨∅,∅⟩
  exact all L (app (i h.1) (all this (app (j h.2) (all R nil))))
end PT
theorem Ez{x:V}:atI (x::xs) 0=some x:=Ej (j:=0) rfl
theorem Hf{x:V}:atI (x::y::xs) 1=some y:=Ej (j:=1) rfl
theorem Ur{x z:V}:atI (x::y::z::xs) 2=some z:=Ej (j:=2) rfl
theorem rO{x z u:V}:atI (x::y::z::u::xs) 3=some u:=Ej (j:=3) rfl
theorem AEJ{x z u v:V}:atI (x::y::z::u::v::xs) 4=some v:=Ej (j:=4) rfl
theorem AEI{x z u v w:V}:atI (x::y::z::u::v::w::xs) 5=some w:=Ej (j:=5) rfl
def Rnd(M:Nat)(H:Hp)(p:Addr)(n b:Nat):Prop:=0<n/\n<=M/\b<2^n/\H p=some (.tup [.int (n:Int),.int (b:Int)])
theorem Rnd.keep{M:Nat}{n:Nat}(h:Rnd M H p n b)(s:Az H H'):Rnd M H' p n b:=⟨h.1,h.2.1,h.2.2.1,s _ _ h.2.2.2⟩
theorem Rnd.sq{M:Nat}{n:Nat}(h:Rnd M H p n b):SqT K H p [.int (n:Int),.int (b:Int)]:=SqT.of h.2.2.2
theorem Rnd.lt{M:Nat}{n:Nat}(h:Rnd M H p n b):b<2^((n:Int)).toNat:=by rw[xa];exact h.2.2.1
theorem Rnd.n0{M:Nat}{n:Nat}(h:Rnd M H p n b):(0:Int)<(n:Int):=by have:=h.1;lia
theorem Rnd.new{M:Nat}{n:Nat}(hn:0<n)(hM:n<=M)(hb:b<2^n):Rnd M (upd H p (.tup [.int (n:Int),.int (b:Int)])) p n b:=⟨hn,hM,hb,Am⟩
theorem qt{a:Nat}:decide (V.int (a:Int)=V.int 0)=decide (a=0):=by
 rw[Qr,decide_eq_true_eq,decide_eq_true_eq,V.int.injEq];lia
structure Fo(n:Int)(b:Nat)(z:Int)(c:Nat):Prop where
 lt:c<2^z.toNat
 bit:∀r,r<z.toNat->(c.testBit r=true<->∃k,r+k*z.toNat<n.toNat/\b.testBit (r+k*z.toNat)=true)
def nO(K:Fr):Sp:=fun vs H Q _=>Ex4 fun(a:Addr) (n z:Int) (b:Nat)=>An8 (vs=[.ref a,.int z]) (SqT K H a [.int n,.int (b:Int)]) (0<n) (n<=150000) (b<2^n.toNat) (0<z) (z∣n) (∀(p:Addr) (c:Nat),H p=none->Fo n b z c->Q (.ref p) (upd H p (.tup [.int z,.int (c:Int)])))
structure Rst(n:Nat)(h:Nat->Bool)(z c:Nat):Prop where
 lt:c<2^z
 bit:∀r,r<z->(c.testBit r=true<->∃i,i<n/\h i=true/\i%z=r)
theorem Fo.rst{n z:Nat}(F:Fo (n:Int) b (z:Int) c)(z0:0<z):Rst n b.testBit z c:=by
 have hl:=F.lt;have hb:=F.bit;rw[xa] at hl hb;rw[xa] at hb;refine⟨hl,fun r hr=>(hb r hr).trans ⟨?_,?_⟩⟩
 ·rintro⟨k,h1,h2⟩;exact⟨r+k*z,h1,h2,by rw[Nat.add_mul_mod_self_right,jf9 hr]⟩
 ·rintro⟨i,h1,h2,h3⟩;have e:=jp4 i z;rw[h3,Nat.mul_comm] at e;exact⟨i/z,by rw[e];exact h1,by rw[e];exact h2⟩
def yz(K:Fr):Sp:=fun vs H Q _=>Ex4 fun(a:Addr) (n d:Int) (b:Nat)=>An8 (vs=[.ref a,.int d]) (SqT K H a [.int n,.int (b:Int)]) (0<n) (n<=150000) (b<2^n.toNat) (Bt 200 d) ((∀e,On n b e=false)->∀H',Az H H'->Q .non H') (∀(r:Int) (H':Hp),Az H H'->d<=r->On n b r=true->(∀e,d<=e->e<r->On n b e=false)->Q (.int r) H')
structure Met(r a r' b d:Int):Prop where
 lo:0<=d
 hi:d<Bj a b
 al:∀day:Int,(a∣day-r/\b∣day-r')<->Bj a b∣day-d
def ACH:Sp:=fun vs H Q _=>Ex4 fun(r a r' b:Int)=>An9 (vs=[.int r,.int a,.int r',.int b]) (0<a) (0<b) (Bt 400 a) (Bt 400 b) (Bt 400 r) (Bt 400 r') (¬(Int.gcd a b:Int)∣r'-r->∀H',Az H H'->Q .non H') ((Int.gcd a b:Int)∣r'-r->∀(p:Addr) (d:Int) (H':Hp),Az H H'->H' p=some (.tup [.int d,.int (Bj a b)])->Met r a r' b d->Q (.ref p) H')
def nZ:Sp:=fun vs H Q _=>Ex3 fun(r n d:Int)=>An3 (vs=[.int r,.int n,.int d]) (1<=n) (Q (.int (d+(r-d)%n)) H)
structure FP(n b m c:Nat)(d:Int)(xs:List Int)(dn:Int->Int->Prop):Prop where
 ok:∀x∈xs,d<=x/\x<d+Bj (n:Int) (m:Int)/\On (n:Int) b x=true/\On (m:Int) c x=true
 all:∀r s,dn r s->∀day,d<=day->(n:Int)∣day-r->(m:Int)∣day-s->∃x∈xs,x<=day
theorem FP.start{n:Nat}:FP n b m c d [] (fun _ _=>False):=⟨(fun x hx=>nomatch hx),(fun r s h=>h.elim)⟩
theorem FP.imp{n:Nat}{xs:List Int}{p q:Int->Int->Prop}(F:FP n b m c d xs p)(h:∀r s,q r s->p r s):FP n b m c d xs q:=⟨F.ok,fun r s hq=>F.all r s (h r s hq)⟩
theorem FP.skip{n:Nat}{xs:List Int}{p:Int->Int->Prop}{r s:Int}(F:FP n b m c d xs p)(h:¬(Int.gcd (n:Int) (m:Int):Int)∣s-r):FP n b m c d xs (fun x y=>p x y\/(x=r/\y=s)):=by
 refine⟨F.ok,fun x y hxy day hd h1 h2=>?_⟩;rcases hxy with z | ⟨rfl,rfl⟩
 ·exact F.all x y z day hd h1 h2
 ·refine absurd ?_ h;have e:y-x=(day-x)-(day-y):=⋯
  rw[e];exact Int.dvd_sub (ja2 (jf8 ..) h1) (ja2 (jh1 ..) h2)
theorem FP.add{n:Nat}{xs:List Int}{p:Int->Int->Prop}{r s:Int}(n0:0<n)(m0:0<m)(F:FP n b m c d xs p)(M:Met r (n:Int) s (m:Int) e)(hr:On (n:Int) b r=true)(hs:On (m:Int) c s=true):
 FP n b m c d (xs++[d+(e-d)%Bj (n:Int) (m:Int)]) (fun x y=>p x y\/(x=r/\y=s)):=by
 have f:=BV (a:=(n:Int)) (b:=(m:Int)) ⋯ ⋯;have k1:=qg (e-d) (show Bj (n:Int) (m:Int)≠0 by lia);have k2:=jv (e-d) f.1;have dv:Bj (n:Int) (m:Int)∣d+(e-d)%Bj (n:Int) (m:Int)-e:=by
  have:=ky (e-d) (Bj (n:Int) (m:Int));exact⟨-((e-d)/Bj (n:Int) (m:Int)),by rw[jf1];lia⟩
 obtain⟨a1,a2⟩:=(M.al _).mpr dv;refine⟨fun x hx=>?_,fun x y hxy day hd h1 h2=>?_⟩
 ·rcases yi.mp hx with z | z
  ·exact F.ok x z
  ·cases xc.mp z;exact⟨⋯,⋯,by rw[Mg a1];exact hr,by rw[Mg a2];exact hs⟩
 ·rcases hxy with z | ⟨rfl,rfl⟩
  ·obtain⟨v,hv,l⟩:=F.all x y z day hd h1 h2;exact⟨v,jb1 _ hv,l⟩
  ·refine⟨_,yv _ (xc.mpr rfl),?_⟩;have q:=(M.al day).mp ⟨h1,h2⟩;have e1:(e-d)%Bj (n:Int) (m:Int)=(day-d)%Bj (n:Int) (m:Int):=by
    refine(vx.mpr (vj ?_)).symm;have:day-d-(e-d)=day-e:=⋯;rw[this];exact q
   have le:(day-d)%Bj (n:Int) (m:Int)<=day-d:=by
    have h3:=ky (day-d) (Bj (n:Int) (m:Int));have h4:0<=Bj (n:Int) (m:Int)*((day-d)/Bj (n:Int) (m:Int)):=jj1 ⋯ (jh0 ⋯ ⋯);lia
   lia
theorem FP.fst{n:Nat}{xs:List Int}(n0:0<n)(m0:0<m)(F:FP n b m c d xs (fun r s=>r∈dli b n/\s∈dli c m))(he:e∈xs)(hm:∀x∈xs,e<=x):Fst n b m c d e:=by
 obtain⟨h1,h2,h3,h4⟩:=F.ok e he;refine⟨h1,h2,h3,h4,fun x hd hx ⟨o1,o2⟩=>?_⟩;have k1:=qg x (show (n:Int)≠0 by lia);have k2:=jv x (show (0:Int)<(n:Int) by lia);have k3:=qg x (show (m:Int)≠0 by lia);have k4:=jv x (show (0:Int)<(m:Int) by lia);obtain⟨v,hv,l⟩:=F.all (x%(n:Int)) (x%(m:Int)) ⟨JV.mpr ⟨k1,⋯,o1⟩,JV.mpr ⟨k3,⋯,o2⟩⟩ x hd (jf0 rfl) (jf0 rfl);have:=hm v hv;lia
theorem FP.ne{n:Nat}{xs:List Int}(n0:0<n)(m0:0<m)(F:FP n b m c d xs (fun r s=>r∈dli b n/\s∈dli c m))(M:Meets n b m c):xs≠[]:=by
 obtain⟨x,o1,o2⟩:=M.day n0 m0;obtain⟨y,hd,_,p1,p2⟩:=Wc (d:=d) n0 m0 o1 o2;have k1:=qg y (show (n:Int)≠0 by lia);have k2:=jv y (show (0:Int)<(n:Int) by lia);have k3:=qg y (show (m:Int)≠0 by lia);have k4:=jv y (show (0:Int)<(m:Int) by lia);obtain⟨v,hv,_⟩:=F.all (y%(n:Int)) (y%(m:Int)) ⟨JV.mpr ⟨k1,⋯,p1⟩,JV.mpr ⟨k3,⋯,p2⟩⟩ y hd (jf0 rfl) (jf0 rfl);exact fun z=>by rw[z] at hv;cases hv
theorem dO(b:Nat):∀n,(dl b n).length=cnt b n
 | 0=>rfl
 | n+1=>by
  have e:dl b (n+1)=dl b n++(if b.testBit n then [n] else []):=by
   unfold dl;rw[jm4,jm1]
   congr 1
   cases h:b.testBit n<;>simp[List.filter,h]
  rw[e,zh,dO b n,cnt];cases b.testBit n<;>simp
def nP:Sp:=fun vs H Q _=>Ex7 fun(a1 a2:Addr) (n b m c:Nat) (d:Int)=>An6 (vs=[.ref a1,.ref a2,.int d]) (Rnd 150000 H a1 n b) (Rnd 150000 H a2 m c) (cnt b n*cnt c m<=1000) (Meets n b m c) (∀(e:Int) (H':Hp),Az H H'->Fst n b m c d e->Q (.int e) H')
def Few(n b m c:Nat):Prop:=Bj (n:Int) (m:Int)<=150000\/cnt b n*cnt c m<=1000
def zK:Sp:=fun vs H Q _=>Ex7 fun(a1 a2:Addr) (n b m c:Nat) (d:Int)=>An7 (vs=[.ref a1,.ref a2,.int d]) (Rnd 150000 H a1 n b) (Rnd 150000 H a2 m c) (Bt 200 d) (Few n b m c) (Meets n b m c) (∀(e:Int) (H':Hp),Az H H'->Fst n b m c d e->Q (.int e) H')
inductive Mtg(w0 w1:Str)(H:Hp)(p:Addr)(n b m c:Nat)(d:Int):Prop
 | never (x y:Nat):H p=some (.tup [.str w0,.int ((Nat.gcd n m:Nat):Int),.int (x:Int),.int (y:Int)])->Rst n b.testBit (Nat.gcd n m) x->Rst m c.testBit (Nat.gcd n m) y->x &&& y=0->¬Meets n b m c->Mtg w0 w1 H p n b m c d
 | meet (e:Int):H p=some (.tup [.str w1,.int e])->Fst n b m c d e->Meets n b m c->Mtg w0 w1 H p n b m c d
def iy:Sp:=fun vs H Q _=>wV fun(aw a1 a2:Addr) (w0 w1:Str) (n b m c:Nat) (d:Int)=>An7 (vs=[.ref aw,.ref a1,.ref a2,.int d]) (H aw=some (.tup [.str w0,.str w1])) (Rnd 150000 H a1 n b) (Rnd 150000 H a2 m c) (Bt 200 d) (Meets n b m c->Few n b m c) (∀(p:Addr) (H':Hp),Az H H'->Mtg w0 w1 H' p n b m c d->Q (.ref p) H')
def iz:Sp:=fun vs H Q _=>Ex7 fun(a1 a2:Addr) (n b m c:Nat) (d:Int)=>An6 (vs=[.ref a1,.ref a2,.int d]) (Rnd 150000 H a1 n b) (Rnd 150000 H a2 m c) (Bt 200 d) (Meets n b m c->Few n b m c) (∀(p:Addr) (H':Hp),Az H H'->Mtg "never" "meet" H' p n b m c d->Q (.ref p) H')
theorem Rst.meets{n x y:Nat}(n0:0<n)(m0:0<m)(R1:Rst n b.testBit (Nat.gcd n m) x)(R2:Rst m c.testBit (Nat.gcd n m) y):x &&& y=0<->¬Meets n b m c:=by
 have g0:0<Nat.gcd n m:=ji0 m n0;constructor
 ·rintro e ⟨i,j,hi,hj,hb,hc,ej⟩;have a1:=(R1.bit (i%Nat.gcd n m) (jn1 _ g0)).mpr ⟨i,hi,hb,rfl⟩;have a2:=(R2.bit (i%Nat.gcd n m) (jn1 _ g0)).mpr ⟨j,hj,hc,ej.symm⟩;have:(x &&& y).testBit (i%Nat.gcd n m)=true:=by rw[ja1,a1,a2];rfl
  rw[e,jd5] at this;cases this
 ·intro h;refine ka fun r=>?_;rw[jd5,ja1];cases e1:x.testBit r with
  | false=>rfl
  | true=>
   cases e2:y.testBit r with
   | false=>rfl
   | true=>
    exfalso;have hr:r<Nat.gcd n m:=by
     refine ji9 fun q=>?_;rw[high R1.lt q] at e1;cases e1
    obtain⟨i,hi,hb,ei⟩:=(R1.bit r hr).mp e1;obtain⟨j,hj,hc,ej⟩:=(R2.bit r hr).mp e2;exact h ⟨i,j,hi,hj,hb,hc,⋯⟩
structure Cmp(m c co:Nat):Prop where
 lt:co<2^m
 bit:∀i,i<m->co.testBit i=!c.testBit i
theorem Cmp.on{co:Nat}(h:Cmp m c co)(m0:0<m)(e:Int):On (m:Int) co e=!On (m:Int) c e:=by
 have k3:=qg e (show (m:Int)≠0 by lia);have k4:=jv e (show (0:Int)<(m:Int) by lia);unfold On;exact h.bit _ ⋯
def iY:Sp:=fun vs H Q _=>Ex7 fun(a1 a2:Addr) (n b m c:Nat) (d:Int)=>An6 (vs=[.ref a1,.ref a2,.int d]) (Rnd 150000 H a1 n b) (Rnd 150000 H a2 m c) (Bt 200 d) (∀co,Cmp m c co->Meets n b m co->Few n b m co) (∀(p:Addr) (co:Nat) (H':Hp),Az H H'->Cmp m c co->Mtg "within" "outside" H' p n b m co d->Q (.ref p) H')
noncomputable def tW(t:Tm):Wd:=43::Fd 44 ([t.2.1,t.2.2.1,t.2.2.2].map nW)
noncomputable def wC:Bq->List Wd
 | .sun s ls lp ts=>nW s::Fd 44 (ls.map nW)::sg "leap"::nW lp::ts.map tW
 | .moon s bd td bm tm=>nW s::nW bd::(td.map tW++sg "/"::nW bm::tm.map tW)
noncomputable def hC:Bq->String
 | .sun .. =>"sun"
 | .moon .. =>"moon"
noncomputable def wdC(g:Bq):List Wd:=sg (hC g)::wC g
structure Ok1(a b n:Int):Prop where
 n0:1<=n
 n1:n<=3
 a0:0<=a
 a1:a<=n
 b0:0<=b
 b1:b<n
inductive OkC:Bq->Prop
 | sun {s lp a b n:Int} {ls:List Int}:Sm s->2<=ls.length->ls.length<=3->(∀n∈ls,1<=n/\n<=4)->1<=lp->lp<=2->Ok1 a b n->OkC (.sun s ls lp [(1,a,b,n)])
 | moon {s bd a b n bm c e y:Int}:Sm s->1<=bd->bd<=3->Ok1 a b n->n<=2->1<=bm->bm<=3->Ok1 c e y->y<=2->OkC (.moon s bd [(1,a,b,n)] bm [(1,c,e,y)])
theorem Ok1.tm{a b n:Int}(o:Ok1 a b n):∀t∈[((1,a,b,n):Tm)],OkT t:=fun t ht=>by
 rw[xc.mp ht];exact⟨.inl rfl,o.n0,jj7 o.n1 nofun,o.a0,o.a1,o.b0,o.b1⟩
theorem sm1(h1:0<=i)(h2:i<=60):Sm i:=Kw ⋯ ⋯
theorem Ok1.sm{a b n:Int}(o:Ok1 a b n):∀i∈[a,b,n],Sm i:=fun i hi=>by
 obtain⟨n0,n1,a0,a1,b0,b1⟩:=o;simp only[zo,kg,or_false] at hi;exact sm1 ⋯ ⋯
theorem cI{a b n:Int}(h:1<=n):PER [((1,a,b,n):Tm)]=n:=Xy nofun (show 0<n by lia) (Int.one_dvd n)
theorem up1{c a b n u:Int}(o:Ok1 a b n):UP c [(1,a,b,n)] (n*u)=(c*n+a)*u:=by
 have n0:=o.n0;show c*(n*u)+(1*((a*(n*u)+b)/n)+0)=_;rw[show a*(n*u)+b=b+n*(a*u) by rw[jn0];lia,Int.add_mul_ediv_left _ _ ⋯,jf5 o.b0 o.b1,jj6,jg1];lia
theorem mY{ls:List Int}(h:∀n∈ls,1<=n/\n<=4)(l:ls.length<=3):(ls.length:Int)<=ls.sum/\ls.sum<=12:=by
 match ls,h,l with
 | [],_,_=>exact⟨nofun,nofun⟩
 | [a],h,_=>have:=h a (.head _);simp;lia
 | [a,b],h,_=>have:=h a (.head _);have:=h b (.tail _ (.head _));simp;lia
 | [a,b,c],h,_=>have:=h a (.head _);have:=h b (.tail _ (.head _));have:=h c (.tail _ (.tail _ (.head _)));simp;lia
theorem OkC.good(o:OkC g):g.good:=by
 cases o with
 | sun hs l0 l1 hm p0 p1 o=>
  rename_i s lp a b n ls
  have sb:=mY hm l1;have e:falls [((1,a,b,n):Tm)]=0:=rfl;refine⟨⋯,⋯,fun n hn=>by have:=hm n hn;lia,p0,⋯,?_,by rw[e];lia,o.tm,(by show 1<=6;decide)⟩;rw[e,ja0,qm ⋯];have:=hm _ (jo3 (show (lp-1).toNat<ls.length by lia));show 0<=ls[(lp-1).toNat];lia
 | moon hs d0 d1 o _ m0 m1 o' _=>exact⟨(by show(0:Int)<_;lia),⋯,(by show(0:Int)<_;lia),⋯,o.tm,o'.tm,(by show 1<=6;decide),(by show 1<=6;decide)⟩
theorem OkC.bs(o:OkC g):Bt 290 g.st:=by
 cases o with
 | sun hs=>exact jq3 hs nofun
 | moon hs=>exact jq3 hs nofun
noncomputable def dyC:Bq->Int
 | .sun _ ls _ ts=>(ls.sum*(ts.map (·.2.2.2)).sum+(ts.map (·.2.1)).sum)
 | .moon _ bd td bm tm=>(bm*(tm.map (·.2.2.2)).sum+(tm.map (·.2.1)).sum)*(bd*(td.map (·.2.2.2)).sum+(td.map (·.2.1)).sum)
theorem OkC.cy(o:OkC g):SmC g/\g.cy.2∣dyC g/\1<=dyC g/\dyC g<=64:=by
 cases o with
 | sun hs l0 l1 hm p0 p1 o=>
  rename_i s lp a b n ls
  have sb:=mY hm l1;obtain⟨n0,n1,a0,a1,_,_⟩:=id o;have e1:(Bq.sun s ls lp [(1,a,b,n)]).cy.1=n:=cI n0;have e2:(Bq.sun s ls lp [(1,a,b,n)]).cy.2=ls.sum*n+a:=by
   show UP ls.sum [(1,a,b,n)] (PER [(1,a,b,n)])=_;have:=up1 (c:=ls.sum) (u:=1) o;rw[jc9,jc9] at this;rw[cI n0,this]
  have e3:dyC (.sun s ls lp [(1,a,b,n)])=ls.sum*n+a:=by show ls.sum*(n+0)+(a+0)=_;rw[jd6,jd6]
  have h1:1*1<=ls.sum*n:=vt ⋯ n0 nofun ⋯;have h2:ls.sum*n<=12*3:=vt ⋯ n1 ⋯ nofun;exact⟨⟨⋯,⋯,⋯,⋯⟩,by rw[e2,e3];exact vv _,⋯,⋯⟩
 | moon hs d0 d1 o n2 m0 m1 o' y2=>
  rename_i s bd a b n bm c e y
  obtain⟨n0,_,a0,a1,_,_⟩:=id o;obtain⟨y0,_,c0,c1,_,_⟩:=id o';have eM:UP bm [(1,c,e,y)] (PER [(1,c,e,y)])=bm*y+c:=by
   have:=up1 (c:=bm) (u:=1) o';rw[jc9,jc9] at this;rw[cI y0,this]
  have h1:1*1<=bm*y:=vt ⋯ y0 nofun ⋯;have h2:bm*y<=3*2:=vt ⋯ y2 ⋯ nofun;have h3:1*1<=bd*n:=vt ⋯ n0 nofun ⋯;have h4:bd*n<=3*2:=vt ⋯ n2 ⋯ nofun;have e3:dyC (.moon s bd [(1,a,b,n)] bm [(1,c,e,y)])=(bm*y+c)*(bd*n+a):=by
   show(bm*(y+0)+(c+0))*(bd*(n+0)+(a+0))=_;simp only[jd6]
  have e1:(Bq.moon s bd [(1,a,b,n)] bm [(1,c,e,y)]).cy=(y*moT [(1,a,b,n)] bm [(1,c,e,y)],UP bd [(1,a,b,n)] ((bm*y+c)*moT [(1,a,b,n)] bm [(1,c,e,y)])):=by
   show(_,_)=_;rw[eM,cI y0]
  have eT:moT [(1,a,b,n)] bm [(1,c,e,y)]=n/(Int.gcd n (bm*y+c):Int):=by
   unfold moT;rw[cI n0,eM]
  have hM:1<=bm*y+c/\bm*y+c<=8:=⋯;generalize bm*y+c=M at*
  have g0:(0:Int)<(Int.gcd n M:Int):=Ja (b:=M) ⋯;obtain⟨v,hv⟩:=jf8 (a:=n) (b:=M);obtain⟨u,hu⟩:=jh1 (a:=n) (b:=M);generalize (Int.gcd n M:Int)=G at*
  have ev:n/G=v:=by rw[hv,jh2 _ ⋯]
  have eU:M*v=n*u:=by
   conv=>lhs;rw[hu]
   conv=>rhs;rw[hv]
   rw[jg1,jg1,ja4 u v]
  rw[eT,ev,eU,up1 o] at e1;have v0:0<v:=Int.pos_of_mul_pos_right (a:=G) ⋯ ⋯;have u0:0<u:=Int.pos_of_mul_pos_right (a:=G) ⋯ ⋯;have vn:v<=n:=by rw[<-ev];exact ji5 _ ⋯
  have uM:u<=M:=jk6 ⋯ ⟨G,by rw[ja4];exact hu⟩;have h5:1*1<=y*v:=vt y0 ⋯ nofun ⋯;have h6:y*v<=2*2:=vt y2 ⋯ ⋯ nofun;have h7:1*1<=(bd*n+a)*u:=vt ⋯ ⋯ nofun ⋯;have h8:(bd*n+a)*u<=8*8:=vt ⋯ ⋯ ⋯ nofun;have h9:1*1<=M*(bd*n+a):=vt ⋯ ⋯ nofun ⋯;have h10:M*(bd*n+a)<=8*8:=vt ⋯ ⋯ ⋯ nofun;rw[e3];refine⟨⟨?_,?_,?_,?_⟩,?_,⋯,⋯⟩<;>rw[e1]
  ·exact h5
  ·exact jj7 h6 nofun
  ·exact h7
  ·exact h8
  ·exact⟨G,by show _=(bd*n+a)*u*G;rw[hu,ja4 G u,jg1,ja4 G,<-jg1,ja4 u]⟩
noncomputable def wvS(ws:List Wd):List V:=ws.map fun w=>.str (sW w)
theorem Hs(xs:List V)(k:Nat):Io xs (some (k:Int)) none=xs.drop k:=by
 unfold Io;rw[HT.sIx_nat,HT.sIx_none];by_cases h:k<=xs.length
 ·rw[jm5 h,uk (by rw[jc0];exact qq _)]
 ·rw[Nat.min_eq_right ⋯,uj (qq _),uj ⋯,List.take_nil]
theorem sn(h:¬(c=45\/48<=c/\c<=57)){i:Int}(g:Sm i):c∉nW i:=fun z=>h (Hw g c z)
theorem cT{ns:List Int}(hn:ns≠[])(h:∀n∈ns,Sm n):(JP 44 (sW (Fd 44 (ns.map nW)))).map V.str=ns.map fun n=>V.str (sW (nW n)):=by
 cases ns with
 | nil=>exact absurd rfl hn
 | cons n r=>
  rw[show JP 44 (sW (Fd 44 ((n::r).map nW)))=(spl 44 (cpl (sW (Fd 44 ((n::r).map nW))))).map sW from rfl,zw,Bp,Vl 44 _ _ fun x hx=>by
   obtain⟨i,hi,rfl⟩:=ui.mp (show x∈(n::r).map nW from hx);exact sn nofun (h i hi)]
  simp
theorem V0(c k:Nat):∀{ws:List (List Nat)},(∀w∈ws,w.length<=k)->(Fd c ws).length<=ws.length*(k+1)
 | [],_=>ke _
 | [w],h=>by
  have:=h w qc;show(w++[]).length<=1*(k+1);rw[yy];lia
 | w::y::ws,h=>by
  have a:=h w qc;have b:=V0 c k (ws:=y::ws) fun x hx=>h x (qk _ hx);rw[TV,zh,qr,qr (as:=y::ws),jl7];lia
theorem Mj{ns:List Int}(h:∀n∈ns,Sm n):(Fd 44 (ns.map nW)).length<=ns.length*42:=by
 have:=V0 44 41 (ws:=ns.map nW) fun w hw=>by
  obtain⟨n,hn,rfl⟩:=ui.mp hw;exact Es (h n hn)
 rwa [jp] at this
theorem qI{P:Nat->Prop}(hc:P c):∀{ws:List (List Nat)},(∀w∈ws,∀a∈w,P a)->∀a∈Fd c ws,P a
 | [],_,a,ha=>by cases ha
 | w::ws,h,a,ha=>by
  rcases yi.mp ha with z | z
  ·exact h w qc a z
  ·obtain⟨x,hx,hz⟩:=List.mem_flatten.mp z;obtain⟨y,hy,rfl⟩:=ui.mp hx;rcases zo.mp hz with e | e
   ·rw[e];exact hc
   ·exact h y (qk _ hy) a e
theorem vB(h:Sm i):TOk (sW (nW i)):=⟨GC.mpr fun c hc=>by rw[Bp] at hc;have:=Hw h c hc;lia,by rw[DQ];have:=Es h;lia⟩
def wch(c:Nat):Prop:=43<=c/\c<=122
theorem vA{ns:List Int}(h:∀n∈ns,Sm n):∀c∈Fd 44 (ns.map nW),wch c:=qI (by unfold wch;lia) fun w hw c hc=>by
 obtain⟨n,hn,rfl⟩:=ui.mp hw;have:=Hw (h n hn) c hc;unfold wch;lia
theorem OkC.ch(o:OkC g):∀w∈wdC g,w.length<=200/\∀c∈w,wch c:=fun w hw=>by
 have num:∀{i:Int},Sm i->(nW i).length<=200/\∀c∈nW i,wch c:=fun h=>⟨by have:=Es h;lia,fun c hc=>by have:=Hw h c hc;unfold wch;lia⟩;have lst:∀{ns:List Int},ns.length<=3->(∀n∈ns,Sm n)->(Fd 44 (ns.map nW)).length<=126/\∀c∈Fd 44 (ns.map nW),wch c:=fun l h=>⟨zv (Mj h) ⋯,vA h⟩;have tm:∀{a b n:Int},Ok1 a b n->(tW (1,a,b,n)).length<=200/\∀c∈tW (1,a,b,n),wch c:=fun{a b n} o=>by
  have:=lst (ns:=[a,b,n]) (by show 3<=3;decide) o.sm;refine⟨by show(Fd 44 ([a,b,n].map nW)).length+1<=_;lia,fun c hc=>?_⟩;rcases zo.mp hc with e | e
  ·unfold wch;lia
  ·exact this.2 c e
 have all:∀{z:String},(sg z).length<=4->(∀c∈sg z,wch c)->(sg z).length<=200/\∀c∈sg z,wch c:=fun h g=>⟨⋯,g⟩;cases o with
 | sun hs l0 l1 hm p0 p1 o=>
  simp only[wdC,hC,wC,zo,kg,or_false,zw,jl6] at hw;rcases hw with rfl | rfl | rfl | rfl | rfl | rfl
  ·exact all ∅ (by unfold wch;ac_rfl)
  ·exact num hs
  ·have:=lst l1 fun n hn=>sm1 (by have:=hm n hn;lia) (by have:=hm n hn;lia);exact⟨⋯,this.2⟩
  ·exact all ∅ (by unfold wch;ac_rfl)
  ·exact num (sm1 ⋯ ⋯)
  ·exact tm o
 | moon hs d0 d1 o _ m0 m1 o' _=>
  simp only[wdC,hC,wC,zo,yi,kg,or_false,zw,jl6,false_or] at hw;rcases hw with rfl | rfl | rfl | rfl | rfl | rfl | rfl
  ·exact all ∅ (by unfold wch;ac_rfl)
  ·exact num hs
  ·exact num (sm1 ⋯ ⋯)
  ·exact tm o
  ·exact all ∅ (by unfold wch;ac_rfl)
  ·exact num (sm1 ⋯ ⋯)
  ·exact tm o'
noncomputable def Ib(g:Bq):Wd:=jn (wdC g)
theorem cz(k:Nat):∀(ws:List Wd),(∀w∈ws,w.length<=k)->(jn ws).length<=ws.length*(k+1)
 | [],_=>ke _
 | [w],h=>by have:=h w qc;show w.length<=1*(k+1);lia
 | w::y::r,h=>by
  have:=cz k (y::r) fun x hx=>h x (qk _ hx);have:=h w qc;rw[JX (by simp),zh,qr,qr (as:=y::r),jl7];lia
theorem OkC.tx(o:OkC g):spl 32 (Ib g)=wdC g/\(Ib g).length<=2000/\TOk (sW (Ib g)):=by
 have h:=o.ch;have l:(Ib g).length<=2000:=by
  have a:=cz 200 (wdC g) fun w hw=>(h w hw).1;have b:(wdC g).length<=7:=by cases o<;>simp[wdC,wC]
  exact zv a (zv (jg9 _ b) nofun)
 refine⟨Wx (by simp[wdC]) fun w hw z=>by have:=(h w hw).2 32 z;unfold wch at this;lia,l,GC.mpr fun c hc=>?_,by rw[DQ];lia⟩;rw[Bp] at hc;by_cases e:c=32
 ·lia
 ·obtain⟨w,hw,m⟩:=X3 e hc;have:=(h w hw).2 c m;unfold wch at this;lia
def nA:Sp:=fun vs H Q _=>∃i:Int,An3 (vs=[.str (sW (nW i))]) (Sm i) (∀H',Az H H'->Q (.int i) H')
def iw:Sp:=fun vs H Q _=>∃ns:List Int,An5 (vs=[.str (sW (Fd 44 (ns.map nW)))]) (ns≠[]) (ns.length<=3) (∀n∈ns,Sm n) (∀(l:Addr) H',H l=none->Az H H'->H' l=some (.lst (ns.map V.int))->Q (.ref l) H')
def m9:Sp:=fun vs H Q _=>Ex3 fun(a b n:Int)=>An3 (vs=[.str (sW (tW (1,a,b,n)))]) (∀i∈[a,b,n],Sm i) (∀(p:Addr) H',Az H H'->H' p=some (.tup (tmV (1,a,b,n)))->Q (.ref p) H')
def iu:Sp:=fun vs H Q _=>Ex4 fun(l:Addr) (a b n:Int)=>An4 (vs=[.ref l]) (H l=some (.lst (wvS [tW (1,a,b,n)]))) (∀i∈[a,b,n],Sm i) (∀(l' p:Addr) H',Az H H'->H' l'=some (.lst [.ref p])->H' p=some (.tup (tmV (1,a,b,n)))->Q (.ref l') H')
def Yp(K:Fr)(CS CO CM:Addr)(w:String):Sp:=fun vs H Q _=>Ex2 fun(l:Addr) (g:Bq)=>An5 (vs=[.ref l]) (H l=some (.lst (wvS (wC g)))) (hC g=w) (OkC g) (∀(x:Addr) H',Az H H'->FQ K CS CO CM H' x g->Q (.ref x) H')
def nD(K:Fr)(CS CO CM:Addr):Sp:=fun vs H Q _=>∃g:Bq,An3 (vs=[.str (sW (Ib g))]) (OkC g) (∀(x:Addr) H',Az H H'->FQ K CS CO CM H' x g->Q (.ref x) H')
theorem qR{b:Int}(f:falls ts<b)(h:b<=1000):Wo b ts:=⟨by have:=qZ (ts:=ts);lia,⋯,jd4 f⟩
def Kd(H H':Hp):Prop:=∀y o,(∀kv,o≠.dK kv)->H y=some o->H' y=some o
section
variable{K:Fr}{CS CO CM CR C x:Addr}{CL:List Addr}{H H' H2:Hp}
theorem Kd.of(s:Az H H'):Kd H H':=fun y o _ h=>s y o h
theorem Kd.trans(a:Kd H H')(b:Kd H' H2):Kd H H2:=fun y o n h=>b y o n (a y o n h)
theorem Kd.put{kv kv':List (Key×V)}(h:H a=some (.dK kv)):Kd H (upd H a (.dK kv')):=fun y o n e=>by
 rw[BK fun z=>by rw[z,h] at e;exact n kv (ub e).symm];exact e
theorem Kd.ins(k:Kd H H'){d:Addr}{fs:List (Str×V)}(h:H x=some (.ins C d fs)):H' x=some (.ins C d fs):=k _ _ (fun _ z=>nomatch z) h
theorem Kd.tup(k:Kd H H'){xs:List V}(h:H x=some (.tup xs)):H' x=some (.tup xs):=k _ _ (fun _ z=>nomatch z) h
theorem Kd.lst(k:Kd H H'){xs:List V}(h:H x=some (.lst xs)):H' x=some (.lst xs):=k _ _ (fun _ z=>nomatch z) h
theorem SqT.kd(k:Kd H H'){xs:List V}(h:SqT K H x xs):SqT K H' x xs:=by
 rcases h with (h | ⟨o,h⟩) | h
 ·exact .inl (.inl (k.tup h))
 ·exact .inl (.inr ⟨o,k _ _ (fun _ z=>nomatch z) h⟩)
 ·exact .inr h
theorem Tms.kd(k:Kd H H'):∀{vs:List V} {ts:List Tm},Tms H vs ts->Tms H' vs ts
 | _,_,.nil=>.nil
 | _,_,.cons h t=>.cons (k.tup h) (Tms.kd k t)
theorem Me.kd(k:Kd H H'){b:Int}{ts:List Tm}(M:Me K CM H x b ts):Me K CM H' x b ts:=by
 obtain⟨⟨dy,q,h3,⟨⟨vs,h4,h5⟩,h6,h7⟩⟩,h8,h9⟩:=M;exact⟨⟨dy,q,k.ins h3,⟨⟨vs,SqT.kd k h4,h5.kd k⟩,h6,h7⟩⟩,h8,h9⟩
theorem FQ.kd(k:Kd H H'){g:Bq}(S:FQ K CS CO CM H x g):FQ K CS CO CM H' x g:=by
 cases g with
 | sun=>
  obtain⟨⟨dx,p,y,h1,h2,h3⟩,h10,h11⟩:=S;exact⟨⟨dx,p,y,k.ins h1,SqT.kd k h2,Me.kd k h3⟩,h10,h11⟩
 | moon=>
  obtain⟨⟨dx,d,m,h1,h2,h3⟩,h10,h11⟩:=S;exact⟨⟨dx,d,m,k.ins h1,Me.kd k h2,Me.kd k h3⟩,h10,h11⟩
theorem Cw.kd(k:Kd H H'){n:Int}{b:Nat}(R:Cw K CR CL H x n b):Cw K CR CL H' x n b:=by
 obtain⟨⟨C,dx,p,pm,pw,h1,h2,h3,h4⟩,n0,n1,lt⟩:=R;exact⟨⟨C,dx,p,pm,pw,h1,h2,k.ins h3,k.tup h4⟩,n0,n1,lt⟩
end
structure Cs where
 (D S O M R:Addr) (L:List Addr)
def wX(K:Fr)(cs:Cs)(H:Hp)(a:Addr):Option Bq->Prop
 | none=>H a=some (.dK [])
 | some g=>Dc K cs.S cs.O cs.M g H a
structure Dk(K:Fr)(cs:Cs)(H:Hp)(x:Addr)(c:Option Bq)(j:Nat)(m:Wd->Option (Nat×Nat)):Prop where
 ex:∃dx a r kv,H x=some (.ins cs.D dx [("calendars",.ref a),("rules",.ref r)])/\wX K cs H a c/\H r=some (.dK kv)/\kv.length<=j/\r≠a/\∀nm n b,m nm=some (n,b)->∃y,GF kv (.inr (sW nm))=some (.ref y)/\Cw K cs.R cs.L H y (n:Int) b
noncomputable def setM(m:Wd->Option (Nat×Nat))(nm:Wd)(v:Nat×Nat):Wd->Option (Nat×Nat):=fun k=>if k=nm then some v else m k
section
variable{K:Fr}{cs:Cs}{H H':Hp}{x:Addr}{c:Option Bq}{j:Nat}{m:Wd->Option (Nat×Nat)}
theorem wX.same(C:wX K cs H a c)(s:Az H H'):wX K cs H' a c:=by
 cases c with
 | none=>exact s _ _ C
 | some D=>exact Dc.same C s
theorem Dk.same(d:Dk K cs H x c j m)(s:Az H H'):Dk K cs H' x c j m:=by
 obtain⟨dx,a,r,kv,h1,h2,h3,h4,h5,h6⟩:=d.ex;exact⟨dx,a,r,kv,s _ _ h1,h2.same s,s _ _ h3,h4,h5,fun nm n b e=>by
  obtain⟨y,g1,g2⟩:=h6 nm n b e;exact⟨y,g1,g2.same s⟩⟩
end
inductive Wk where
 | nm (w:Wd) | tx (w:Wd) | ru (w:Wd) | nu (i:Int)
noncomputable def Wk.k:Wk->Str | .nm _=>"NAME" | .tx _=>"TEXT" | .ru _=>"RULE" | .nu _=>"NUMBER"
noncomputable def Wk.w:Wk->Wd | .nm w=>w | .tx w=>w | .ru w=>w | .nu i=>nW i
def Wk.ok:Wk->Prop
 | .nm w=>Iu w
 | .tx w=>w.length<=4000/\∀c∈w,c<128
 | .ru w=>Iu w
 | .nu i=>Sm i
inductive Row where
 | cal (g:Bq) | rule (nm:Wd) (p:PT) | on (nm:Wd) (d:Int) | next (nm:Wd) (d:Int) | meet (a b:Wd) (d:Int) | within (a b:Wd) (d:Int)
noncomputable def Row.ws:Row->List Wk
 | .cal g=>[.nm (sg "c"),.tx (Ib g)]
 | .rule nm p=>[.nm nm,.tx p.tx]
 | .on nm d=>[.ru nm,.nu d]
 | .next nm d=>[.ru nm,.nu d]
 | .meet a b d=>[.ru a,.ru b,.nu d]
 | .within a b d=>[.ru a,.ru b,.nu d]
noncomputable def Row.hd:Row->Str | .cal .. =>"calendar" | .rule .. =>"rule" | .on .. =>"on" | .next .. =>"next" | .meet .. =>"meet" | .within .. =>"within"
noncomputable def Row.fi:Row->Nat | .cal .. =>0 | .rule .. =>2 | .on .. =>6 | .next .. =>7 | .meet .. =>13 | .within .. =>14
def Row.ok(R:Row):Prop:=∀w∈R.ws,w.ok
noncomputable def Row.T(R:Row):Wd:=jn (cpl R.hd::R.ws.map Wk.w)
noncomputable def wkV(ws:List Wk):List V:=ws.map fun w=>.str (sW w.w)
noncomputable def dD(t:Nat->Addr):List (Key×V):=[(.inr "calendar",.ref (t 0)),(.inr "change",.ref (t 1)),(.inr "rule",.ref (t 2)),(.inr "date",.ref (t 3)),(.inr "day",.ref (t 4)),(.inr "move",.ref (t 5)),(.inr "on",.ref (t 6)),(.inr "next",.ref (t 7)),(.inr "last",.ref (t 8)),(.inr "nth",.ref (t 9)),(.inr "count",.ref (t 10)),(.inr "size",.ref (t 11)),(.inr "same",.ref (t 12)),(.inr "meet",.ref (t 13)),(.inr "within",.ref (t 14)),(.inr "shorter",.ref (t 15)),(.inr "show",.ref (t 16)),(.inr "almanac",.ref (t 17))]
structure sS(P:Program)(w:World)(K:Fr)(mg:Str->Option Value)(a:Addr)(t:Nat->Addr):Prop where
 m:mg "FORMS"=some (.ref a)
 d:KD P w K a (dD t)
 s:∀(R:Row) (H:Hp),SqT K H (t R.fi) (R.ws.map fun w=>V.str w.k)
theorem TY(t:Nat->Addr)(R:Row):GF (dD t) (.inr R.hd)=some (.ref (t R.fi)):=by cases R<;>rfl
noncomputable def AEM(t:Nat->Addr):List (Key×V):=[(.inr "date",.ref (t 0)),(.inr "day",.ref (t 1)),(.inr "move",.ref (t 2)),(.inr "on",.ref (t 3)),(.inr "next",.ref (t 4)),(.inr "last",.ref (t 5)),(.inr "nth",.ref (t 6)),(.inr "count",.ref (t 7)),(.inr "size",.ref (t 8)),(.inr "same",.ref (t 9)),(.inr "meet",.ref (t 10)),(.inr "within",.ref (t 11)),(.inr "shorter",.ref (t 12)),(.inr "show",.ref (t 13)),(.inr "almanac",.ref (t 14))]
structure AEg(P:Program)(w:World)(K:Fr)(mg:Str->Option Value)(a:Addr)(t:Nat->Addr):Prop where
 m:mg "ANSWERS"=some (.ref a)
 d:KD P w K a (AEM t)
 g3:mg "tell_on"=some (.ref (t 3))
 g4:mg "tell_next"=some (.ref (t 4))
 g10:mg "tell_meet"=some (.ref (t 10))
 g11:mg "tell_within"=some (.ref (t 11))
theorem Iu.wc{w:Wd}(h:Iu w):w≠[]/\∀c∈w,wch c:=⟨fun z=>by have:=h.lo;rw[z] at this;exact absurd this nofun,fun c hc=>by have:=h.ch c hc;unfold wch;lia⟩
theorem Wk.box{k:Wk}(h:k.ok):(∀a∈k.w,a<128)/\k.w.length<=4000/\((∀d,k≠.tx d)->32∉k.w):=by
 have fin:(∀a∈k.w,wch a)->k.w.length<=4000->(∀a∈k.w,a<128)/\k.w.length<=4000/\((∀d,k≠.tx d)->32∉k.w):=fun c l=>⟨fun a ha=>by have:=c a ha;unfold wch at this;lia,l,fun _ z=>by have:=c 32 z;unfold wch at this;lia⟩;cases k with
 | nm n=>exact fin (Iu.wc h).2 (by have:=Iu.hi h;show n.length<=_;lia)
 | ru n=>exact fin (Iu.wc h).2 (by have:=Iu.hi h;show n.length<=_;lia)
 | nu i=>exact fin (fun a ha=>by have:=Hw h a ha;unfold wch;lia) (zv (Es h) nofun)
 | tx d=>exact⟨h.2,h.1,fun z=>absurd rfl (z d)⟩
theorem X6(R:Row):(∀a∈cpl R.hd,a<128/\a≠32)/\(cpl R.hd).length<=10:=by
 have all:∀z∈(["calendar","rule","on","next","meet","within"]:List Str),(∀a∈cpl z,a<128/\a≠32)/\(cpl z).length<=10:=∅;cases R<;>exact all _ (by walk_at"mm")
theorem Row.tok{R:Row}(h:R.ok):TOk (sW R.T):=by
 have hb:=X6 R;have l:R.T.length<=4*4001:=by
  have:=cz 4000 (cpl R.hd::R.ws.map Wk.w) fun w hw=>by
   rcases zo.mp hw with e | e
   ·rw[e];lia
   ·obtain⟨k,hk,rfl⟩:=ui.mp e;exact(Wk.box (h k hk)).2.1
  have e:(cpl R.hd::R.ws.map Wk.w).length<=4:=by cases R<;>simp[Row.ws]
  exact zv this (jg9 _ e)
 refine⟨GC.mpr fun c hc=>?_,by rw[DQ];lia⟩;rw[Bp] at hc;by_cases e:c=32
 ·lia
 ·obtain⟨w,hw,m⟩:=X3 e hc;rcases zo.mp hw with e | e
  ·rw[e] at m;exact(hb.1 c m).1
  ·obtain⟨k,hk,rfl⟩:=ui.mp e;exact(Wk.box (h k hk)).1 c m
theorem Row.few(R:Row):1<=R.ws.length/\R.ws.length<=3:=by cases R<;>exact⟨by simp[Row.ws],by simp[Row.ws]⟩
theorem Row.head(R:Row):∃r,spl 32 R.T=cpl R.hd::r:=by
 have e:R.T=cpl R.hd++32::jn (R.ws.map Wk.w):=JX (by have:=R.few.1;intro z;rw[List.map_eq_nil_iff.mp z] at this;exact absurd this nofun);exact⟨_,by rw[e,Lj 32 _ _ fun z=>((X6 R).1 32 z).2 rfl]⟩
theorem Row.kind{R:Row}(h:R.ok):(∃nm w,Iu nm/\R.ws=[.nm nm,.tx w])\/(spl 32 R.T=cpl R.hd::R.ws.map Wk.w/\∃z:Str,z≠"TEXT"/\atI (R.ws.map fun w=>V.str w.k) (-1)=some (V.str z)):=by
 have plain:(∀k∈R.ws,∀d,k≠.tx d)->spl 32 R.T=cpl R.hd::R.ws.map Wk.w:=fun np=>Wx (by simp) fun w hw=>by
  rcases zo.mp hw with e | e
  ·rw[e];exact fun z=>((X6 R).1 32 z).2 rfl
  ·obtain⟨k,hk,rfl⟩:=ui.mp e;exact(Wk.box (h k hk)).2.2 (np k hk)
 cases R with
 | cal=>exact .inl ⟨_,_,h _ qc,rfl⟩
 | rule=>exact .inl ⟨_,_,h _ qc,rfl⟩
 | _=>exact .inr ⟨plain fun k hk d z=>by subst z;simp[Row.ws] at hk,"NUMBER",∅,rfl⟩
def ym:Sp:=fun vs H Q _=>∃R:Row,An3 (vs=[.str (sW R.T)]) R.ok (∀l H',H l=none->Az H H'->H' l=some (.lst (.str R.hd::wkV R.ws))->Q (.ref l) H')
def zF:Sp:=fun vs H Q _=>Ex4 fun(a:Addr) (kv:List (Key×V)) (nm:Wd) (v:V)=>An4 (vs=[.ref a,.str (sW nm)]) (H a=some (.dK kv)) (GF kv (.inr (sW nm))=some v) (Q v H)
def Wk.val(kv:List (Key×V)):Wk->V->Prop
 | .nm n,v=>v=.str (sW n)
 | .tx w,v=>v=.str (sW w)
 | .ru n,v=>GF kv (.inr (sW n))=some v
 | .nu i,v=>v=.int i
def DkH(CD:Addr)(H:Hp)(x:Addr)(kv:List (Key×V)):Prop:=∃dx a r,H x=some (.ins CD dx [("calendars",.ref a),("rules",.ref r)])/\H r=some (.dK kv)
theorem DkH.same{CD:Addr}{kv:List (Key×V)}(d:DkH CD H x kv)(s:Az H H'):DkH CD H' x kv:=by
 obtain⟨dx,a,r,h1,h2⟩:=d;exact⟨dx,a,r,s _ _ h1,s _ _ h2⟩
def zE(CD:Addr):Sp:=fun vs H Q _=>Ex3 fun(x:Addr) (kv:List (Key×V)) (k:Wk)=>An5 (vs=[.ref x,.str k.k,.str (sW k.w)]) k.ok (DkH CD H x kv) (∀n,k=.ru n->∃v,GF kv (.inr (sW n))=some v) (∀v H',Az H H'->k.val kv v->Q v H')
def uC(CD:Addr):Sp:=fun vs H Q _=>Ex2 fun(x l:Addr)=>An3 (vs=[.ref x,.ref l]) (H l=some (.lst [])) (∀l' H',H l'=none->Az H H'->H' l'=some (.lst [])->Q (.ref l') H')
section
variable(K:Fr)(CR:Addr)(CL:List Addr)
noncomputable def yn(b:Bool):Str:=if b then "yes" else "no"
def GDy(R:(Int->Bool)->Int->Int->Prop)(n:Int)(b:Nat)(d:Int)(H:Hp)(Q:VK):Prop:=((∀e,On n b e=false)->∀H',Az H H'->Q (.str "never") H')/\∀r H',Az H H'->R (On n b) d r->Q (.str (sW (nW r))) H'
def uB:Sp:=fun vs H Q _=>∃r:Option Int,An3 (vs=[oI r]) (okO r) (Q (.str (match r with | none=>"never" | some i=>sW (nW i))) H)
def yj(R:(Int->Bool)->Int->Int->Prop):Sp:=fun vs H Q _=>Ex5 fun(l y:Addr) (n d:Int) (b:Nat)=>An5 (vs=[.ref l]) (H l=some (.lst [.ref y,.int d])) (Cw K CR CL H y n b) (Sm d) (GDy R n b d H Q)
def ABu:Sp:=fun vs H Q _=>Ex5 fun(l y:Addr) (n d:Int) (b:Nat)=>An4 (vs=[.ref l]) (H l=some (.lst [.ref y,.int d])) (Cw K CR CL H y n b) (Q (.str (yn (On n b d))) H)
def ABx:Sp:=fun vs H Q _=>Ex4 fun(p:Addr) (w:Str) (e:Int) (r:List V)=>An5 (vs=[.ref p]) (H p=some (.tup (.str w::.int e::r))) (w.length<=10) (e.natAbs.log2<1920) (Q (.str (sW (cpl w++(sg " "++nW e)))) H)
def ABv(G:Nat->Nat->Nat->Nat->Int->Hp->VK->Prop)(C:Nat->Nat->Nat->Nat->Prop):Sp:=fun vs H Q _=>Ex8 fun(l y y':Addr) (n b m c:Nat) (d:Int)=>An7 (vs=[.ref l]) (H l=some (.lst [.ref y,.ref y',.int d])) (Cw K CR CL H y (n:Int) b) (Cw K CR CL H y' (m:Int) c) (Sm d) (C n b m c) (G n b m c d H Q)
end
def aj(n b m c:Nat)(d:Int)(H:Hp)(Q:VK):Prop:=(∀H',Az H H'->¬Meets n b m c->Q (.str (sW (sg "never"++(sg " "++nW ((Nat.gcd n m:Nat):Int))))) H')/\∀e H',Az H H'->Fst n b m c d e->Q (.str (sW (sg "meet"++(sg " "++nW e)))) H'
def aa(n b m c:Nat)(d:Int)(H:Hp)(Q:VK):Prop:=∀co,Cmp m c co->(∀H',Az H H'->¬Meets n b m co->Q (.str (sW (sg "within"++(sg " "++nW ((Nat.gcd n m:Nat):Int))))) H')/\∀e H',Az H H'->Fst n b m co d e->Q (.str (sW (sg "outside"++(sg " "++nW e)))) H'
def CMt(n b m c:Nat):Prop:=Few n b m c/\Bj (n:Int) (m:Int)<=900000
def CWi(n _ m _:Nat):Prop:=Bj (n:Int) (m:Int)<=150000
theorem Cw.rnd{CR:Addr}{CL:List Addr}{n:Nat}(R:Cw K CR CL H x (n:Int) b):0<n/\n<=150000/\b<2^n:=⟨by have:=R.n0;lia,by have:=R.n1;lia,by have:=R.lt;rwa [xa] at this⟩
section
variable(K:Fr)(cs:Cs)
def zM:Sp:=fun vs H Q _=>Ex3 fun(H0:Hp) (x dx:Addr)=>An6 (vs=[.ref x]) (H0 x=none) (H0 dx=none) (dx≠x) (H=upd (upd H0 dx (.own x)) x (.ins cs.D dx [])) (∀H',Az H0 H'->Dk K cs H' x none 0 (fun _=>none)->Q .non H')
structure PT.fine(g:Bq)(p:PT):Prop where
 ok:p.ok
 kn:p.kn
 tl:p.tx.length<=4000
 dp:p.deep<=40
 mn:p.lv+p.br<=200
 sz:p.sz g<=150000
def ADV(H:Hp)(x:Addr)(j:Nat)(m:Wd->Option (Nat×Nat))(Q:VK)(g:Bq):Prop:=∀H',Kd H H'->Dk K cs H' x (some g) j m->Q (.str "ok") H'
def yK(H:Hp)(x:Addr)(g:Bq)(j:Nat)(m:Wd->Option (Nat×Nat))(Q:VK)(nm:Wd)(p:PT):Prop:=∀H',Kd H H'->Dk K cs H' x (some g) (j+1) (setM m nm ((p.sz g).toNat,p.bt g))->p.rl g (p.bt g)->Q (.str "ok") H'
def zG:Sp:=fun vs H Q _=>Ex5 fun(x l:Addr) (c:Option Bq) (j:Nat) (m:Wd->Option (Nat×Nat))=>An3 (Dk K cs H x c j m) (j<=50) ((∃g:Bq,An5 (vs=[.ref x,.str "calendar",.ref l]) (H l=some (.lst [.str (sW (sg "c")),.str (sW (Ib g))])) (OkC g) (c=none) (ADV K cs H x j m Q g))\/Ex3 fun(nm:Wd) (p:PT) (g:Bq)=>An6 (vs=[.ref x,.str "rule",.ref l]) (H l=some (.lst [.str (sW nm),.str (sW p.tx)])) (c=some g) (SmC g) (p.fine g) (yK K cs H x g j m Q nm p))
def ADU(H:Hp)(x:Addr)(c:Option Bq)(j:Nat)(m:Wd->Option (Nat×Nat))(Q:VK):Row->Prop
 | .cal g=>OkC g/\c=none/\ADV K cs H x j m Q g
 | .rule nm p=>∃g,c=some g/\SmC g/\p.fine g/\yK K cs H x g j m Q nm p
 | .on nm d=>∃n b,m nm=some (n,b)/\∀H',Az H H'->Q (.str (yn (On (n:Int) b d))) H'
 | .next nm d=>∃n b,m nm=some (n,b)/\GDy lK (n:Int) b d H Q
 | .meet a b d=>∃n x k y,m a=some (n,x)/\m b=some (k,y)/\CMt n x k y/\aj n x k y d H Q
 | .within a b d=>∃n x k y,m a=some (n,x)/\m b=some (k,y)/\CWi n x k y/\aa n x k y d H Q
def mz:Sp:=fun vs H Q _=>Ex5 fun(x:Addr) (c:Option Bq) (j:Nat) (m:Wd->Option (Nat×Nat)) (R:Row)=>An5 (vs=[.ref x,.str (sW R.T)]) R.ok (Dk K cs H x c j m) (j<=50) (ADU K cs H x c j m Q R)
end
theorem aj.later{n:Nat}(g:aj n b m c d H Q)(s:Az H H1):aj n b m c d H1 Q:=⟨fun H' s'=>g.1 H' (s.trans s'),fun e H' s'=>g.2 e H' (s.trans s')⟩
theorem aa.later{n:Nat}(g:aa n b m c d H Q)(s:Az H H1):aa n b m c d H1 Q:=fun co C=>⟨fun H' s'=>(g co C).1 H' (s.trans s'),fun e H' s'=>(g co C).2 e H' (s.trans s')⟩
theorem GDy.later{R:(Int->Bool)->Int->Int->Prop}{n:Int}(g:GDy R n b d H Q)(s:Az H H1):GDy R n b d H1 Q:=⟨fun h H' s'=>g.1 h H' (s.trans s'),fun r H' s'=>g.2 r H' (s.trans s')⟩
theorem ni(h:Sm d):Bt 200 d:=jq3 h nofun
theorem pX(h:Sm d)(h1:d<=e)(h2:e<=d+1000000):e.natAbs.log2<1920:=by
 refine Ko ?_ ?_<;>
 ·unfold Sm at h;have:(10:Nat)^40=10000000000000000000000000000000000000000:=nofun
  lia
theorem gJ{n:Nat}(h:n<=1000000):((n:Int)).natAbs.log2<1920:=Ko ⋯ ⋯
theorem vI(h:Sm d)(h1:d-1000000<=e)(h2:e<=d+1000000):e.natAbs.log2<1920:=by
 refine Ko ?_ ?_<;>
 ·unfold Sm at h;have:(10:Nat)^40=10000000000000000000000000000000000000000:=nofun
  lia
theorem yO(h:H a=some o):upd H a o=H:=funext fun b=>by
 by_cases e:b=a
 ·rw[e,Am,h]
 ·exact BK e
def GV(kv:List (Key×V))(n:Nat)(ks:List Wk)(vs:List V):Prop:=vs.length=n/\∀(j:Nat) (k:Wk) (v:V),ks[j]?=some k->vs[j]?=some v->k.val kv v
theorem GV.cons{kv:List (Key×V)}{n:Nat}{k:Wk}{ks:List Wk}{vs:List V}(g:GV kv (n+1) (k::ks) vs):∃v ws,vs=v::ws/\k.val kv v/\GV kv n ks ws:=by
 cases vs with
 | nil=>exact absurd g.1 (by simp)
 | cons v ws=>exact⟨v,ws,rfl,g.2 0 k v rfl rfl,by have:=g.1;simpa using this,fun j k' v' e1 e2=>g.2 (j+1) k' v' e1 e2⟩
theorem GV.one{kv:List (Key×V)}{k:Wk}{vs:List V}(g:GV kv 1 [k] vs):∃v,vs=[v]/\k.val kv v:=by
 obtain⟨v,ws,rfl,h,g'⟩:=GV.cons g;exact⟨v,by rw[jd1.mp g'.1],h⟩
theorem kY{b:Addr}{ks:List Wk}{kv:List (Key×V)}{Z:L2.St}{te:TE}(ha:∀H,SqT K H a (ks.map fun k=>V.str k.k))(hb:H b=some (.lst (wkV ks)))(hl:ks.length<sizeLine)
 (he:∀k∈ks,∀(H':Hp) (Q':VK),Az H H'->(∀v H'',Az H' H''->k.val kv v->Q' v H'')->te (some (.str k.k)::some (.str (sW k.w))::Z) H' Q')
 (h:∀(D:Addr) (H':Hp) (vs:List V),H D=none->Az H H'->H' D=some (.lst vs)->GV kv ks.length ks vs->Q (.ref D) H'):
 Us 2 (qU K 2 (V4 (Hk 0) (V4 (Hk 1) vW))) eN te Z Q (sO K a b true) H:=by
 intro D hD;have lb:(wkV ks).length=ks.length:=jp _;refine⟨fun i m zs H2=>i<=ks.length/\m=ks.length-i/\H2 D=some (.lst zs)/\Az H H2/\GV kv i ks zs,⟨_,ke _,rfl,Am,Ar hD _,rfl,fun j k v _ e=>by simp at e⟩,?_⟩;rintro i m zs H2 ⟨hi,rfl,hz,s2,zl,g⟩;refine⟨hz,?_⟩;have qb:SqL K H2 b (wkV ks):=SqL.of (s2 _ _ hb);by_cases c:i<ks.length
 ·have ex:(ks.map fun k=>V.str k.k)[i]?=some (.str ks[i].k):=by rw[xo,qm c];rfl
  have ey:(wkV ks)[i]?=some (.str (sW ks[i].w)):=by unfold wkV;rw[xo,qm c];rfl
  refine .inr ⟨⟨_,_,_,_,ha H2,qb,ex,ey⟩,⋯,ks.length-(i+1),⋯,?_⟩;rintro v H3 ⟨T,x,y,hT,rfl,rfl,hxy⟩ ρ hρ;obtain⟨gx,gy⟩:=hxy _ _ (ha H2) qb;rw[ex] at gx;rw[ey] at gy;cases gx;cases gy;obtain⟨p,q,rfl⟩:∃p q,ρ=[p,q]:=by
   match ρ,hρ with
   | [p,q],_=>exact⟨p,q,rfl⟩
  refine⟨T,[.str ks[i].k,.str (sW ks[i].w)],rfl,SqT.of Am,rfl,.str ks[i].k,[.str (sW ks[i].w)],rfl,.str (sW ks[i].w),[],rfl,⟨rfl,[some (.str ks[i].k),some (.str (sW ks[i].w))],rfl,rfl,?_⟩⟩;refine Hn ?_;rw[xy rfl];have s3:=Ar hT (.tup [.str ks[i].k,.str (sW ks[i].w)]);refine he _ (jo3 c) _ _ (s2.trans s3) fun v H4 s4 hv=>?_;refine⟨s4 _ _ (s3 _ _ hz),⋯,rfl,Am,Fb hD ((s2.trans s3).trans s4),by rw[zh];show zs.length+1=i+1;lia,fun j k w ek ew=>?_⟩;by_cases cj:j<zs.length
  ·rw[jg8 cj] at ew;exact g j k w ek ew
  ·rw[jf6 ⋯] at ew;have e0:j-zs.length=0:=by
    by_cases z:j-zs.length=0
    ·exact z
    ·rw[jk0 (by show 1<=_;lia)] at ew;cases ew
   rw[e0] at ew;cases ew;have:j=i:=⋯;rw[this,qm c] at ek;cases ek;exact hv
 ·have e:i=ks.length:=⋯
  subst e;exact .inl ⟨⟨_,_,ha H2,qb,by rw[jp,lb,Nat.min_self]⟩,h D H2 zs hD s2 hz ⟨zl,g⟩⟩
structure Lg(x:Str)(a:Wd)(n:Nat):Prop where
 e:cpl x=a
 l:a.length<=n
theorem Lg.s(z:String)(h:(sg z).length<=30:=by ac_rfl):Lg (Str.ofString z) (sg z) 30:=⟨rfl,h⟩
theorem Lg.n(h:Sm i):Lg (Dj i) (nW i) 41:=⟨rfl,Es h⟩
theorem Lg.w(a:Wd){n:Nat}(h:a.length<=n):Lg (sW a) a n:=⟨Bp _,h⟩
theorem Lg.eq{x:Str}{a b:Wd}{n:Nat}(h:Lg x a n)(e:a=b):x=sW b:=by rw[<-e,<-h.e,Jz]
theorem Lg.ap{x y:Str}{a b:Wd}{n:Nat}(X:Lg x a n)(Y:Lg y b m):Lg (x++y) (a++b) (n+m):=⟨by rw[Q6,X.e,Y.e],by rw[zh];exact Nat.add_le_add X.l Y.l⟩
theorem Lg.aps{x:Str}{a:Wd}{n:Nat}(X:Lg x a n)(z:String)(h:(sg z).length<=30:=by ac_rfl):Lg (x++Str.ofString z) (a++sg z) (n+30):=X.ap (.s z h)
theorem Lg.le{x y:Str}{a:Wd}{n:Nat}(X:Lg (x++y) a n)(h:n<=100000:=by decide):x.length+y.length<=sizeLine:=by
 rw[<-J7,<-Eu,X.e];exact zv X.l (zv h nofun)
def xT:R2:=fun x y H Q=>∃i j,x=.str i/\y=.str j/\i.length+j.length<=sizeLine/\Q (.str (i++j)) H
theorem Av{X:Cx}:OpR X (binaryOp .Add) xT:=cP
theorem Lg.go{x y:Str}{a:Wd}{n:Nat}(Z:Lg (x++y) a n)(q:∀z,Lg z a n->Q (.str z) H)(h:n<=100000:=by decide):xT (.str x) (.str y) H Q:=⟨x,y,rfl,rfl,Z.le h,q _ Z⟩
def PT.dsm:PT->Prop
 | .date _ _ (some i) _=> -1000<i/\i<1000
 | _=>True
structure NP(g:Bq)(p:PT)(z:Int)(j:Nat):Prop where
 ok:p.ok
 kn:p.kn
 tl:p.tx.length<=80*(p.lv+p.br)
 mn:p.lv+p.br<=j
 sz:p.sz g∣z
 z0:1<=z
 z1:z<=420
 ds:p.dsm
def Nr(g:Bq)(H:Hp)(a:Addr)(p:PT)(z:Int)(j:Nat):Prop:=H a=some (.tup [.str (sW p.tx),.int z])/\NP g p z j/\z<=120
def zO:Sp:=fun vs H Q _=>Ex2 fun(x y:Int)=>An6 (vs=[.int x,.int y]) (1<=x) (x<=20000) (1<=y) (y<=20000) (Q (.int (Bj x y)) H)
theorem ADz(a b:Int):Int.gcd b (a%b)=Int.gcd a b:=by
 have e:=jn5 a b;refine Nat.dvd_antisymm (Int.dvd_coe_gcd ?_ ?_ |> Int.ofNat_dvd.mp) (Int.dvd_coe_gcd ?_ ?_ |> Int.ofNat_dvd.mp)
 ·have h1:=jf8 (a:=b) (b:=a%b);have h2:=jh1 (a:=b) (b:=a%b);have:=Int.dvd_add h2 (ja2 h1 (Int.dvd_mul_right b (a/b)))
  rwa [e] at this
 ·exact jf8 ..
 ·exact jh1 ..
 ·have h1:=jf8 (a:=a) (b:=b);have h2:=jh1 (a:=a) (b:=b);rw[Int.emod_def];exact Int.dvd_sub h1 (ja2 h2 (Int.dvd_mul_right b (a/b)))
theorem jr(ns:List Int):Txt.join "," (ns.map Dj)=sW (Fd 44 (ns.map nW)):=by
 rw[show Str.ofString ","=⟨#[44]⟩ from by ac_rfl];exact Hm (by rw[qH,Bp,va];rfl)
theorem p30:(10:Int)^(30:Int).toNat=1000000000000000000000000000000:=nofun
theorem eV{k:Nat}:∀{zs:List Str},(∀w∈zs,w.length<=k)->(zs.map (·.length)).sum<=zs.length*k
 | [],_=>ke _
 | w::zs,h=>by
  have:=eV fun x hx=>h x (qk w hx);have:=h w qc;rw[zw,kz,qr,jl7];lia
theorem pP(h:Sm i):(Dj i).length<=41:=by
 rw[<-Eu];exact Es h
theorem ADj(x:Int):∃(n p b lp:Int) (j:Nat),1+x%3=n/\x/3%(n+1)=p/\x/3072%n=b/\1+x/1536%2=lp/\2+x/768%2=(j:Int)/\Ok1 p b n/\1<=lp/\lp<=2/\2<=j/\j<=3:=by
 have n0:1<=1+x%3/\1+x%3<=3:=⋯;generalize 1+x%3=n at n0;have p0:=qg (x/3) (show n+1≠0 by lia);have p1:=jv (x/3) (show 0<n+1 by lia);have b0:=qg (x/3072) (show n≠0 by lia);have b1:=jv (x/3072) (show 0<n by lia);exact⟨n,_,_,_,(2+x/768%2).toNat,rfl,rfl,rfl,rfl,⋯,⟨n0.1,n0.2,p0,⋯,b0,b1⟩,⋯,⋯,⋯,⋯⟩
theorem AAb(y:Int):∃m:Int,1+y%4=m/\1<=m/\m<=4:=⟨_,rfl,⋯,⋯⟩
theorem ABW(s bd a b n bm c y:Int):Ib (.moon s bd [(1,a,b,n)] bm [(1,c,0,y)])=sg "moon "++nW s++sg " "++nW bd++sg " +"++nW a++sg ","++nW b++sg ","++nW n++sg " / "++nW bm++sg " +"++nW c++sg ",0,"++nW y:=by
 have e:Ib (.moon s bd [(1,a,b,n)] bm [(1,c,0,y)])=sg "moon"++32::(nW s++32::(nW bd++32::(tW (1,a,b,n)++32::(sg "/"++32::(nW bm++32::tW (1,c,0,y)))))):=rfl;have e1:sg "moon "=sg "moon"++[32]:=∅;have e2:sg " +"=[32,43]:=∅;have e3:sg ","=[44]:=∅;have e4:sg ",0,"=44::(nW 0++[44]):=∅;have e5:sg " / "=32::(sg "/"++[32]):=∅;rw[e,e1,e2,e3,e4,e5,bsg];simp[tW,Fd]
theorem ADS(s lp a b n:Int)(ls:List Int):Ib (.sun s ls lp [(1,a,b,n)])=sg "sun "++nW s++sg " "++Fd 44 (ls.map nW)++sg " leap "++nW lp++sg " +"++nW a++sg ","++nW b++sg ","++nW n:=by
 have e:Ib (.sun s ls lp [(1,a,b,n)])=sg "sun"++32::(nW s++32::(Fd 44 (ls.map nW)++32::(sg "leap"++32::(nW lp++32::tW (1,a,b,n))))):=rfl;have e1:sg "sun "=sg "sun"++[32]:=∅;have e2:sg " +"=[32,43]:=∅;have e3:sg ","=[44]:=∅;have e5:sg " leap "=32::(sg "leap"++[32]):=∅;rw[e,e1,e2,e3,e5,bsg];simp[tW,Fd]
def ADZ(H:Hp)(p:Addr)(g:Bq):Prop:=OkC g/\g.st.natAbs<=1000000000000000000000000000000/\H p=some (.tup [.str (sW (Ib g)),.int (dyC g)])
def uD:Sp:=fun vs H Q _=>Ex2 fun(a s:Int)=>An4 (vs=[.int a,.int s]) (Sm s) (s.natAbs<=1000000000000000000000000000000) (∀g p H',Az H H'->ADZ H' p g->Q (.ref p) H')
def zP(K:Fr):Sp:=fun vs H Q _=>Ex2 fun(a:Addr) (ns:List Int)=>An4 (vs=[.ref a]) (SqL K H a (ns.map V.int)) (ns.length<=63) (∀g p H',Az H H'->ADZ H' p g->Q (.ref p) H')
def uJ:Sp:=fun vs H Q _=>Ex2 fun(x:Int) (g:Bq)=>An3 (vs=[.int x,.int (dyC g)]) (OkC g) (∀a p z H',Az H H'->Nr g H' a p z 1->Q (.ref a) H')
theorem yR:sW (PT.tx (.lf true))=Str.ofString "all":=∅
theorem eG:sW (PT.tx (.lf false))=Str.ofString "none":=∅
theorem ACq:Iu (sg "c"):=⟨∅,∅,∅⟩
theorem wj(m d:Option Int):sg "date c "++Fg m++sg " "++Fg d=PT.tx (.date (sg "c") m d none):=by
 rw[PT.tx_date0,show sg "date c "=sg "date "++sg "c"++sg " " by ac_rfl];rfl
noncomputable def moS:List (Option Int):=[none,some 1,some 2,some 3,some 1,some 2]
noncomputable def daS:List (Option Int):=[none,some 1,some 2,some 3,some 4,some (-1),some (-2),some (-4)]
theorem pI{o:Option Int}(h:o∈moS++daS):PT.okS o/\o≠some 0/\(Fg o).length<=2/\∀i,o=some i-> -10<i/\i<10:=by
 have:=(by ac_rfl:∀o∈moS++daS,(o.all fun i=>decide (-10<i/\i<10))=true/\o≠some 0/\(Fg o).length<=2) o h;have k:∀i,o=some i-> -10<i/\i<10:=fun i e=>by
  rw[e] at this;exact jk8 this.1
 exact⟨fun i e=>Kw (by have:=k i e;lia) (by have:=k i e;lia),this.2.1,this.2.2,k⟩
theorem ACr{o:Option Int}(h:o∈moS):okM o:=fun i e=>by
 have:=(by decide:∀o∈moS,(o.all fun i=>decide (1<=i))=true) o h;rw[e] at this;exact jk8 this
theorem rN{os:List (Option Int)}{k:Int}(h0:0<=k)(h1:k<(os.length:Int)):∃o,o∈os/\atI (os.map fun o=>V.str (sW (Fg o))) k=some (.str (sW (Fg o))):=by
 have hk:k.toNat<os.length:=⋯;refine⟨os[k.toNat],jo3 hk,?_⟩;have:=Ej (xs:=os.map fun o=>V.str (sW (Fg o))) (j:=k.toNat) (v:=.str (sW (Fg os[k.toNat]))) (by rw[xo,qm hk];rfl)
 rwa [show ((k.toNat:Nat):Int)=k by lia] at this
structure PT.Su(g:Bq)(p:PT):Prop where
 n:0<p.sz g
 l:p.bt g<2^(p.sz g).toNat
 r:p.rl g (p.bt g)
noncomputable def PT.at(g:Bq)(p:PT)(d:Int):Bool:=On (p.sz g) (p.bt g) d
section
variable{g:Bq}{p q:PT}{k d:Int}
theorem PT.on_no(S:(PT.no p).Su g):(PT.no p).at g d=!p.at g d:=Zh (b:=p.bt g) S.n S.r.1.2 d
theorem PT.on_bo{w:PK}{f:Bool->Bool->Bool}(S:(PT.pr w p q).Su g)(n1:0<p.sz g)(n2:0<q.sz g)(h:w.R=Bo f):(PT.pr w p q).at g d=f (p.at g d) (q.at g d):=by
 have fl:=BV n1 n2;have r:=S.r.1;rw[h] at r;exact Bo.on r n1 n2 fl.1 fl.2.1 fl.2.2.1 d
theorem PT.on_up(S:(PT.pr .up p q).Su g):(PT.pr .up p q).at g d=true<->GUp (p.at g) (q.at g) d:=(S.r.1 d).trans lZ
theorem PT.on_un(S:(PT.pr .un p q).Su g):(PT.pr .un p q).at g d=true<->GUn (p.at g) (q.at g) d:=(S.r.1 d).trans eF
theorem PT.on_ne(S:(PT.pr .ne p q).Su g):(PT.pr .ne p q).at g d=true<->GNr (p.at g) (q.at g) d:=S.r.1 d
theorem PT.on_ti(S:(PT.pr .ti p q).Su g):(PT.pr .ti p q).at g d=true<->GTi (p.at g) (q.at g) d:=S.r.1 d
theorem PT.on_nt(S:(PT.nt k p q).Su g):(PT.nt k p q).at g d=true<->Kth (p.sz g) (p.bt g) (q.sz g) (q.bt g) k d:=S.r.1 d
end
section
variable{g:Bq}{p q:PT}{k d:Int}{w:PK}
theorem PT.Su.p1(S:(PT.pr w p q).Su g)(h:0<p.sz g):p.Su g:=⟨h,S.r.2.1.1,S.r.2.1.2⟩
theorem PT.Su.p2(S:(PT.pr w p q).Su g)(h:0<q.sz g):q.Su g:=⟨h,S.r.2.2.1,S.r.2.2.2⟩
theorem PT.on_none:(PT.lf false).Su g->(PT.lf false).at g d=false:=fun S=>by
 have e:(PT.lf false).bt g=0:=S.r;show On 1 ((PT.lf false).bt g) d=false;rw[e];exact d9 1 d
end
theorem PT.on_each{n r:Int}(S:(PT.each n r).Su g):(PT.each n r).at g d=true<->n∣d-r:=by
 have b:On n ((PT.each n r).bt g) d=hit n [r] d:=RB.bit S.r d;show On n ((PT.each n r).bt g) d=true<->_;rw[b];unfold hit;rw[jk7,List.any_nil,jo7,decide_eq_true_eq];exact⟨ja7,vj⟩
noncomputable def FJ(i:Nat)(k:Int)(A B:PT):PT×PT:=match i with
 | 0=>(.pr .an A B,.pr .bu A B)
 | 1=>(A,.no A)
 | 2=>(.pr .ul A B,.pr .an B A)
 | 3=>(.pr .up A B,.no A)
 | 4=>(.pr .bu (.no A) B,.pr .or A B)
 | 5=>(.nt k A B,.pr .bu B A)
 | 6=>(A,.pr .ne B (.lf false))
 | _=>(.pr .up (.pr .or A (.each 2 0)) B,.pr .bu (.each 2 1) A)
noncomputable def Gv(i:Nat)(k:Int)(A B:PT):PT×PT:=match i with
 | 0=>(.pr .an A B,A)
 | 1=>(A,.pr .or B A)
 | 2=>(.pr .up A B,A)
 | 3=>(.pr .un A B,A)
 | 4=>(.pr .ne A B,A)
 | 5=>(.nt k A B,A)
 | 6=>(A,.pr .ti A B)
 | _=>(.pr .bu A B,.pr .ul B A)
section
variable{g:Bq}{A B:PT}{k:Int}{i:Nat}
theorem rR(a0:0<A.sz g)(b0:0<B.sz g)(h:i<8)(S:(FJ i k A B).1.Su g)(T:(FJ i k A B).2.Su g)(d:Int)(x:(FJ i k A B).1.at g d=true)(y:(FJ i k A B).2.at g d=true):False:=by
 have ab:=(BV a0 b0).1;have two:∀r,(0:Int)<(PT.each 2 r).sz g:=fun r=>by show(0:Int)<2;decide
 match i,h,S,T,x,y with
 | 0,_,S,T,x,y=>
  rw[show (FJ 0 k A B).1.at g d=_ from PT.on_bo S a0 b0 rfl] at x;rw[show (FJ 0 k A B).2.at g d=_ from PT.on_bo T a0 b0 rfl] at y;revert x y;cases A.at g d<;>cases B.at g d<;>decide
 | 1,_,S,T,x,y=>
  rw[show (FJ 1 k A B).2.at g d=_ from PT.on_no T,show A.at g d=true from x] at y;cases y
 | 2,_,S,T,x,y=>
  rw[show (FJ 2 k A B).1.at g d=_ from PT.on_bo S a0 b0 rfl] at x;rw[show (FJ 2 k A B).2.at g d=_ from PT.on_bo T b0 a0 rfl] at y;revert x y;cases A.at g d<;>cases B.at g d<;>decide
 | 3,_,S,T,x,y=>
  rw[show (FJ 3 k A B).2.at g d=_ from PT.on_no T,((PT.on_up S).mp x).1] at y;cases y
 | 4,_,S,T,x,y=>
  rw[show (FJ 4 k A B).1.at g d=_ from PT.on_bo S a0 b0 rfl,PT.on_no (S.p1 a0)] at x;rw[show (FJ 4 k A B).2.at g d=_ from PT.on_bo T a0 b0 rfl] at y;revert x y;cases A.at g d<;>cases B.at g d<;>decide
 | 5,_,S,T,x,y=>
  have a:A.at g d=true:=((PT.on_nt S).mp x).1;rw[show (FJ 5 k A B).2.at g d=_ from PT.on_bo T b0 a0 rfl,a] at y;revert y;cases B.at g d<;>decide
 | 6,_,S,T,x,y=>
  obtain⟨_,s,h2,_⟩:=(PT.on_ne T).mp y;rw[PT.on_none (T.p2 (by show(0:Int)<1;decide))] at h2;cases h2
 | 7,_,S,T,x,y=>
  have ae:=(BV a0 (two 0)).1;have u:=((PT.on_up S).mp x).1;rw[PT.on_bo (S.p1 ae) a0 (two 0) rfl] at u;rw[show (FJ 7 k A B).2.at g d=_ from PT.on_bo T (two 1) a0 rfl] at y;have e0:=PT.on_each (d:=d) ((S.p1 ae).p2 (two 0));have e1:=PT.on_each (d:=d) (T.p1 (two 1));revert u y;cases A.at g d with
  | true=>
   intro y _;revert y;cases (PT.each 2 1).at g d<;>decide
  | false=>
   intro y u;have u:(PT.each 2 0).at g d=true:=u;have y:(PT.each 2 1).at g d=true:=by
    revert y;cases (PT.each 2 1).at g d<;>decide
   have:=e0.mp u;have:=e1.mp y;lia
 | n+8,h,_,_,_,_=>exact absurd h ⋯
theorem qM(a0:0<A.sz g)(b0:0<B.sz g)(h:i<8)(S:(Gv i k A B).1.Su g)(T:(Gv i k A B).2.Su g)(d:Int)(x:(Gv i k A B).1.at g d=true):(Gv i k A B).2.at g d=true:=by
 match i,h,S,T,x with
 | 0,_,S,T,x=>
  rw[show (Gv 0 k A B).1.at g d=_ from PT.on_bo S a0 b0 rfl] at x;exact(jl0.mp x).1
 | 1,_,S,T,x=>
  refine(PT.on_bo (d:=d) T b0 a0 rfl).trans ?_;rw[show A.at g d=true from x,Bool.or_true]
 | 2,_,S,T,x=>exact((PT.on_up S).mp x).1
 | 3,_,S,T,x=>exact((PT.on_un S).mp x).1
 | 4,_,S,T,x=>exact((PT.on_ne S).mp x).1
 | 5,_,S,T,x=>exact((PT.on_nt S).mp x).1
 | 6,_,S,T,x=>exact(PT.on_ti T).mpr ⟨d,x,jh8 _,fun _ _ h=>h⟩
 | 7,_,S,T,x=>
  rw[show (Gv 7 k A B).1.at g d=_ from PT.on_bo S a0 b0 rfl] at x;refine(PT.on_bo (d:=d) T b0 a0 rfl).trans ?_;revert x;cases A.at g d<;>cases B.at g d<;>decide
 | n+8,h,_,_,_=>exact absurd h ⋯
end
theorem yP(w:PK)(p q:PT):PT.tx (.pr w p q)=sg "("++p.tx++sg " "++sg w.s++sg " "++q.tx++sg ")":=by
 rw[PT.tx_pr,PT.pk_t];simp
section
variable{g:Bq}{p q P:PT}{z y:Int}{j i:Nat}{k d:Int}{w:PK}
theorem NP.le(A:NP g p z j)(h:j<=i:=by decide):NP g p z i:=⟨A.ok,A.kn,A.tl,zv A.mn h,A.sz,A.z0,A.z1,A.ds⟩
theorem NP.up(A:NP g p z j)(h:z∣y)(h0:1<=y)(h1:y<=420):NP g p y j:=⟨A.ok,A.kn,A.tl,A.mn,ja2 A.sz h,h0,h1,A.ds⟩
theorem NP.s1(hg:SmC g)(A:NP g p z j):0<p.sz g/\p.sz g<=420:=⟨PT.sz_pos hg A.ok,jj7 (jk6 (by have:=A.z0;lia) A.sz) A.z1⟩
theorem NP.fine(hg:SmC g)(A:NP g p z 30):p.fine g:=by
 have:=A.tl;have:=A.mn;have:=A.s1 hg;have:=PT.lv_br p;exact⟨A.ok,A.kn,⋯,⋯,⋯,⋯⟩
theorem NP.bin(hg:SmC g)(A:NP g p z j)(B:NP g q z i)(o:P.ok)(kn:P.kn)(tl:P.tx.length<=p.tx.length+q.tx.length+80)(e:P.lv+P.br=p.lv+p.br+(q.lv+q.br)+1)(s:P.sz g=Bj (p.sz g) (q.sz g))(ds:P.dsm):NP g P z (j+i+1):=by
 have:=A.tl;have:=B.tl;have:=A.mn;have:=B.mn;refine⟨o,kn,⋯,⋯,?_,A.z0,A.z1,ds⟩;rw[s];exact(BV (A.s1 hg).1 (B.s1 hg).1).2.2.2.2.1 _ A.sz B.sz
theorem NP.one(A:NP g p z j)(o:P.ok)(kn:P.kn)(tl:P.tx.length<=p.tx.length+80)(e:P.lv+P.br=p.lv+p.br+1)(s:P.sz g=p.sz g)(ds:P.dsm):NP g P z (j+1):=by
 have:=A.tl;have:=A.mn;exact⟨o,kn,⋯,⋯,s ▸ A.sz,A.z0,A.z1,ds⟩
theorem NP.pr(hg:SmC g)(A:NP g p z j)(B:NP g q z i):NP g (.pr w p q) z (j+i+1):=.bin hg A B ⟨A.ok,B.ok⟩ ⟨A.kn,B.kn⟩ (by
 have:(sg w.t).length<=10:=by cases w<;>ac_rfl
 have:(sg "(").length=1:=∅
 have:(sg ")").length=1:=∅
 rw[PT.tx_pr];simp only[zh];lia) (by simp only[PT.lv,PT.br];lia) rfl trivial
theorem NP.nt(hg:SmC g)(A:NP g p z j)(B:NP g q z i)(sk:Sm k)(k0:k≠0):NP g (.nt k p q) z (j+i+1):=.bin hg A B ⟨sk,A.ok,B.ok,k0⟩ ⟨A.kn,B.kn⟩ (by
 have:=Es sk;have:(sg "(").length=1:=∅
 have:(sg ")").length=1:=∅
 have:(sg " of ").length=4:=∅;have:(sg " from ").length=6:=∅;rw[PT.tx_nt];simp only[zh];lia) (by simp only[PT.lv,PT.br];lia) rfl trivial
theorem NP.no(A:NP g p z j):NP g (.no p) z (j+1):=A.one A.ok A.kn (by
 have:(sg "(not ").length=5:=∅
 have:(sg ")").length=1:=∅
 rw[PT.tx_no];simp only[zh];lia) (by simp only[PT.lv,PT.br];lia) rfl trivial
theorem NP.la(A:NP g p z j)(sk:Sm k):NP g (.la k p) z (j+1):=A.one ⟨sk,A.ok⟩ A.kn (by
 have:=Es sk;have:(sg "(").length=1:=∅
 have:(sg ")").length=1:=∅
 have:(sg " later ").length=7:=∅;rw[PT.tx_la];simp only[zh];lia) (by simp only[PT.lv,PT.br];lia) rfl trivial
end
noncomputable def pkJ:Nat->PK
 | 0=>.an
 | 1=>.or
 | 2=>.bu
 | 3=>.ul
 | 4=>.up
 | 5=>.un
 | 6=>.ne
 | _=>.ti
noncomputable def byP(i:Nat)(k:Int)(p q:PT):PT:=match i with
 | 8=>.la k p
 | 9=>.nt k p q
 | i=>.pr (pkJ i) p q
noncomputable def woS:List Str:=[Str.ofString "and",Str.ofString "or",Str.ofString "but",Str.ofString "unlike",Str.ofString "upon",Str.ofString "until",Str.ofString "near",Str.ofString "till",Str.ofString "later",Str.ofString "of"]
noncomputable def wS(i:Nat):Str:=woS.getD i ""
theorem ABf(x:Int):∃i:Nat,i<10/\atI (woS.map V.str) (x%10)=some (.str (wS i)):=by
 have a0:=qg x (show (10:Int)≠0 by decide);have a1:=jv x (show (0:Int)<10 by decide);have hk:(x%10).toNat<woS.length:=by show _<10;lia
 refine⟨(x%10).toNat,hk,?_⟩;have:=Ej (xs:=woS.map V.str) (j:=(x%10).toNat) (v:=.str (wS (x%10).toNat)) (by rw[xo,qm hk];unfold wS;rw[ja0,qm hk];rfl)
 rwa [show (((x%10).toNat:Nat):Int)=x%10 by lia] at this
theorem ADh:∀i<10,wS i=Str.ofString "later"->i=8:=∅
theorem ADg:∀i<10,wS i=Str.ofString "of"->i=9:=∅
theorem ADf{i:Nat}{k:Int}{p q:PT}(h:i<10)(h8:i≠8)(h9:i≠9):byP i k p q=.pr (pkJ i) p q/\wS i=Str.ofString (pkJ i).s:=by
 match i,h with
 | 0,_=>exact⟨rfl,∅⟩
 | 1,_=>exact⟨rfl,∅⟩
 | 2,_=>exact⟨rfl,∅⟩
 | 3,_=>exact⟨rfl,∅⟩
 | 4,_=>exact⟨rfl,∅⟩
 | 5,_=>exact⟨rfl,∅⟩
 | 6,_=>exact⟨rfl,∅⟩
 | 7,_=>exact⟨rfl,∅⟩
 | n+8,h=>exact absurd h ⋯
def nF:Sp:=fun vs H Q _=>Ex9 fun(x y:Str) (g:Bq) (z:Int) (w:PK) (p q:PT) (j i:Nat)=>An8 (vs=[.str x,.str (Str.ofString w.s),.str y]) (x=sW p.tx) (y=sW q.tx) (SmC g) (NP g p z j) (NP g q z i) (j+i<=30) (NP g (.pr w p q) z (j+i+1)->Q (.str (sW (PT.pr w p q).tx)) H)
theorem NP.put{x y:Str}{p q:PT}{j i:Nat}(sm:SmC g)(A:NP g p z j)(B:NP g q z i)(w:PK)(ex:x=sW p.tx)(ey:y=sW q.tx)(h:NP g (.pr w p q) z (j+i+1)->Q (.str (sW (PT.pr w p q).tx)) H)(l:j+i<=30:=by decide):nF [.str x,.str (Str.ofString w.s),.str y] H Q E:=⟨x,y,g,z,w,p,q,j,i,rfl,ex,ey,sm,A,B,l,h⟩
def ACS:Sp:=fun vs H Q _=>Ex8 fun(g:Bq) (z k x:Int) (p q:PT) (a b:Nat)=>An8 (vs=[.int x,.int k,.str (sW p.tx),.str (sW q.tx)]) (Sm k) (k≠0) (SmC g) (NP g p z a) (NP g q z b) (a+b<=30) (∀i H',Az H H'->NP g (byP i k p q) z (a+b+1)->Q (.str (sW (byP i k p q).tx)) H')
def tu(K:Fr):Sp:=fun vs H Q _=>Ex4 fun(l:Addr) (x y:Int) (g:Bq)=>An4 (vs=[.ref l,.int (dyC g)]) (SqL K H l [.int x,.int y]) (OkC g) (∀a p z H',Az H H'->Nr g H' a p z 3->Q (.ref a) H')
def PrR(H:Hp)(t:Addr)(g:Bq)(z:Int)(X:PT×PT):Prop:=H t=some (.tup [.str (sW X.1.tx),.str (sW X.2.tx)])/\NP g X.1 z 29/\NP g X.2 z 29
theorem PrR.mk{t:Addr}{P R:PT}{j i:Nat}(A:NP g P z j)(B:NP g R z i)(l:j<=29:=by decide)(l':i<=29:=by decide):PrR (upd H t (.tup [.str (sW P.tx),.str (sW R.tx)])) t g z (P,R):=⟨Am,A.le l,B.le l'⟩
def xJ(f:Nat->Int->PT->PT->PT×PT):Sp:=fun vs H Q _=>Ex6 fun(g:Bq) (z k:Int) (A B:PT) (i:Nat)=>An9 (vs=[.int (i:Int),.int k,.str (sW A.tx),.str (sW B.tx)]) (i<8) (Sm k) (k≠0) (SmC g) (NP g A z 4) (NP g B z 4) (2∣z) (∀t H',Az H H'->PrR H' t g z (f i k A B)->Q (.ref t) H')
theorem Mm{i:Nat}{n:Int}{A B:Prop}(h1:(i:Int)=n->A)(h2:(i:Int)≠n->B):if decide (V.int (i:Int)=V.int n)=true then A else B:=Cd (fun h=>h1 (V.int.inj h)) fun h=>h2 fun z=>h (yk V.int z)
noncomputable def n4:List Int:=[-2,-1,1,2]
theorem yI(x:Int):∃k:Int,Sm k/\k≠0/\atI [V.int (-2),V.int (-1),V.int 1,V.int 2] (x%4)=some (.int k):=by
 rcases(by lia:x%4=0\/x%4=1\/x%4=2\/x%4=3) with e | e | e | e<;>rw[e]
 all_goals exact⟨_,Kw nofun nofun,nofun,rfl⟩
theorem NP.fit{p:PT}{j:Nat}(A:NP g p z j)(l:j<=30:=by decide):p.tx.length<=2400:=by
 have:=A.tl;have:=A.mn;lia
theorem ADu:nW 1=sg "1":=∅
theorem yQ(p:PT):sg "(1 later "++p.tx++sg ")"=PT.tx (.la 1 p):=by
 rw[PT.tx_la,ADu,show sg "(1 later "=sg "("++sg "1"++sg " later " by ac_rfl]
theorem lr:Str.ofString "each 2 from 0"=sW (PT.tx (.each 2 0))/\Str.ofString "each 2 from 1"=sW (PT.tx (.each 2 1)):=∅
theorem NP.ea{n r:Int}(n0:1<=n)(n1:n<=420)(sr:Sm r)(h:n∣z)(z0:1<=z)(z1:z<=420):NP g (.each n r) z 1:=by
 have sn:Sm n:=Kw ⋯ ⋯;have:=Es sr;have nl:(nW n).length<=28:=by
  have:=(by ac_rfl:∀i<421,(nW ((i:Nat):Int)).length<=28) n.toNat ⋯
  rwa [show ((n.toNat:Nat):Int)=n by lia] at this
 have l1:(sg "each ").length=5:=∅;have l2:(sg " from ").length=6:=∅;exact⟨⟨sn,sr,n0,⋯⟩,trivial,by rw[PT.tx_each];unfold gR;simp only[zh,PT.lv,PT.br];lia,by show 1+0<=1;decide,h,z0,z1,trivial⟩
noncomputable def lgA(n r s:Int):PT:=if r%2=1 then .pr .or (.each n r) (.each n s) else .each n r
noncomputable def lgB(n r s:Int):PT:=if r%2=1 then .pr .or (.each n s) (.each n r) else .each n r
def Z30(r:Int):Prop:=0<=r/\r<1000000000000000000000000000000
theorem Z30.sm{r:Int}(h:Z30 r):Sm r:=Kw (by unfold Z30 at h;lia) (by unfold Z30 at h;lia)
section
variable{g:Bq}{n r s d:Int}
theorem xY(hg:SmC g)(n0:1<=n)(n1:n<=420)(hr:Z30 r)(hs:Z30 s):NP g (lgA n r s) n 3/\NP g (lgB n r s) n 3:=by
 have a:NP g (.each n r) n 1:=.ea n0 n1 hr.sm (vv _) n0 n1;have b:NP g (.each n s) n 1:=.ea n0 n1 hs.sm (vv _) n0 n1;unfold lgA lgB;split
 ·exact⟨a.pr hg b,b.pr hg a⟩
 ·exact⟨a.le,a.le⟩
theorem gK(n0:0<n):(lgA n r s).sz g=n/\(lgB n r s).sz g=n:=by
 unfold lgA lgB;split
 ·exact⟨lcm_self n0,lcm_self n0⟩
 ·exact⟨rfl,rfl⟩
theorem pq(n0:0<n)(S:(lgA n r s).Su g):(lgA n r s).at g d=true<->n∣d-r\/r%2=1/\n∣d-s:=by
 unfold lgA at S ⊢;split at S
 ·next h=>
  rw[xy h,PT.on_bo S n0 n0 rfl,je9,PT.on_each (S.p1 n0),PT.on_each (S.p2 n0)];exact⟨fun z=>z.imp id fun z=>⟨h,z⟩,fun z=>z.imp id And.right⟩
 ·next h=>
  rw[xp h,PT.on_each S];exact⟨.inl,fun z=>z.elim id fun z=>absurd z.1 h⟩
theorem pZ(n0:0<n)(S:(lgB n r s).Su g):(lgB n r s).at g d=true<->n∣d-r\/r%2=1/\n∣d-s:=by
 unfold lgB at S ⊢;split at S
 ·next h=>
  rw[xy h,PT.on_bo S n0 n0 rfl,je9,PT.on_each (S.p1 n0),PT.on_each (S.p2 n0)];exact⟨fun z=>z.elim (fun z=>.inr ⟨h,z⟩) .inl,fun z=>z.elim .inr fun z=>.inl z.2⟩
 ·next h=>
  rw[xp h,PT.on_each S];exact⟨.inl,fun z=>z.elim id fun z=>absurd z.1 h⟩
end
theorem gr{n:Nat}{r s:Int}(n0:0<n)(h:∀d:Int,On (n:Int) b d=true->(n:Int)∣d-r\/(n:Int)∣d-s):cnt b n<=2:=by
 have key:∀x:Int,0<=x%(n:Int)/\x%(n:Int)<(n:Int):=fun x=>⟨qg x ⋯,jv x ⋯⟩;have kr:=key r;have ks:=key s;have at':∀i:Nat,i<n->b.testBit i=true->(i:Int)=r%(n:Int)\/(i:Int)=s%(n:Int):=fun i hi hb=>by
  have o:On (n:Int) b (i:Int)=true:=by
   unfold On;rw[Zl ⋯ ⋯,xa];exact hb
  refine(h i o).imp (fun z=>?_) (fun z=>?_)
  ·rw[<-Zl (show 0<=(i:Int) by lia) (show (i:Int)<(n:Int) by lia)];exact vx.mpr (vj z)
  ·rw[<-Zl (show 0<=(i:Int) by lia) (show (i:Int)<(n:Int) by lia)];exact vx.mpr (vj z)
 generalize r%(n:Int)=u at kr at';generalize s%(n:Int)=v at ks at';have all:∀k,k<=n->cnt b k<=(if u<(k:Int) then 1 else 0)+(if v<(k:Int) then 1 else 0):=by
  intro k
  induction k with
  | zero=>exact fun _=>ke _
  | succ k ih=>
   intro hk;have ih:=ih ⋯;show cnt b k+(if b.testBit k then 1 else 0)<=_;cases e:b.testBit k with
   | false=>
    rw[xp zi];split at ih<;>split at ih<;>split<;>split<;>lia
   | true=>
    have:=at' k ⋯ e;rw[xy rfl];split at ih<;>split at ih<;>split<;>split<;>lia
 have:=all n (qq _);split at this<;>split at this<;>lia
def Zd(d:Int):Prop:= -9000000000000000000000000000000000000010<=d/\d<=9000000000000000000000000000000000000010
theorem Zd.sm(h:Zd d)(h1:d-1000000<=e)(h2:e<=d+1000000):Sm e:=by
 unfold Zd at h;unfold Sm;have:(10:Nat)^40=10000000000000000000000000000000000000000:=nofun;lia
noncomputable def lgN(ns:List Int):Int:=388+ns.getD (3:Int).toNat 0%30
noncomputable def lgR(ns:List Int)(k:Int):Int:=ns.getD k.toNat 0%1000000000000000000000000000000
theorem S9(ns:List Int):388<=lgN ns/\lgN ns<=417:=by
 unfold lgN;lia
theorem Jp(ns:List Int)(k:Int):Z30 (lgR ns k):=by
 unfold lgR Z30;lia
structure LgO(ns:List Int)(n b m c:Nat):Prop where
 en:(n:Int)=lgN ns
 em:(m:Int)=lgN ns+1
 o1:∀d,(n:Int)∣d-lgR ns 6\/lgR ns 6%2=1/\(n:Int)∣d-lgR ns 8->On (n:Int) b d=true
 o2:∀d,(m:Int)∣d-lgR ns 7\/lgR ns 7%2=1/\(m:Int)∣d-lgR ns 9->On (m:Int) c d=true
noncomputable def wW(w:Bool):String:=if w then "within" else "meet"
noncomputable def w0(w:Bool):String:=if w then "within" else "never"
noncomputable def w1(w:Bool):String:=if w then "outside" else "meet"
noncomputable def sk(w:Bool)(n b m c:Nat)(d:Int):Bool:=On (n:Int) b d&&(On (m:Int) c d != w)
section
variable(K:Fr)(cs:Cs)
structure Asks(H:Hp)(x:Addr)(nm:Wd)(n b:Nat):Prop where
 d:∃c j m,Dk K cs H x c j m/\j<=50/\m nm=some (n,b)
 nm:Iu nm
 n0:0<n
 n1:n<=420
structure Oz(H:Hp)(x:Addr)(n b m c:Nat):Prop where
 d:∃g j f,Dk K cs H x g j f/\j<=50/\f (sg "r")=some (n,b)/\f (sg "s")=some (m,c)
 n0:0<n
 m0:0<m
 n1:n<=420
 m1:m<=420
def uG:Sp:=fun vs H Q _=>Ex3 fun(l:Addr) (ns:List Int) (g:Bq)=>An5 (vs=[.ref l]) (SmC g) (SqL K H l (ns.map V.int)) (ns.length<=63) (∀t H',Az H H'->H' t=some (.tup [.str (sW (lgA (lgN ns) (lgR ns 6) (lgR ns 8)).tx),.str (sW (lgB (lgN ns+1) (lgR ns 7) (lgR ns 9)).tx)])->Q (.ref t) H')
def zN:Sp:=fun vs H Q _=>Ex2 fun(l:Addr) (ns:List Int)=>An4 (vs=[.ref l]) (SqL K H l (ns.map V.int)) (ns.length<=63) (∀d,Zd d->Q (.int d) H)
def yp:Sp:=fun vs H Q _=>Ex7 fun(l:Addr) (ns:List Int) (d:Int) (n b m c:Nat)=>An6 (vs=[.ref l,.int d]) (SqL K H l (ns.map V.int)) (ns.length<=63) (Zd d) (LgO ns n b m c) (∀v H',Az H H'->d<=v->On (n:Int) b v=true->On (m:Int) c v=true->Q (.int v) H')
def zL:Sp:=fun vs H Q _=>Ex7 fun(x l:Addr) (ns:List Int) (n b m c:Nat)=>An7 (vs=[.ref x,.ref l]) (SqL K H l (ns.map V.int)) (ns.length<=63) (Oz K cs H x n b m c) (CMt n b m c) (LgO ns n b m c) (∀H',Az H H'->Q (.bl true) H')
def ABy:Sp:=fun vs H Q _=>Ex5 fun(x:Addr) (y:Str) (d:Int) (n b:Nat)=>An4 (vs=[.ref x,.str y,.int d]) (Asks K cs H x (cpl y) n b) (Sm d) (∀H',Az H H'->Q (.bl (On (n:Int) b d)) H')
def uH:Sp:=fun vs H Q _=>Ex7 fun(x:Addr) (w:Bool) (d:Int) (n b m c:Nat)=>An4 (vs=[.ref x,.str (Str.ofString (wW w)),.int d]) (Oz K cs H x n b m c) (Sm d) (∀H',Az H H'->Q (.bl (sk w n b m c d)) H')
def nY:Sp:=fun vs H Q _=>Ex8 fun(x:Addr) (y:Str) (d z:Int) (n b m c:Nat)=>An7 (vs=[.ref x,.int d,.str y,.int z]) (Asks K cs H x (sg "r") n b) (Asks K cs H x (cpl y) m c) (Zd d) (1<=z) (z<=420) (∀v H',Az H H'->(v=true->Ex2 fun e f=>An3 (On (n:Int) b e=true) (On (m:Int) c f=true) (z∣e-f))->Q (.bl v) H')
def yg:Sp:=fun vs H Q _=>wV fun(x l:Addr) (ns:List Int) (w u:Bool) (n b m c co:Nat)=>ABd (vs=[.ref x,.ref l,.str (Str.ofString (wW w)),.bl u]) (SqL K H l (ns.map V.int)) (ns.length<=63) (Oz K cs H x n b m c) (Asks K cs H x (sg "t") m co) (∀d,On (m:Int) co d=!On (m:Int) c d) (CMt n b m c) (w=true->CWi n b m c) (u=true->∀d,sk w n b m c d=false) (∀H',Q (.bl true) H')
end
theorem T2{s h x z:Wd}(e:s=h++32::(x++[32])):h++32::(x++32::z)=s++z:=by rw[e];simp
theorem AAZ:Iu (sg "r"):=⟨∅,∅,∅⟩
theorem AAX:Iu (sg "s"):=⟨∅,∅,∅⟩
theorem ACp:Iu (sg "t"):=⟨∅,∅,∅⟩
theorem AEb(g:Bq):Row.T (.cal g)=sg "calendar c "++Ib g:=T2 (show sg "calendar c "=cpl "calendar"++32::(sg "c"++[32]) by ac_rfl)
theorem AEX(p:PT):Row.T (.rule (sg "r") p)=sg "rule r "++p.tx:=T2 (show sg "rule r "=cpl "rule"++32::(sg "r"++[32]) by ac_rfl)
theorem AEW(p:PT):Row.T (.rule (sg "s") p)=sg "rule s "++p.tx:=T2 (show sg "rule s "=cpl "rule"++32::(sg "s"++[32]) by ac_rfl)
theorem AEV(p:PT):Row.T (.rule (sg "t") (.no p))=sg "rule t (not "++p.tx++sg ")":=by
 rw[show Row.T (.rule (sg "t") (.no p))=sg "rule t "++(PT.no p).tx from T2 (show sg "rule t "=cpl "rule"++32::(sg "t"++[32]) by ac_rfl),PT.tx_no,show sg "rule t (not "=sg "rule t "++sg "(not " by ac_rfl];simp
theorem AEZ(nm:Wd)(d:Int):Row.T (.on nm d)=sg "on "++nm++sg " "++nW d:=by
 have e:Row.T (.on nm d)=sg "on"++32::(nm++32::nW d):=rfl;rw[e,show sg "on "=sg "on"++[32] by ac_rfl,bsg];simp
theorem AEa(nm:Wd)(d:Int):Row.T (.next nm d)=sg "next "++nm++sg " "++nW d:=by
 have e:Row.T (.next nm d)=sg "next"++32::(nm++32::nW d):=rfl
 rw[e,show sg "next "=sg "next"++[32] by ac_rfl,bsg];simp
noncomputable def AAc(w:Bool)(d:Int):Row:=if w then .within (sg "r") (sg "s") d else .meet (sg "r") (sg "s") d
theorem ADT(w:Bool)(d:Int):Row.T (AAc w d)=sg (wW w)++sg " r s "++nW d:=by
 rw[show sg " r s "=32::(sg "r"++32::(sg "s"++[32])) by ac_rfl];cases w
 ·show sg "meet"++32::(sg "r"++32::(sg "s"++32::nW d))=_;simp[wW]
 ·show sg "within"++32::(sg "r"++32::(sg "s"++32::nW d))=_;simp[wW]
theorem fJ{nm:Wd}(h:Iu nm)(hd:Sm d):∀w∈[Wk.ru nm,.nu d],w.ok:=fun w hw=>by
 simp only[zo,kg,or_false] at hw;rcases hw with rfl | rfl
 ·exact h
 ·exact hd
theorem Xa{nm:Wd}{p:PT}(h:Iu nm)(f:p.fine g):(Row.rule nm p).ok:=fun w hw=>by
 simp only[Row.ws,zo,kg,or_false] at hw;rcases hw with rfl | rfl
 ·exact h
 ·obtain⟨_,t,_⟩:=PT.rdy f.ok f.tl f.dp;exact⟨f.tl,fun c hc=>GC.mp t.1 c (by rw[Bp];exact hc)⟩
theorem ABI(o:OkC g):(Row.cal g).ok:=fun w hw=>by
 simp only[Row.ws,zo,kg,or_false] at hw;obtain⟨_,l,t⟩:=o.tx;rcases hw with rfl | rfl
 ·exact ACq
 ·exact⟨⋯,fun c hc=>GC.mp t.1 c (by rw[Bp];exact hc)⟩
theorem K1{r:Int}(h:Sm r):(sW (nW r)).length<=640/\PySem.intText? (sW (nW r))=some r:=by
 have e:=Od (z:=sW (nW r)) (by rw[Bp];exact(JS h).1);rw[Bp,(JS h).2] at e;have:=Es h;exact⟨by rw[DQ];lia,e⟩
theorem gA{r:Int}(h:Sm r):sW (nW r)≠Str.ofString "never":=fun z=>by
 have z:=yk cpl z;rw[Bp] at z;have:=Hw h 110 (by rw[z];ac_rfl);lia
theorem LgO.day{ns:List Int}{n:Nat}(L:LgO ns n b m c):∃v,On (n:Int) b v=true/\On (m:Int) c v=true:=by
 have em:(m:Int)=(n:Int)+1:=by rw[L.en,L.em]
 refine⟨lgR ns 6+(lgR ns 6-lgR ns 7)*(n:Int),L.o1 _ (.inl ⟨lgR ns 6-lgR ns 7,by rw[ja4];lia⟩),L.o2 _ (.inl ⟨lgR ns 6-lgR ns 7,?_⟩)⟩;rw[em,jj6,jg7,ja4 (n:Int)];lia
noncomputable def dTx:Option Int->Str
 | none=>Str.ofString "never"
 | some i=>sW (nW i)
def NxO(o:Int->Bool)(d:Int):Option Int->Prop
 | none=>∀e,o e=false
 | some r=>lK o d r/\Sm r
theorem AAH{n:Nat}{f:Int}(n0:0<n)(em:(m:Int)=(n:Int)+1)(h:(m:Int)∣f+i*(n:Int)-e):d<=d+(f+i*(n:Int)-d)%((n:Int)*((n:Int)+1))/\(n:Int)∣d+(f+i*(n:Int)-d)%((n:Int)*((n:Int)+1))-f/\(m:Int)∣d+(f+i*(n:Int)-d)%((n:Int)*((n:Int)+1))-e:=by
 rw[<-em];have p:0<(n:Int)*(m:Int):=Int.mul_pos ⋯ ⋯;have k1:=qg (f+i*(n:Int)-d) (show (n:Int)*(m:Int)≠0 by lia);have dv:(n:Int)*(m:Int)∣d+(f+i*(n:Int)-d)%((n:Int)*(m:Int))-(f+i*(n:Int)):=by
  have:=ky (f+i*(n:Int)-d) ((n:Int)*(m:Int));exact⟨-((f+i*(n:Int)-d)/((n:Int)*(m:Int))),by rw[jf1];lia⟩
 refine⟨⋯,?_,?_⟩
 ·have:=Int.dvd_add (ja2 (Int.dvd_mul_right (n:Int) (m:Int)) dv) (Int.dvd_mul_left i (n:Int))
  rwa [show ∀v:Int,v-(f+i*(n:Int))+i*(n:Int)=v-f from fun v=>by lia] at this
 ·have:=Int.dvd_add (ja2 (Int.dvd_mul_left (n:Int) (m:Int)) dv) h
  rwa [show ∀v:Int,v-(f+i*(n:Int))+(f+i*(n:Int)-e)=v-e from fun v=>by lia] at this
theorem AAL{n:Nat}{f:Int}(em:(m:Int)=(n:Int)+1):∃j:Nat,j<m/\(m:Int)∣f+(j:Int)*(n:Int)-e:=by
 have k1:=qg (f-e) (show (m:Int)≠0 by lia);have k2:=jv (f-e) (show 0<(m:Int) by lia);have dv:=ky (f-e) (m:Int);refine⟨((f-e)%(m:Int)).toNat,⋯,(f-e)/(m:Int)+(f-e)%(m:Int),?_⟩;rw[jc2 k1,ja3];generalize (f-e)%(m:Int)=r at*
 have:(m:Int)*r=r*(n:Int)+r:=by rw[em,jj6,jg7,ja4]
 lia
theorem yH{a b:V}(x:Int):∃o:Bool,x%2=(if o then 1 else 0)/\atI [a,b] (x%2)=some (if o then b else a):=by
 rcases(by lia:x%2=0\/x%2=1) with e | e
 ·exact⟨false,e,by rw[e];rfl⟩
 ·exact⟨true,e,by rw[e];rfl⟩
theorem iC{a b:Str}(w:Bool):atI [V.str a,V.str b] (if decide (V.str (Str.ofString (wW w))=V.str "within")=true then 1 else 0)=some (.str (if w then b else a)):=by
 cases w with
 | true=>rw[xy ∅];rfl
 | false=>rw[xp ∅];rfl
theorem O5{n:Nat}(n0:0<n)(m0:0<m){e f:Int}(h1:On (n:Int) b e=true)(h2:On (m:Int) c f=true)(h:((Nat.gcd n m:Nat):Int)∣e-f):Meets n b m c:=by
 have k1:=qg e (show (n:Int)≠0 by lia);have k2:=jv e (show (0:Int)<(n:Int) by lia);have k3:=qg f (show (m:Int)≠0 by lia);have k4:=jv f (show (0:Int)<(m:Int) by lia);refine⟨(e%(n:Int)).toNat,(f%(m:Int)).toNat,⋯,⋯,h1,h2,?_⟩;have a1:((((e%(n:Int)).toNat%Nat.gcd n m:Nat)):Int)=e%((Nat.gcd n m:Nat):Int):=by
  rw[jb8,jc2 k1,jb0 _ (jd0.mpr (ji8 n m))]
 have a2:((((f%(m:Int)).toNat%Nat.gcd n m:Nat)):Int)=f%((Nat.gcd n m:Nat):Int):=by
  rw[jb8,jc2 k3,jb0 _ (jd0.mpr (Nat.gcd_dvd_right n m))]
 have:=vx.mpr (vj h);lia
section
variable{K:Fr}{cs:Cs}{H H':Hp}{x:Addr}{n b m c i:Nat}{d:Int}{y:Str}{Q:VK}{E:XK}{nm:Wd}
theorem Oz.same(A:Oz K cs H x n b m c)(s:Az H H'):Oz K cs H' x n b m c:=by
 obtain⟨⟨g,j,f,k,h⟩,h1,h2,h3,h4⟩:=A;exact⟨⟨g,j,f,k.same s,h⟩,h1,h2,h3,h4⟩
theorem Oz.r(A:Oz K cs H x n b m c):Asks K cs H x (sg "r") n b:=by
 obtain⟨⟨g,j,f,k,jl,e1,_⟩,h1,_,h3,_⟩:=A;exact⟨⟨g,j,f,k,jl,e1⟩,AAZ,h1,h3⟩
theorem Oz.s(A:Oz K cs H x n b m c):Asks K cs H x (sg "s") m c:=by
 obtain⟨⟨g,j,f,k,jl,_,e2⟩,_,h2,_,h4⟩:=A;exact⟨⟨g,j,f,k,jl,e2⟩,AAX,h2,h4⟩
theorem Asks.same(A:Asks K cs H x nm n b)(s:Az H H'):Asks K cs H' x nm n b:=by
 obtain⟨⟨c,j,m,k,h⟩,h2,h3,h4⟩:=A;exact⟨⟨c,j,m,k.same s,h⟩,h2,h3,h4⟩
theorem Asks.at(A:Asks K cs H x nm n b):∃dx a r,H x=some (.ins cs.D dx [("calendars",.ref a),("rules",.ref r)]):=by
 obtain⟨_,_,_,k,_⟩:=A.d;obtain⟨dx,a,r,_,h,_⟩:=k.ex;exact⟨dx,a,r,h⟩
theorem Asks.nx(A:Asks K cs H x nm n b)(sd:Sm d)(Z:Lg y (sg "next "++nm++sg " "++nW d) i)(h:GDy lK (n:Int) b d H Q):mz K cs [.ref x,.str y] H Q E:=by
 obtain⟨g,j,f,k,jl,e1⟩:=A.d;exact⟨x,g,j,f,.next nm d,yk (fun z=>[V.ref x,V.str z]) (Z.eq (AEa nm d).symm),fJ A.nm sd,k,jl,n,b,e1,h⟩
theorem xX(sd:Sm d):∀w∈[Wk.ru (sg "r"),.ru (sg "s"),.nu d],w.ok:=fun w hw=>by
 simp only[zo,kg,or_false] at hw;rcases hw with rfl | rfl | rfl
 ·exact AAZ
 ·exact AAX
 ·exact sd
theorem Oz.mt(A:Oz K cs H x n b m c)(sd:Sm d)(w:Bool)(hm:CMt n b m c)(hw:w=true->CWi n b m c)(Z:Lg y (sg (wW w)++sg " r s "++nW d) i)
 (h1:∀(z:Int) (H':Hp),Az H H'->1<=z->z<=420->(∀e f,On (n:Int) b e=true->(On (m:Int) c f != w)=true->¬z∣e-f)->Q (.str (sW (sg (w0 w)++(sg " "++nW z)))) H')
 (h2:∀(e:Int) (H':Hp),Az H H'->d<=e->e<d+900000->sk w n b m c e=true->(∀x,d<=x->x<e->sk w n b m c x=false)->Q (.str (sW (sg (w1 w)++(sg " "++nW e)))) H'):mz K cs [.ref x,.str y] H Q E:=by
 obtain⟨g,j,f,k,jl,e1,e2⟩:=A.d;have n0:=A.n0;have n1:=A.n1;have m0:=A.m0;have g0:0<Nat.gcd n m:=ji0 m n0;have g1:=Nat.le_of_dvd n0 (ji8 n m);have lc:=hm.2;have nb:∀u v:Bool,¬(u=true/\v=true)->(u&&v)=false:=nofun;cases w with
 | false=>
  have e:∀d,sk false n b m c d=(On (n:Int) b d&&On (m:Int) c d):=fun d=>by unfold sk;cases On (m:Int) c d<;>rfl
  refine⟨x,g,j,f,AAc false d,yk (fun z=>[V.ref x,V.str z]) (Z.eq (ADT false d).symm),xX sd,k,jl,n,b,m,c,e1,e2,hm,fun H' s no=>h1 _ H' s ⋯ ⋯ fun e f o1 o2 z=>no (O5 n0 m0 o1 (by revert o2;cases On (m:Int) c f<;>decide) z),fun z H' s F=>h2 z H' s F.ge (by have:=F.lt;lia) (by rw[e,F.on1,F.on2];rfl) fun x a b=>by rw[e];exact nb _ _ (F.no x a b)⟩
 | true=>
  have e:∀co,Cmp m c co->∀d,sk true n b m c d=(On (n:Int) b d&&On (m:Int) co d):=fun co C d=>by unfold sk;rw[C.on m0];cases On (m:Int) c d<;>rfl
  refine⟨x,g,j,f,AAc true d,yk (fun z=>[V.ref x,V.str z]) (Z.eq (ADT true d).symm),xX sd,k,jl,n,b,m,c,e1,e2,hw rfl,fun co C=>⟨fun H' s no=>h1 _ H' s ⋯ ⋯ fun e f o1 o2 z=>no (O5 n0 m0 o1 (by rw[C.on m0];revert o2;cases On (m:Int) c f<;>decide) z),fun z H' s F=>h2 z H' s F.ge (by have:=F.lt;lia) (by rw[e co C,F.on1,F.on2];rfl) fun x a b=>by rw[e co C];exact nb _ _ (F.no x a b)⟩⟩
end
theorem ABr(s:String){b:Wd}(ha:32∉sg s)(hb:32∉b):JP 32 (sW (sg s++(sg " "++b)))=[Str.ofString s,sW b]:=by
 have e:spl 32 (sg s++(sg " "++b))=[sg s,b]:=by
  rw[bsg,jg3,Lj 32 _ _ ha];exact yk _ (Wx (ps:=[b]) (by simp) fun p hp=>by rw[xc.mp hp];exact hb)
 unfold JP;rw[show cps (sW (sg s++(sg " "++b)))=sg s++(sg " "++b) from Bp _,e];exact yk (· ::[sW b]) (Jz (Str.ofString s))
theorem qx(s:String){r:Int}(sr:Sm r)(l:(sg s).length<=30)(h:32∉sg s):(sW (sg s++(sg " "++nW r))).length<=1000000/\JP 32 (sW (sg s++(sg " "++nW r)))=[Str.ofString s,sW (nW r)]:=⟨by
 have:=Es sr;have:(sg " ").length=1:=∅;rw[DQ];simp only[zh];lia,ABr s h fun z=>by have:=Hw sr 32 z;lia⟩
noncomputable def rwS(g:Bq)(p q:PT):List Row:=[.cal g,.rule (sg "r") p,.rule (sg "s") q,.rule (sg "t") (.no q)]
noncomputable def cS(g:Bq):Nat->Option Bq
 | 0=>none
 | _=>some g
noncomputable def mS(g:Bq)(p q:PT):Nat->Wd->Option (Nat×Nat)
 | 0=>fun _=>none
 | 1=>fun _=>none
 | 2=>setM (fun _=>none) (sg "r") ((p.sz g).toNat,p.bt g)
 | 3=>setM (setM (fun _=>none) (sg "r") ((p.sz g).toNat,p.bt g)) (sg "s") ((q.sz g).toNat,q.bt g)
 | _=>setM (setM (setM (fun _=>none) (sg "r") ((p.sz g).toNat,p.bt g)) (sg "s") ((q.sz g).toNat,q.bt g)) (sg "t") (((PT.no q).sz g).toNat,(PT.no q).bt g)
def rS(g:Bq)(p q:PT):Nat->Prop
 | 2=>p.rl g (p.bt g)
 | 3=>p.rl g (p.bt g)/\q.rl g (q.bt g)
 | 4=>p.rl g (p.bt g)/\q.rl g (q.bt g)/\(PT.no q).rl g ((PT.no q).bt g)
 | _=>True
section
variable{K:Fr}{cs:Cs}{H:Hp}{x:Addr}{g:Bq}{p q:PT}
theorem za{i:Nat}{R:Row}(o:OkC g)(f1:p.fine g)(f2:q.fine g)(f3:(PT.no q).fine g)(h:(rwS g p q)[i]?=some R):R.ok:=by
 rcases zo.mp (zk h) with rfl | h
 ·exact ABI o
 rcases zo.mp h with rfl | h
 ·exact Xa AAZ f1
 rcases zo.mp h with rfl | h
 ·exact Xa AAX f2
 rw[xc.mp h];exact Xa ACp f3
theorem uV{i:Nat}{R:Row}(o:OkC g)(f1:p.fine g)(f2:q.fine g)(f3:(PT.no q).fine g)(h:(rwS g p q)[i]?=some R)(r:rS g p q i)(k:∀H',Kd H H'->Dk K cs H' x (cS g (i+1)) i (mS g p q (i+1))->rS g p q (i+1)->Q (.str "ok") H'):ADU K cs H x (cS g i) (i-1) (mS g p q i) Q R:=by
 match i,h with
 | 0,h=>
  cases h;exact⟨o,rfl,fun H' k' d=>k H' k' d trivial⟩
 | 1,h=>
  cases h;exact⟨g,rfl,o.cy.1,f1,fun H' k' d r=>k H' k' d r⟩
 | 2,h=>
  cases h;exact⟨g,rfl,o.cy.1,f2,fun H' k' d r'=>k H' k' d ⟨r,r'⟩⟩
 | 3,h=>
  cases h;exact⟨g,rfl,o.cy.1,f3,fun H' k' d r'=>k H' k' d ⟨r.1,r.2,r'⟩⟩
 | n+4,h=>cases h
theorem Dk.lt{c:Option Bq}{j n:Nat}{m:Wd->Option (Nat×Nat)}{nm:Wd}(d:Dk K cs H x c j m)(e:m nm=some (n,b)):b<2^n:=by
 obtain⟨_,_,_,_,_,_,_,_,_,h⟩:=d.ex;obtain⟨y,_,R⟩:=h nm n b e;have:=R.lt
 rwa [xa] at this
end
theorem ABR{lo:Int}{n i:Nat}{v:V}(h:((List.range n).map fun(t:Nat)=>V.int (lo+(t:Int)))[i]?=some v):i<n/\v=.int (lo+(i:Int)):=by
 have hi:i<n:=ji9 fun c=>by
  rw[jk0 (by rw[jp,vc];exact c)] at h;cases h
 rw[xo,List.getElem?_range hi] at h;exact⟨hi,(ub h).symm⟩
theorem SqL.kd(k:Kd H H'){xs:List V}(h:SqL K H x xs):SqL K H' x xs:=by
 rcases h with (h | ⟨o,h⟩) | h
 ·exact .inl (.inl (k.lst h))
 ·exact .inl (.inr ⟨o,k _ _ (fun _ z=>nomatch z) h⟩)
 ·exact .inr h
structure Put(g:Bq)(ns:List Int)(w u o:Bool)(p q:PT):Prop where
 f1:p.fine g
 f2:q.fine g
 f3:(PT.no q).fine g
 n1:p.sz g<=420
 m1:q.sz g<=420
 lc:o=false->Bj (p.sz g) (q.sz g)<=420
 no:u=true->p.Su g->q.Su g->∀d,(p.at g d&&(q.at g d != w))=false
 lg:o=true->w=false/\p=lgA (lgN ns) (lgR ns 6) (lgR ns 8)/\q=lgB (lgN ns+1) (lgR ns 7) (lgR ns 9)
section
variable{g:Bq}{ns:List Int}{z k:Int}{A B:PT}{i:Nat}
theorem NP.lc{p q:PT}{j l:Nat}(hg:SmC g)(a:NP g p z j)(b:NP g q z l):Bj (p.sz g) (q.sz g)<=420:=by
 have f:=BV (a.s1 hg).1 (b.s1 hg).1;exact jj7 (jk6 (by have:=a.z0;lia) (f.2.2.2.2.1 _ a.sz b.sz)) a.z1
theorem Put.of{p q:PT}{w u:Bool}(hg:SmC g)(a:NP g p z 29)(b:NP g q z 29)(h:u=true->p.Su g->q.Su g->∀d,(p.at g d&&(q.at g d != w))=false):Put g ns w u false p q:=
 ⟨a.le.fine hg,b.le.fine hg,b.no.fine hg,(a.s1 hg).2,(b.s1 hg).2,fun _=>a.lc hg b,h,(fun z=>nomatch z)⟩
theorem Put.ap{t:Addr}(hg:SmC g)(a:0<A.sz g)(b:0<B.sz g)(i8:i<8)(R:PrR H t g z (FJ i k A B)):Put g ns false true false (FJ i k A B).1 (FJ i k A B).2:=
 .of hg R.2.1 R.2.2 fun _ S T d=>by
  cases e:(FJ i k A B).1.at g d with
  | false=>rfl
  | true=>
   cases e':(FJ i k A B).2.at g d with
   | false=>rfl
   | true=>exact(rR a b i8 S T d e e').elim
theorem Put.inn{t:Addr}(hg:SmC g)(a:0<A.sz g)(b:0<B.sz g)(i8:i<8)(R:PrR H t g z (Gv i k A B)):Put g ns true true false (Gv i k A B).1 (Gv i k A B).2:=
 .of hg R.2.1 R.2.2 fun _ S T d=>by
  cases e:(Gv i k A B).1.at g d with
  | false=>rfl
  | true=>rw[qM a b i8 S T d e];rfl
theorem Put.long(hg:SmC g):Put g ns false false true (lgA (lgN ns) (lgR ns 6) (lgR ns 8)) (lgB (lgN ns+1) (lgR ns 7) (lgR ns 9)):=by
 have hn:=S9 ns;have a:=(xY hg (show 1<=lgN ns by lia) ⋯ (Jp ns 6) (Jp ns 8)).1;have b:=(xY hg (show 1<=lgN ns+1 by lia) ⋯ (Jp ns 7) (Jp ns 9)).2;exact⟨a.le.fine hg,b.le.fine hg,(b.le (i:=29)).no.fine hg,(a.s1 hg).2,(b.s1 hg).2,(fun z=>nomatch z),(fun z=>nomatch z),fun _=>⟨rfl,rfl,rfl⟩⟩
end
section
variable{g:Bq}{ns:List Int}{w u o:Bool}{p q:PT}
theorem Xx{a b:Int}(ha:0<a)(hb:0<b):Bj a b<=a*b:=by
 have f:=BV ha hb;have h:1<=(Int.gcd a b:Int):=by
  have:=Int.gcd_pos_of_ne_zero_left b (show a≠0 by lia);lia
 have:=je3 h (jd4 f.1);rw[f.2.2.2.1] at this;lia
theorem Put.lgo(P:Put g ns w u true p q)(S:p.Su g)(T:q.Su g):LgO ns (p.sz g).toNat (p.bt g) (q.sz g).toNat (q.bt g):=by
 obtain⟨_,e1,e2⟩:=P.lg rfl;have hn:=S9 ns;have n1:p.sz g=lgN ns:=by rw[e1];exact(gK ⋯).1
 have n2:q.sz g=lgN ns+1:=by rw[e2];exact(gK ⋯).2
 have c1:((p.sz g).toNat:Int)=p.sz g:=⋯;have c2:((q.sz g).toNat:Int)=q.sz g:=⋯;refine⟨c1.trans n1,c2.trans n2,fun d h=>?_,fun d h=>?_⟩
 ·rw[c1,n1] at h;rw[c1];have:=(pq (g:=g) (d:=d) (show 0<lgN ns by lia) (e1 ▸ S)).mpr h;rw[<-e1] at this;exact this
 ·rw[c2,n2] at h;rw[c2];have:=(pZ (g:=g) (d:=d) (show 0<lgN ns+1 by lia) (e2 ▸ T)).mpr h;rw[<-e2] at this;exact this
theorem Put.mt(P:Put g ns w u o p q)(S:p.Su g)(T:q.Su g):CMt (p.sz g).toNat (p.bt g) (q.sz g).toNat (q.bt g):=by
 have n0:=S.n;have m0:=T.n;have n1:=P.n1;have m1:=P.m1;have c1:((p.sz g).toNat:Int)=p.sz g:=⋯;have c2:((q.sz g).toNat:Int)=q.sz g:=⋯;have lm:=Xx n0 m0;have l2:p.sz g*q.sz g<=420*420:=vt n1 m1 ⋯ nofun;refine⟨?_,by rw[c1,c2];lia⟩;unfold Few;rw[c1,c2];cases ho:o with
 | false=>exact .inl (by have:=P.lc ho;lia)
 | true=>
  refine .inr ?_;obtain⟨_,e1,e2⟩:=P.lg ho;have hn:=S9 ns;have s1:p.sz g=lgN ns:=by rw[e1];exact(gK ⋯).1
  have s2:q.sz g=lgN ns+1:=by rw[e2];exact(gK ⋯).2
  have k1:cnt (p.bt g) (p.sz g).toNat<=2:=gr (r:=lgR ns 6) (s:=lgR ns 8) ⋯ fun d h=>by
   rw[c1] at h ⊢;rw[s1];have h:p.at g d=true:=h;rw[e1] at h;exact((pq (show 0<lgN ns by lia) (e1 ▸ S)).mp h).imp id And.right
  have k2:cnt (q.bt g) (q.sz g).toNat<=2:=gr (r:=lgR ns 7) (s:=lgR ns 9) ⋯ fun d h=>by
   rw[c2] at h ⊢;rw[s2];have h:q.at g d=true:=h;rw[e2] at h;exact((pZ (show 0<lgN ns+1 by lia) (e2 ▸ T)).mp h).imp id And.right
  exact zv (Nat.mul_le_mul k1 k2) nofun
end
theorem Vj{d:Option Addr}{vs:Array Value}{n:Nat}{s:Array (Option Value)}(h:K.lookup a=some ⟨.type "tuple",d,.seq vs n,s⟩)(l:vs.size<=5)(r:Vals xs vs.toList)(H:Hp):SqT K H a xs:=.inr ⟨_,_,_,h,rfl,rfl,zv l nofun,r⟩
theorem qX{P:Program}{w:World}{mg:Str->Option Value}{t:Nat->Addr}{a0 a2 a6 a7 a13 a14:Addr}{x0 x1 x2 x3 x4 x5 x6 x7 x8 x9 y0 y1 y2 y3:Tok}{d0 d1 d2 d3 d4 d5:Option Addr}{n0 n1 n2 n3 n4 n5:Nat}{s0 s1 s2 s3 s4 s5:Array (Option Value)}(m:mg "FORMS"=some (.ref a))(d:KD P w K a (dD t))(e0:t 0=a0)(e2:t 2=a2)(e6:t 6=a6)(e7:t 7=a7)(e13:t 13=a13)(e14:t 14=a14)
 (h0:K.lookup a0=some ⟨.type "tuple",d0,.seq #[.str "NAME" x0,.str "TEXT" x1] n0,s0⟩)(h2:K.lookup a2=some ⟨.type "tuple",d1,.seq #[.str "NAME" x2,.str "TEXT" x3] n1,s1⟩)(h6:K.lookup a6=some ⟨.type "tuple",d2,.seq #[.str "RULE" x4,.str "NUMBER" x5] n2,s2⟩)(h7:K.lookup a7=some ⟨.type "tuple",d3,.seq #[.str "RULE" x6,.str "NUMBER" x7] n3,s3⟩)(h13:K.lookup a13=some ⟨.type "tuple",d4,.seq #[.str "RULE" x8,.str "RULE" x9,.str "NUMBER" y0] n4,s4⟩)(h14:K.lookup a14=some ⟨.type "tuple",d5,.seq #[.str "RULE" y1,.str "RULE" y2,.str "NUMBER" y3] n5,s5⟩):sS P w K mg a t:=⟨m,d,fun R H=>by
 subst e0 e2 e6 e7 e13 e14;cases R
 ·exact Vj (xs:=[V.str "NAME",V.str "TEXT"]) h0 (by show 2<=5;decide) (.cons ⟨_,rfl⟩ (.cons ⟨_,rfl⟩ .nil)) H
 ·exact Vj (xs:=[V.str "NAME",V.str "TEXT"]) h2 (by show 2<=5;decide) (.cons ⟨_,rfl⟩ (.cons ⟨_,rfl⟩ .nil)) H
 ·exact Vj (xs:=[V.str "RULE",V.str "NUMBER"]) h6 (by show 2<=5;decide) (.cons ⟨_,rfl⟩ (.cons ⟨_,rfl⟩ .nil)) H
 ·exact Vj (xs:=[V.str "RULE",V.str "NUMBER"]) h7 (by show 2<=5;decide) (.cons ⟨_,rfl⟩ (.cons ⟨_,rfl⟩ .nil)) H
 ·exact Vj (xs:=[V.str "RULE",V.str "RULE",V.str "NUMBER"]) h13 (by show 3<=5;decide) (.cons ⟨_,rfl⟩ (.cons ⟨_,rfl⟩ (.cons ⟨_,rfl⟩ .nil))) H
 ·exact Vj (xs:=[V.str "RULE",V.str "RULE",V.str "NUMBER"]) h14 (by show 3<=5;decide) (.cons ⟨_,rfl⟩ (.cons ⟨_,rfl⟩ (.cons ⟨_,rfl⟩ .nil))) H⟩
end Fw
namespace Fw
open PySem L2 PyProof.Rows
local macro_rules | `(tactic| symm)=> `(tactic| (repeat (first | fail "r" | ((with_reducible refine' Fw.fP ?hc1 ?hc2 ?hc3 ?_);(case hc1=>assumption);(case hc2=>assumption);(case hc3=>decide)) | with_reducible refine Fw.ZW ?_)))
local macro_rules | `(tactic| exists $e)=> `(tactic| (refine $e;symm))
local macro_rules | `(tactic| walk_at"mm")=> `(tactic| (repeat (first | exact List.Mem.head _ | refine List.Mem.tail _ ?_)))
local macro_rules | `(tactic| walk_at"nw")=> `(tactic| (refine CT (by first | exact yM (by ac_rfl) | exact Yd (by ac_rfl) | exact fun z=>absurd (V.str.inj z) (by ac_rfl)) ?_;symm))
local macro_rules | `(tactic| walk_at"ew")=> `(tactic| (refine Gy (by first | exact Hg _ | rfl) ?_;symm))
noncomputable def P:Program:=PySem.Challenge.rw_feastwheel_k94_whole_never_and_within.prog
theorem fill:(PySem.Challenge.rw_feastwheel_k94_whole_never_and_within.prog,Hd.K)=(PySem.Challenge.rw_feastwheel_k94_whole_never_and_within.prog,Hd.K):=by k_fill;rfl
structure Dt where
 (w:World) (mg:Str->Option Value) (b:Heap)
structure Gi(d:Dt):Prop where
 X:(Hd.K d.w.params).In d.b
 G:d.b.Ns mainGlobals d.mg
def Ok(d:Dt):Prop:=∀{f:Addr} {fd:FuncData},Fun (Hd.K d.w.params) "law" "law" fH f fd->FN P d.w (Hd.K d.w.params) d.mg d.b CX0 138 f fd ["_law_script"] (fD (Hd.K d.w.params))
instance:Nonempty Dt:=⟨⟨⟨fun _ _=>0,⟨fun _=>0,fun _=>0,id,fun _=>0,fun _ _=>0,fun _=>true,fun _=>0,.refcount,.text,fun _=>0,fun _=>none,fun _=>true,fun _ _ _=>true,fun _ _ _=>true,true,fun _=>true,fun _=>none,fun _=>none,fun _ _ _=>0,fun _ _=>none,fun _=>none,fun _=>(0,true,""),fun _=>none,id,fun _=>true⟩⟩,fun _=>none,default⟩⟩
noncomputable def d0:Dt:=Classical.epsilon fun d=>Gi d/\¬Ok d
noncomputable def w:World:=d0.w
noncomputable def K:Fr:=Hd.K w.params
noncomputable def mg:Str->Option Value:=d0.mg
noncomputable def base:Heap:=d0.b
abbrev Aq:Addr:=549
abbrev Bl:Addr:=649
abbrev Bc:Addr:=708
abbrev rE:Addr:=786
abbrev Ba:Addr:=978
abbrev Wb:Addr:=999
abbrev lJ:Addr:=1018
abbrev Ow:Addr:=1044
abbrev Ji:Addr:=1078
abbrev WY:Addr:=1097
abbrev Uk:Addr:=1116
abbrev KZ:Addr:=1135
abbrev aV:Addr:=1154
abbrev KY:Addr:=1173
abbrev Kr:Addr:=1192
abbrev Ub:Addr:=1211
abbrev Mt:Addr:=1230
abbrev Ug:Addr:=1249
abbrev Uc:Addr:=1268
abbrev Wa:Addr:=1287
abbrev YT:Addr:=1306
abbrev Bf:Addr:=1340
abbrev DN:Addr:=1663
abbrev GZ:Tok:=1009
abbrev Yl:Tok:=1383
abbrev Yk:Tok:=1384
abbrev Ju:Tok:=1669
abbrev Jt:Tok:=1670
abbrev bD:Tok:=577
abbrev mH:Tok:=579
abbrev Uy:Tok:=820
abbrev NT:Tok:=816
abbrev Uv:Tok:=818
abbrev RL:Tok:=932
abbrev NQ:Tok:=934
abbrev QD:Tok:=429
abbrev bF:Tok:=427
abbrev Uw:Tok:=431
abbrev QF:Tok:=425
abbrev bG:Tok:=423
abbrev NK:Tok:=1994
abbrev HB:Addr:=1309
abbrev QC:Tok:=1996
abbrev QB:Tok:=1997
abbrev Pz:Tok:=1998
abbrev Py:Tok:=1999
abbrev Px:Tok:=2000
abbrev Pu:Tok:=2001
abbrev Pr:Tok:=2002
abbrev Pq:Tok:=2003
abbrev Ux:Tok:=1269
abbrev qG:Addr:=1469
noncomputable def Zn:Nat->Addr:=fun i=>([1470,1471,1472,1473,1474,1475,1476,1477,1478,1479,1480,1481,1482,1483,1484,1485,1486,1488]:List Nat).getD i 0
abbrev cg:Addr:=1608
noncomputable def cZ:Nat->Addr:=fun i=>([1495,1502,1509,1516,1530,1537,1544,1551,1558,1565,1579,1586,1593,1600,1607]:List Nat).getD i 0
abbrev j5:Addr:=385
abbrev j4:Addr:=392
class Giv:Prop where
 X:K.In base
 G:base.Ns mainGlobals mg
variable{f:Addr}{fd:FuncData}
section
variable[Giv]
theorem gX:K.In base:=Giv.X
theorem gG:base.Ns mainGlobals mg:=Giv.G
local macro_rules | `(tactic| walk_at"k")=> `(tactic| (delta K;first | k_is | kit_is | k_exc))
local macro_rules | `(tactic| walk_at"o")=> `(tactic| first | exact Or.inl rfl | exact Or.inr rfl)
local macro_rules | `(tactic| walk_at"s")=> `(tactic| exact⟨rfl,rfl,rfl,by ac_rfl,rfl,by ac_rfl,by ac_rfl⟩)
local macro_rules | `(tactic| walk_at"hr")=> `(tactic| exact Ek.mono (by assumption) (by first | decide | lia))
local macro_rules | `(tactic| walk_at"kk")=> `(tactic| first | walk_at"k" | (constructor<;>walk_at"kk"))
local macro_rules | `(tactic| walk_at"g")=> `(tactic| (delta K;refine' L2.qY ?_ ?_ ?_ ?_<;>first | k_is | skip))
local macro_rules | `(tactic| walk_at"h")=> `(tactic| (delta K;refine' L2.AAt ?_ ?_ ?_ ?_ ?_<;>first | k_is | skip))
local macro_rules | `(tactic| walk_at"dg")=> `(tactic| (delta K;refine' L2.vZ ?_ ?_ ?_ ?_ ?_<;>first | k_is | skip))
local macro_rules | `(tactic| walk_at"dm")=> `(tactic| (delta K;refine' L2.vY ?_ ?_ ?_ ?_ ?_ ?_<;>first | k_is | skip))
local macro_rules | `(tactic| walk_at"db")=> `(tactic| (delta K;refine' L2.vd ?_ ?_ ?_ ?_ ?_<;>first | k_is | skip))
local macro_rules | `(tactic| walk_at"b")=> `(tactic| (intro _ _ _ _ _ _ us hl;(first | obtain⟨_,h⟩:=L2.AAh hl | obtain⟨_,_,h⟩:=L2.vK hl | obtain⟨_,_,_,h⟩:=L2.AAg hl | obtain⟨_,_,_,_,h⟩:=L2.ACv hl | have h:us=[]:=jd1.mp hl | obtain⟨_,_,_,_,_,h⟩:=L2.AAf hl | obtain⟨_,_,_,_,_,_,h⟩:=L2.ADx hl | obtain⟨_,_,_,_,_,_,_,h⟩:=L2.ACu hl | obtain⟨_,_,_,_,_,_,_,_,h⟩:=L2.ADw hl);subst h;rfl))
theorem mgo{x:Str}{v:Value}(h:PySem.W.nsIn K mainGlobals x=some (some v)):mg x=some v:=ji2 gX gG h
abbrev C0(k:Nat)(x:Str)(ps:List Str)(sp:Sp):Prop:=Cal P w K mg base k x ps sp
abbrev C1(k:Nat)(x:Str)(ps:List Str)(sp:Sp):Prop:=AEe P w K mg base k x ps sp
abbrev CM0(k:Nat)(C:Addr)(x:Str)(ps:List Str)(sp:Sp):Prop:=lM P w K mg base CX0 k C x ps sp
abbrev CI0(k:Nat)(x:Str)(C:Addr)(ps:List Str)(sp:Sp):Prop:=lO P w K mg base CX0 k x C ps sp
abbrev F0(k:Nat)(f:Addr)(fd:FuncData)(ps:List Str)(sp:Sp):Prop:=FN P w K mg base CX0 k f fd ps sp
noncomputable abbrev CL:List Addr:=[Wb,lJ,Ow,Ji,WY,Uk,KZ,aV,KY,Kr,Ub,Mt,Ug,Uc,Wa,YT]
theorem Ay:Cls K Aq:=by walk_at"kk"
theorem Ce:DX K Aq "base":=by walk_at"kk"
theorem CW:DX K Aq "terms":=by walk_at"kk"
theorem Em:DX K Aq "full_count":=by walk_at"kk"
theorem Gw:DX K Aq "full_sum":=by walk_at"kk"
theorem Ci:Cls K Bl:=by walk_at"kk"
theorem Jr:DX K Bl "start":=by walk_at"kk"
theorem JG:DX K Bl "months":=by walk_at"kk"
theorem Hz:DX K Bl "leap":=by walk_at"kk"
theorem Ck:DX K Bl "years":=by walk_at"kk"
theorem Cg:Cls K Bc:=by walk_at"kk"
theorem JH:DX K Bc "start":=by walk_at"kk"
theorem Ea:DX K Bc "days":=by walk_at"kk"
theorem EY:DX K Bc "many":=by walk_at"kk"
theorem Bk:Cls K Bf:=by walk_at"kk"
theorem Gb:DX K Bf "words":=by walk_at"kk"
theorem Dy:DX K Bf "place":=by walk_at"kk"
theorem Dl:Cls K DN:=by walk_at"kk"
theorem Fv:DX K DN "calendars":=by walk_at"kk"
theorem G5:DX K DN "rules":=by walk_at"kk"
theorem WL:Cls K Wb:=by walk_at"kk"
theorem V9:RC K Ba Wb:=by walk_at"kk"
theorem Zw:Cls K lJ:=by walk_at"kk"
theorem Zv:RC K Ba lJ:=by walk_at"kk"
theorem Tn:Cls K Ow:=by walk_at"kk"
theorem Tg:RC K Ba Ow:=by walk_at"kk"
theorem Pb:Cls K Ji:=by walk_at"kk"
theorem PP:RC K Ba Ji:=by walk_at"kk"
theorem WD:Cls K WY:=by walk_at"kk"
theorem V7:RC K Ba WY:=by walk_at"kk"
theorem Tp:Cls K Uk:=by walk_at"kk"
theorem dI:RC K Ba Uk:=by walk_at"kk"
theorem Mq:Cls K KZ:=by walk_at"kk"
theorem YC:RC K Ba KZ:=by walk_at"kk"
theorem WK:Cls K aV:=by walk_at"kk"
theorem j7:RC K Ba aV:=by walk_at"kk"
theorem Mp:Cls K KY:=by walk_at"kk"
theorem YB:RC K Ba KY:=by walk_at"kk"
theorem PX:Cls K Kr:=by walk_at"kk"
theorem PN:RC K Ba Kr:=by walk_at"kk"
theorem Th:Cls K Ub:=by walk_at"kk"
theorem dF:RC K Ba Ub:=by walk_at"kk"
theorem PQ:Cls K Mt:=by walk_at"kk"
theorem Zu:RC K Ba Mt:=by walk_at"kk"
theorem Tj:Cls K Ug:=by walk_at"kk"
theorem dH:RC K Ba Ug:=by walk_at"kk"
theorem Ti:Cls K Uc:=by walk_at"kk"
theorem dG:RC K Ba Uc:=by walk_at"kk"
theorem WF:Cls K Wa:=by walk_at"kk"
theorem V8:RC K Ba Wa:=by walk_at"kk"
theorem Pa:Cls K YT:=by walk_at"kk"
theorem G9:mg "range"=none:=ki gX gG (by walk_at"k")
theorem Ep:mg "len"=none:=ki gX gG (by walk_at"k")
theorem wg:mg "abs"=none:=ki gX gG (by walk_at"k")
theorem wY:mg "zip"=none:=ki gX gG (by walk_at"k")
theorem eE:mg "sum"=none:=ki gX gG (by walk_at"k")
theorem lU:mg "all"=none:=ki gX gG (by walk_at"k")
theorem Wr:mg "tuple"=none:=ki gX gG (by walk_at"k")
theorem wZ:mg "min"=none:=ki gX gG (by walk_at"k")
theorem ABe:mg "max"=none:=ki gX gG (by walk_at"k")
theorem lR:mg "list"=none:=ki gX gG (by walk_at"k")
theorem Cv:mg "str"=none:=ki gX gG (by walk_at"k")
theorem JM:mg "isinstance"=none:=ki gX gG (by walk_at"k")
theorem Ld:mg "int"=none:=ki gX gG (by walk_at"k")
theorem Vv:mg "LONGEST"=some (.int 150000 bD):=mgo (by walk_at"k")
theorem Ij:mg "PIECE"=some (.int 256 mH):=mgo (by walk_at"k")
theorem Xw:mg "GREATEST_N"=some (.int 1000 Uy):=mgo (by walk_at"k")
theorem Qa:mg "GREATEST_BASE"=some (.int 20000 NT):=mgo (by walk_at"k")
theorem Xr:mg "MOST_TERMS"=some (.int 6 Uv):=mgo (by walk_at"k")
theorem Kz:mg "MOST_MONTHS"=some (.int 20 RL):=mgo (by walk_at"k")
theorem Jo:mg "LONGEST_MONTH"=some (.int 1000 NQ):=mgo (by walk_at"k")
theorem S7:mg "MOST_LETTERS"=some (.int 8 QD):=mgo (by walk_at"k")
theorem jh:mg "LETTERS"=some (.str "abcdefghijklmnopqrstuvwxyz" bF):=mgo (by walk_at"k")
theorem Xu:mg "MOST_SIGNS"=some (.int 4000 Uw):=mgo (by walk_at"k")
theorem S8:mg "MOST_FIGURES"=some (.int 60 QF):=mgo (by walk_at"k")
theorem ji:mg "FIGURES"=some (.str "0123456789" bG):=mgo (by walk_at"k")
theorem QZ:mg "MOST_BRACKETS"=some (.int 40 NK):=mgo (by walk_at"k")
theorem Xq:mg "PAIR_WORDS"=some (.ref HB):=mgo (by walk_at"k")
theorem XR:∀H,SqT K H HB [.str "and",.str "or",.str "but",.str "unlike",.str "upon",.str "until",.str "near",.str "till"]:=by
 have l:K.lookup HB=some ⟨.type "tuple",none,.seq #[.str "and" QC,.str "or" QB,.str "but" Pz,.str "unlike" Py,.str "upon" Px,.str "until" Pu,.str "near" Pr,.str "till" Pq] 0,#[]⟩:=by walk_at"k"
 exact fun H=>.inr ⟨_,_,_,l,rfl,rfl,(by show 8<=sizeLine;decide),(.cons ⟨_,rfl⟩ (.cons ⟨_,rfl⟩ (.cons ⟨_,rfl⟩ (.cons ⟨_,rfl⟩ (.cons ⟨_,rfl⟩ (.cons ⟨_,rfl⟩ (.cons ⟨_,rfl⟩ (.cons ⟨_,rfl⟩ .nil))))))))⟩
theorem Xv:mg "MOST_PAIRS"=some (.int 1000 Ux):=mgo (by walk_at"k")
theorem GX:sS P w K mg qG Zn:=qX (a0:=1470) (a2:=1472) (a6:=1476) (a7:=1477) (a13:=1483) (a14:=1484) (mgo (by walk_at"k")) (L2.xZ (a:=1469) (n:=18) [("calendar",2215,1470),("change",2219,1471),("rule",2225,1472),("date",2229,1473),("day",2233,1474),("move",2237,1475),("on",2242,1476),("next",2246,1477),("last",2250,1478),("nth",2254,1479),("count",2259,1480),("size",2264,1481),("same",2267,1482),("meet",2272,1483),("within",2277,1484),("shorter",2282,1485),("show",2285,1486),("almanac",2288,1488)] (by walk_at"k") ∅ rfl) rfl rfl rfl rfl rfl rfl (by walk_at"k") (by walk_at"k") (by walk_at"k") (by walk_at"k") (by walk_at"k") (by walk_at"k")
theorem Ey:AEg P w K mg cg cZ:=⟨mgo (by walk_at"k"),(L2.xZ (a:=1608) (n:=15) [("date",2417,1495),("day",2418,1502),("move",2419,1509),("on",2420,1516),("next",2421,1530),("last",2422,1537),("nth",2423,1544),("count",2424,1551),("size",2425,1558),("same",2426,1565),("meet",2427,1579),("within",2428,1586),("shorter",2429,1593),("show",2430,1600),("almanac",2431,1607)] (by walk_at"k") ∅ rfl),mgo (by walk_at"k"),mgo (by walk_at"k"),mgo (by walk_at"k"),mgo (by walk_at"k")⟩
theorem Iw:mg "either"=some (.ref j5):=mgo (by walk_at"k")
theorem Yi:mg "unlike"=some (.ref j4):=mgo (by walk_at"k")
theorem co{g n q st ps k sp}(Q:FnG K g n q st)(b:Ia n q st ps)(o:∀{f:Addr} {fd:FuncData},Fun K n q st f fd->F0 k f fd ps sp):C0 k g ps sp:=dR gX gG Q b o
theorem cm{g n q st ps k sp C CX}(Q:FnM K C g n q st)(b:Ia n q st ps)(o:∀{f:Addr} {fd:FuncData},Fun K n q st f fd->FN P w K mg base CX k f fd ps sp):lM P w K mg base CX k C g ps sp:=wB Q b o
theorem ci{n q st ps k sp C CX x}(m:PySem.W.makesIn K C=true)(p:PySem.W.keepIn K (.ref C)=true)(e:PySem.W.nsIn K mainGlobals x=some (some (.ref C)))(Q:FnM K C "__init__" n q st)(b:Ia n q st ps)(o:∀{f:Addr} {fd:FuncData},Fun K n q st f fd->FN P w K mg base CX k f fd ps sp):lO P w K mg base CX k x C ps sp:=wD gX gG m p e Q b o
theorem co'{g n q ps k sp}(N:List Str)(st:Stmt)(o:∀{f:Addr} {cdv:Value} {A:Around} {outer:List Env} {s:Shared} (nd:N.Nodup) (H:Hp) (vs:List V) (Q:VK) (E:XK),Ek k (A.deeper (envOfC q (BX st) s.heap.objs.size f cdv))->sp vs H Q E->∃t,PSs (VR CX0 P w K mg base N q (BX st) f cdv A outer s H E).nox (Df st) t/\t { nx:=fun _ H'=>Q .non H',rt:=Q } (start N vs) H)(len:∀{vs H Q E},sp vs H Q E->vs.length=ps.length:=by fail "l")(S:Cy N ps (BX st):=by walk_at"s")(Q:FnG K g n q st:=by walk_at"g")(b:Ia n q st ps:=by walk_at"b"):C0 (k+1) g ps sp:=co Q b fun F=>F.ok S len o
theorem cm'{g n q ps k sp C}(N:List Str)(st:Stmt)(o:∀{f:Addr} {cdv:Value} {A:Around} {outer:List Env} {s:Shared} (nd:N.Nodup) (H:Hp) (vs:List V) (Q:VK) (E:XK),Ek k (A.deeper (envOfC q (BX st) s.heap.objs.size f cdv))->sp vs H Q E->∃t,PSs (VR CX0 P w K mg base N q (BX st) f cdv A outer s H E).nox (Df st) t/\t { nx:=fun _ H'=>Q .non H',rt:=Q } (start N vs) H)(len:∀{vs H Q E},sp vs H Q E->vs.length=ps.length:=by fail "l")(S:Cy N ps (BX st):=by walk_at"s")(Q:FnM K C g n q st:=by walk_at"h")(b:Ia n q st ps:=by walk_at"b"):CM0 (k+1) C g ps sp:=cm Q b fun F=>F.ok S len o
theorem ci'{n q ps k sp C x}(N:List Str)(st:Stmt)(o:∀{f:Addr} {cdv:Value} {A:Around} {outer:List Env} {s:Shared} (nd:N.Nodup) (H:Hp) (vs:List V) (Q:VK) (E:XK),Ek k (A.deeper (envOfC q (BX st) s.heap.objs.size f cdv))->sp vs H Q E->∃t,PSs (VR CX0 P w K mg base N q (BX st) f cdv A outer s H E).nox (Df st) t/\t { nx:=fun _ H'=>Q .non H',rt:=Q } (start N vs) H)(len:∀{vs H Q E},sp vs H Q E->vs.length=ps.length:=by fail "l")(S:Cy N ps (BX st):=by walk_at"s")(m:PySem.W.makesIn K C=true:=by walk_at"k")(p:PySem.W.keepIn K (.ref C)=true:=by walk_at"k")(e:PySem.W.nsIn K mainGlobals x=some (some (.ref C)):=by walk_at"k")(Q:FnM K C "__init__" n q st:=by walk_at"h")(b:Ia n q st ps:=by walk_at"b"):CI0 (k+1) x C ps sp:=ci m p e Q b fun F=>F.ok S len o
theorem CN:C0 1 "refuse_below_one" ["number"] m8:=by
 refine co' ["number"] K7 fun nd H vs Q E hr h=>?_;obtain⟨n,rfl,hn,q⟩:=h;refine⟨_,(Ad (Ax (Ai FT (pv 0) Ae (An _)) (Ad BZ) Ao)),?_⟩
 symm;exists CT ⋯ ?_;exact q
theorem Fl:C0 1 "refuse_too_long" ["size"] iZ:=by
 refine co' ["size"] Lq fun nd H vs Q E hr h=>?_;obtain⟨n,rfl,hn,q⟩:=h;refine⟨_,(Ad (Ax (Ai GD (pv 0) (CP rfl Vv (Cq _ _)) (An _)) (Ad BZ) Ao)),?_⟩
 symm;exists CT ⋯ ?_;exact q
theorem UL:C0 1 "equation" ["one","other"] ADl:=by
 refine co' ["one","other","row","below","times","rest"] bx fun nd H vs Q E hr h=>?_;obtain⟨a,b,rfl,ha,hb,q⟩:=h;refine⟨_,(Ac (Aj 2 (BJ (Aa Ae (Aa Ae (Aa (pv 0) Ab))))) (Ac (Aj 3 (BJ (Aa Ae (Aa Ae (Aa (pv 1) Ab))))) (Ac (Ht PassesOwn.never (Ai Gf (pxT 3) Ae (An _)) (Ac (Aj 4 (Af pL (pxT 2) (pxT 3))) (Ac (Aj 5 (BJ (Aa (Af Dh (pxT 2) (Af Ca (pv 4) (pxT 3))) (Aa (Af Dh (pxT 2) (Af Ca (pv 4) (pxT 3))) (Aa (Af Dh (pxT 2) (Af Ca (pv 4) (pxT 3))) Ab))))) (Ac (Aj 2 (pv 3)) (Ad (Aj 3 (pv 5))))))) (Ac (Ax (Ai FT (pxT 2) Ae (An _)) (Ad (Al (BJ (Aa (HQ Ft (pxT 2)) (Aa (HQ Ft (pxT 2)) (Aa (HQ Ft (pxT 2)) Ab)))))) Ao) (Ad (Al (pv 2))))))),?_⟩
 symm;exists⟨three,fun p1 hp1=>?_⟩;exists⟨three,fun p2 hp2=>?_⟩;have n12:p1≠p2:=fun z=>by rw[<-z,Am] at hp2;cases hp2
 refine⟨fun m Z' H'=>∃(pr pb:Addr) (u v r u' v' r':Int) (t1 t2:Option V),Z'=[some (.int a),some (.int b),some (.ref pr),some (.ref pb),t1,t2]/\Az H H'/\
  H' pr=some (.tup [.int u,.int v,.int r])/\H' pb=some (.tup [.int u',.int v',.int r'])/\EqI a b u v r u' v' r'/\m=r'.natAbs,
  ⟨_,p1,p2,1,0,a,0,1,b,none,none,rfl,(Ar hp1 _).trans (Ar hp2 _),by rw[BK n12];exact Am,Am,EqI.start a b,rfl⟩,?_⟩
 rintro m Z' H' ⟨pr,pb,u,v,r,u',v',r',t1,t2,rfl,sm,hpr,hpb,I,rfl⟩;have B:=I.bounds;have br:=ABO (m:=510) ha hb (show r.natAbs<=a.natAbs+b.natAbs+4 by lia) nofun;have br':=aX (m:=510) hb (show r'.natAbs<=4*b.natAbs+4 by lia) nofun;have bu':=aX (m:=510) hb (show u'.natAbs<=4*b.natAbs+4 by lia) nofun;have bv':=aX (m:=510) ha (show v'.natAbs<=4*a.natAbs+4 by lia) nofun;symm;exists Aw (SqT.of hpb) Ve ?_;by_cases hz:r'=0
 ·subst hz;refine Gh rfl ?_;have D:=I.done;symm;exists Aw (SqT.of hpr) Ve ?_;refine Cd (fun c=>?_) (fun c=>?_)
  ·symm;exists Aw (SqT.of hpr) wK ?_;exists Aw (SqT.of hpr) ABS ?_;exists Aw (SqT.of hpr) Ve ?_;refine⟨three,fun p hp=>?_⟩;exact q p _ _ _ _ (sm.trans (Ar hp _)) Am (D.1 c)
  ·symm;exact q pr _ _ _ _ sm hpr (D.2 c)
 ·refine Zq (fun z=>hz (V.int.inj z)) ?_;refine⟨_,fun Z' H' hh=>hh,?_⟩;have St:=I.step hz;have bq:=aX (m:=520) br (show (r.fdiv r').natAbs<=4*r.natAbs+4 by have:=cH (r:=r) hz;lia) nofun;symm;exists Aw (SqT.of hpr) Ve ?_;refine Aw (SqT.of hpb) Ve ?_;exists Dn ⟨hz,br'.mono nofun⟩ ?_;exists Aw (SqT.of hpr) wK ?_;refine Aw (SqT.of hpb) wK ?_;exists Dn ⟨520,510,bq,bu',nofun⟩ ?_;exists Aw (SqT.of hpr) ABS ?_;refine Aw (SqT.of hpb) ABS ?_;exists Dn ⟨520,510,bq,bv',nofun⟩ ?_;exists Aw (SqT.of hpr) Ve ?_;refine Aw (SqT.of hpb) Ve ?_;exists Dn ⟨520,510,bq,br',nofun⟩ ?_;exists⟨three,fun p hp=>?_⟩;exact⟨_,St.2,pb,p,u',v',r',_,_,_,_,_,rfl,sm.trans (Ar hp _),(Ar hp _) _ _ hpb,Am,St.1,rfl⟩
theorem Ol:C0 2 "divisor" ["one","other"] jA:=by
 refine co' ["one","other"] jQ fun nd H vs Q E hr h=>?_;obtain⟨a,b,rfl,ha,hb,q⟩:=h;exists⟨_,(Ad (Al (Dr J8 (Ag UL (Aa (pv 0) (Aa (pv 1) Ab))) Ae (fun _ _=>rfl)))),?_⟩;exists⟨a,b,rfl,ha,hb,fun p u v g H' sm hp e=>?_⟩;refine Aw (SqT.of hp) Ve ?_;rw[e.gd];exact q _ sm
theorem KQ:C0 3 "common" ["one","other"] nR:=by
 refine co' ["one","other"] oJ fun nd H vs Q E hr h=>?_;obtain⟨a,b,rfl,a0,b0,ha,hb,q⟩:=h;refine⟨_,(Ac (Bh (Ag CN (Aa (pv 0) Ab))) (Ac (Bh (Ag CN (Aa (pv 1) Ab))) (Ad (Al (Af Ca (Af Bg (pv 0) (Ag Ol (Aa (pv 0) (Aa (pv 1) Ab)))) (pv 1)))))),?_⟩
 symm;exists⟨a,rfl,⋯,?_⟩;exists⟨b,rfl,⋯,?_⟩;refine⟨a,b,rfl,ha,hb,fun H' sm=>?_⟩;have g0:=Ja (b:=b) a0;have g1:=X7 (b:=b) a0;exists Dn ⟨g0,(ha.le (x:=(Int.gcd a b:Int)) ⋯).mono nofun⟩ ?_;have d0:0<=a/(Int.gcd a b:Int):=jh0 ⋯ ⋯;have d1:a/(Int.gcd a b:Int)<=a:=ji5 _ ⋯;refine Dn ⟨500,500,ha.le ⋯,hb,nofun⟩ ?_;exact q _ sm
theorem ADP:C0 4 "met" ["rest","size","other_rest","other_size"] ACH:=by
 refine co' ["rest","size","other_rest","other_size","parts","apart","common_size","day"] ACU fun nd H vs Q E hr h=>?_;obtain⟨r,a,r',b,rfl,a0,b0,ha,hb,hr1,hr2,qn,qs⟩:=h;refine⟨_,(Ac (Bh (Ag CN (Aa (pv 1) Ab))) (Ac (Bh (Ag CN (Aa (pv 3) Ab))) (Ac (Aj 4 (Ag UL (Aa (pv 1) (Aa (pv 3) Ab)))) (Ac (Aj 5 (Af Dh (pv 2) (pv 0))) (Ac (Ax (Ai Gf (Af Be (pv 5) (pxT 4)) Ae (An _)) (Ad (Al G4)) Ao) (Ac (Aj 6 (Ag KQ (Aa (pv 1) (Aa (pv 3) Ab)))) (Ac (Aj 7 (Af Bm (pv 0) (Af Ca (Af Ca (Af Bg (pv 5) (pxT 4)) (pxT 4)) (pv 1)))) (Ad (Al (BJ (Aa (Af Be (pv 7) (pv 6)) (Aa (pv 6) Ab)))))))))))),?_⟩
 symm;exists⟨a,rfl,⋯,?_⟩;exists⟨b,rfl,⋯,?_⟩;refine⟨a,b,rfl,ha.mono nofun,hb.mono nofun,fun p u v g H1 s1 hp e=>?_⟩;have g0:=Ja (b:=b) a0;have g1:=X7 (b:=b) a0;have hg:=e.gd;subst hg;have bap:Bt 401 (r'-r):=by
  have:=hr2.add hr1.neg
  rwa [show r'+ -r=r'-r by lia] at this
 have bu:=aX (m:=410) hb (show u.natAbs<=4*b.natAbs+4 by have:=e.bu;lia) nofun;symm;refine Aw (SqT.of hp) Ve ?_;exists Dn g0 ?_;by_cases hd:(Int.gcd a b:Int)∣r'-r
 ·rw[vj hd];refine Gh rfl ?_;have fl:=BV a0 b0;symm;refine⟨a,b,rfl,a0,b0,ha.mono nofun,hb.mono nofun,fun H2 s2=>?_⟩;have hp2:=s2 _ _ hp;symm;refine Aw (SqT.of hp2) Ve ?_;exists Dn ⟨g0,(ha.le (x:=(Int.gcd a b:Int)) ⋯).mono nofun⟩ ?_;refine Aw (SqT.of hp2) wK ?_;have bq:Bt 401 ((r'-r)/(Int.gcd a b:Int)):=bap.le (Int.natAbs_ediv_le_natAbs _ _);exists Dn ⟨401,410,bq,bu,nofun⟩ ?_;exists Dn ⟨811,400,bq.mul bu,ha,nofun⟩ ?_;refine⟨two,fun p3 hp3=>?_⟩;exact qs hd p3 _ _ ((s1.trans s2).trans (Ar hp3 _)) Am ⟨qg _ ⋯,jv _ fl.1,fun day=>pU a0 b0 e.eq hd day⟩
 ·exists Zq (fun z=>hd (ja7 (V.int.inj z))) ?_;exact qn hd _ s1
theorem wG:C0 2 "ahead" ["rest","size","day"] nZ:=by
 refine co' ["rest","size","day"] uY fun nd H vs Q E hr h=>?_;obtain⟨r,n,d,rfl,hn,q⟩:=h;refine⟨_,(Ac (Bh (Ag CN (Aa (pv 1) Ab))) (Ad (Al (Af Bm (pv 2) (Af Be (Af Dh (pv 0) (pv 2)) (pv 1)))))),?_⟩
 symm;exists⟨n,rfl,hn,?_⟩;exact q
theorem Lb:C0 2 "round_by" ["size","days"] (ie K):=by
 refine co' ["size","days","pieces","day","bits","number","place"] bO fun nd H vs Q E hr h=>?_;obtain⟨a,ds,n,rfl,hS,n0,n1,fin⟩:=h;refine⟨_,(Ac (Bh (Ag CN (Aa (pv 0) Ab)))
  (Ac (Bh (Ag Fl (Aa (pv 0) Ab)))
  (Ac (Aj 2 (Af cN (Du (Aa Ae Ab)) (Af Bm (Af Bg (pv 0) (CP rfl Ij (Cq _ _))) Ae)))
  (Ac (Hu PassesOwn.never rfl (Gu (pv 1)) (CQ (i:=3) nd rfl (by walk_at"o"))
   (Ac (Aj 6 (Af Be (pv 3) (pv 0)))
  (Ad (Im (Af Vs (Dr Ew (pv 2) (Af Bg (pv 6) (CP rfl Ij (Cq _ _))) (fun _ _=>rfl)) (Af Mf Ae (Af Be (pv 6) (CP rfl Ij (Cq _ _))))) (o6 (pv 2) (Af Bg (pv 6) (CP rfl Ij (Cq _ _))) set_list)))))
  (Ac (Aj 4 Ae)
  (Ac (Hu PassesOwn.never rfl (Km rfl G9 (Aa (Bd Bs rfl Ep xz (Aa (pv 2) Ab)) Ab)) (CQ (i:=5) nd rfl (by walk_at"o"))
   (Ad (Aj 4 (Af Vs (pv 4) (Af Mf (Dr Ew (pv 2) (pv 5) (fun _ _=>rfl)) (Af Ca (pv 5) (CP rfl Ij (Cq _ _))))))))
  (Ad (Al (BJ (Aa (pv 0) (Aa (pv 4) Ab))))))))))),?_⟩
 symm;exists⟨n,rfl,⋯,?_⟩;exists⟨n,rfl,n1,?_⟩;refine⟨(by show 1<=sizeLine;decide),fun l0 hl0=>?_⟩;symm;refine cC Am ⋯ ⋯ (by show 1*_<=sizeLine;unfold sizeLine;lia) (fun l hl=>?_);have s0:=Ar hl0 (.lst [.int 0]);have s1:=s0.trans (Ar hl (.lst (List.replicate (n/256+1).toNat [V.int 0]).flatten));have t1:upd (upd H l0 (.lst [.int 0])) l (.lst (List.replicate (n/256+1).toNat [V.int 0]).flatten) l=some (.lst (Sh 0 (n/256+1).toNat)):=by rw[Am,jY]
 have hl':H l=none:=s0.free hl;generalize upd (upd H l0 (.lst [.int 0])) l (.lst (List.replicate (n/256+1).toNat [V.int 0]).flatten)=H1 at s1 t1 ⊢;generalize hk:(n/256+1).toNat=k at t1;symm;refine⟨a,rfl,⟨_,s1.seq hS⟩,JF (xs:=ds.map V.int) (fun i Z' H'=>Az H H'/\Ex3 fun(b:Nat) (c c':Option V)=>An3 (H' l=some (.lst (Sh b k))) (Z'=[some (.int n),some (.ref a),some (.ref l),c,none,none,c']) (RB n (ds.take i) b)) ⟨s1,0,none,none,t1,rfl,?_⟩ ?_ ?_ ?_⟩
 ·simpa using RB.nil n
 ·rintro i Z' H' _ ⟨s,_⟩;exact s.seq hS
 ·rintro i x Z' H' hx ⟨s,b,c,c',t,rfl,B⟩;rw[xo] at hx;obtain⟨d,hd,rfl⟩:=kq.mp hx;have m0:=qg d (show n≠0 by lia);have m1:=jv d (show 0<n by lia);symm;have B':=B.snoc (x:=d) ⋯;obtain⟨p,hp⟩:∃p:Nat,d%n=(p:Int):=⟨(d%n).toNat,⋯⟩;rw[hp,xa] at B';rw[hp] at m1 ⊢;have e1:(p:Int)/256=((p/256:Nat):Int):=⋯
  have e2:(p:Int)%256=((p%256:Nat):Int):=⋯;rw[e1];have pk:p/256<k:=⋯;exists BR (SqL.of t) (Ej (MP pk)) ?_;rw[e2];exists Dn ⟨⋯,1,bt1,⋯⟩ ?_;rw[xa,oY,Gm]
  try rw[e1]
  refine fM t (by rw[MN];exact pk) ?_;rw[pF pk];refine⟨Fb hl' s,_,_,_,Am,rfl,?_⟩;rw[kx,hd];exact B'
 ·rintro Z' H2 ⟨s2,b,c,c',t2,rfl,B⟩;rw[jp,ja6] at B;symm;walk_at"f";symm;exists⟨l,_,rfl,.inl (SqL.of t2),?_⟩;rw[MN];refine⟨(k:Int),rfl,⋯,⋯,V6 (n:=((k:Int)).toNat) (fun i Z' H'=>H'=H2/\∃(c1:Option V),Z'=[some (.int n),some (.ref a),some (.ref l),c,some (.int ((b%2^(256*i):Nat):Int)),c1,c']/\i<=k) ⟨rfl,none,?_,⋯⟩ ?_ ?_⟩
  ·rw[jq4,Nat.pow_zero,Nat.mod_one];rfl
  ·rintro i Z' H' hi ⟨rfl,c1,rfl,_⟩;have ik:i<k:=⋯
   symm;rw[jq1];exists BR (SqL.of t2) (Ej (MP ik)) ?_;refine Dn ⟨20,10,Kc ⋯,(by unfold Bt;decide),nofun⟩ ?_;symm;exists Dn ⟨⋯,256,Kc (ACm _ _),⋯⟩ ?_;rw[show ((i:Int)*256).toNat=256*i by lia,RX,Gm,uw];exact⟨rfl,_,rfl,⋯⟩
  ·rintro Z' H' ⟨rfl,c1,rfl,_⟩;symm;have e:256*((k:Int)).toNat=256*(n/256+1).toNat:=⋯
   rw[e,uf ⋯ B.lt];refine⟨DY,fun p hp=>?_⟩;exact fin p b _ (s2.trans (Ar hp _)) Am B
theorem Gj:C0 1 "full_bits" ["size"] zJ:=by
 refine co' ["size"] ZP fun nd H vs Q E hr h=>?_;obtain⟨n,rfl,h0,h1,q⟩:=h;exists⟨_,(Ad (Al (Af Dh (Af Mf Ae (pv 0)) Ae))),?_⟩;refine Dn ⟨h0,1,(by unfold Bt;decide),⋯⟩ ?_;symm;rw[j6];exact q
theorem Om:C0 2 "days_in" ["turn"] (nQ K):=by
 refine co' ["turn","days","first","piece"] jR fun nd H vs Q E hr h=>?_;obtain⟨a,n,b,rfl,hS,h0,h1,hb,q⟩:=h;refine⟨_,(Ac (Aj 1 (Du Ab))
  (Ac (Hu PassesOwn.never rfl (Vq rfl G9 (Aa Ae (Aa (pxT 0) (Aa (CP rfl Ij (Cq _ _)) Ab)))) (CQ (i:=2) nd rfl (by walk_at"o"))
   (Ac (Aj 3 (Af Hv (Af LC (pxT 0) (pv 2)) (Ag Gj (Aa (CP rfl Ij (Cq _ _)) Ab))))
  (Ad (Do (Ax (Ai GD (pv 3) Ae (An _))
   (Ad (Bh (GQ Jn jd9 je0 JD (pv 1) (Aa (Fy rfl (Dq ["turn","days","first","piece"] ["turn","days","first","piece"] rfl rfl (by with_unfolding_all rfl) ∅ rfl ∅ rfl ∅ (by walk_at"fm") (by with_unfolding_all rfl) (by with_unfolding_all rfl)) (Km rfl G9 (Aa (CP rfl Ij (Cq _ _)) Ab)) (fun _ _ _ _=>(SJ (zx (Af Hv (Af LC (pv 4) (pv 0)) Ae) (fun _=>rfl)))) (fun _ _ _ _=>(Af Bm (pv 3) (pv 0)))) Ab))))
   Ao)))))
  (Ad (Al (pv 1))))),?_⟩
 symm;refine⟨(by show 0<=sizeLine;decide),fun l hl=>?_⟩;refine fresh hl fun H1 s1 t1=>?_;have t1:H1 l=some (.lst ((dli b (256*0)).map V.int)):=t1;have hS1:=s1.tup hS;symm;walk_at"f";symm;exists Aw hS1 at0 ?_;refine⟨0,n,256,rfl,nofun,nofun,RW nofun nofun ⋯ ⋯ nofun nofun,((n-1)/256+1).toNat,?_,?_⟩
 ·rw[MF nofun,xy h0,show n-0-1=n-1 by lia];lia
 refine Tc (fun i Z' H'=>An3 (Az H H') (H' l=some (.lst ((dli b (256*i)).map V.int))) (Ex2 fun(c c':Option V)=>Z'=[some (.ref a),some (.ref l),c,c']/\i<=700)) ⟨s1,t1,none,none,rfl,nofun⟩ ?_ ?_
 ·rintro i Z' H2 hi ⟨s2,t2,c,c',rfl,_⟩;have hS2:=s2.tup hS;have i1:i<700:=⋯
  rw[show (0:Int)+(i:Int)*256=((256*i:Nat):Int) by lia];generalize hm:256*i=m at*
  symm;exists Aw hS2 at1 ?_;exists Dn (show (0:Int)<=(m:Int) by lia) ?_;exists⟨256,rfl,nofun,nofun,?_⟩;rw[xa,HN,Dm,Nat.and_two_pow_sub_one_eq_mod,ua,show(256:Int).toNat=256 from rfl];exists DG (fun Z' H'=>An3 (Az H H') (H' l=some (.lst ((dli b (256*(i+1))).map V.int))) (Ex2 fun(c c':Option V)=>Z'=[some (.ref a),some (.ref l),c,c']/\i+1<=700)) ?_ (fun Z' H' h=>h);refine Cd (fun _=>?_) (fun p0=>?_)
  rotate_left
  ·symm;refine⟨s2,?_,_,_,rfl,⋯⟩;rw[t2,show 256*(i+1)=m+256 by lia,<-Zx];have:((((List.range 256).map fun i=>V.int (0+(i:Nat)))).filter fun v=>match v with | .int d=>b.testBit (m+d.toNat) | _=>false)=[]:=by
    rw[List.filter_eq_nil_iff];intro v hv;obtain⟨j,hj,rfl⟩:=ui.mp hv;have hj':j<256:=jj2.mp hj;show ¬b.testBit (m+(0+(j:Int)).toNat)=true;rw[show (0+(j:Int)).toNat=j by lia];have e:(b/2^m%2^256).testBit j=b.testBit (m+j):=by
     rw[jd2,<-ua,jb3,decide_eq_true hj',Bool.true_and]
    rw[<-e,show b/2^m%2^256=0 by lia,jd5];exact zi
   rw[this,jl6,yy]
  symm;exists Ny rfl t2 ?_;exists Fj (Xd ?_);refine⟨256,rfl,nofun,nofun,?_⟩;refine Jb RG ?_ (fun _ _ _=>trivial) (fun v=>match v with | .int d=>b.testBit (m+d.toNat) | _=>false) (fun v=>match v with | .int d=>V.int ((m:Int)+d) | _=>.non) (fun x hx D ys Q' hD h=>?_) (fun x hx _ D ys Q' hD h=>?_) (fun D hD=>?_)
  ·rw[jp,vc];exact Dz nofun
  ·obtain⟨j,hj,rfl⟩:=ui.mp hx;have hj':j<256:=jj2.mp hj;symm;exists Dn (show (0:Int)<=0+(j:Int) by lia) ?_;rw[show (0+(j:Int)).toNat=j by lia,jX,decide_eq_true hj',Bool.true_and];replace h:Q' (b.testBit (m+(0+(j:Int)).toNat)) _:=h;rw[show (0+(j:Int)).toNat=j by lia] at h;exact h
  ·obtain⟨j,hj,rfl⟩:=ui.mp hx;symm;exact h
  have s3:=Ar hD (.lst ((((List.range (Int.toNat 256)).map fun i=>V.int (0+(i:Nat))).filter fun v=>match v with | .int d=>b.testBit (m+d.toNat) | _=>false).map fun v=>match v with | .int d=>V.int ((m:Int)+d) | _=>.non))
  symm;refine⟨l,D,_,_,rfl,rfl,s3 _ _ t2,Am,?_,?_⟩
  ·rw[jp,jp];refine zv (Nat.add_le_add (gZ _ _) (jn8 _ _)) ?_;rw[jp,vc];exact zv (show m+Int.toNat 256<=200000 by have:Int.toNat 256=256:=rfl;lia) nofun
  symm;refine⟨Fb hl (s2.trans s3),?_,_,_,rfl,⋯⟩;rw[Am,show Int.toNat 256=256 from rfl,Zx,show 256*(i+1)=m+256 by lia]
 ·rintro Z' H2 ⟨s2,t2,c,c',rfl,_⟩;symm;refine q l _ hl s2 ?_;rw[t2];unfold dli;obtain⟨k,hk⟩:∃k,256*((n-1)/256+1).toNat=n.toNat+k:=⟨256*((n-1)/256+1).toNat-n.toNat,⋯⟩;rw[hk,vm hb]
theorem Gk:C0 2 "bits_by" ["turn","size"] (jB K):=by
 refine co' ["turn","size","bits","width"] jT fun nd H vs Q E hr h=>?_;obtain⟨a,n,z,b,rfl,hS,h0,h1,hb,z0,z1,q⟩:=h;refine⟨_,(Ac (Aj 2 (pxT 0)) (Ac (Aj 3 (pxT 0)) (Ac (Ht PassesOwn.never (Ai FT (pv 3) (pv 1) (An _)) (Ac (Aj 2 (Af Vs (pv 2) (Af Mf (pv 2) (pv 3)))) (Ad (Aj 3 (Af Ca (pv 3) Ae))))) (Ad (Al (Af Hv (pv 2) (Ag Gj (Aa (pv 1) Ab)))))))),?_⟩
 symm;exists Aw hS at1 ?_;exists Aw hS at0 ?_;refine⟨fun m Z' H'=>H'=H/\∃wd c:Nat,Z'=[some (.ref a),some (.int z),some (.int (c:Int)),some (.int (wd:Int))]/\n.toNat∣wd/\0<wd/\wd<=300000/\HX n.toNat b wd c/\m=z.toNat-wd,
  ⟨_,rfl,n.toNat,b,?_,Nat.dvd_refl _,⋯,⋯,HX.start hb,rfl⟩,?_⟩
 ·have e:((n.toNat:Nat):Int)=n:=⋯
  rw[e]<;>rfl
 rintro m Z' H' ⟨rfl,wd,c,rfl,hd,w0,w1,S,rfl⟩;symm;refine Cd (fun cc=>?_) (fun cc=>?_)
 ·exists⟨_,fun Z' H' hh=>hh,?_⟩;exists Dn ⟨⋯,wd,Kc S.lt,⋯⟩ ?_;refine Dn ⟨20,2,Kc ⋯,(by unfold Bt;decide),nofun⟩ ?_;symm;rw[xa,RX,Gm];refine⟨z.toNat-wd*2,⋯,rfl,wd*2,c ||| (c <<< wd),?_,Nat.dvd_trans hd (Nat.dvd_mul_right _ _),⋯,⋯,S.dbl hd,rfl⟩;rfl
 ·symm;exists⟨z,rfl,⋯,⋯,?_⟩;rw[Dm];exact q _ (S.cut ⋯)
theorem Ei:C0 3 "stretched" ["turn","size"] (Ig K):=by
 refine co' ["turn","size"] Y4 fun nd H vs Q E hr h=>?_;obtain⟨a,n,z,b,rfl,hS,h0,h1,hb,z0,z1,hd,q⟩:=h;refine⟨_,(Ac (Bh (Ag CN (Aa (pv 1) Ab))) (Ac (Ax (Ai Gf (Af Be (pv 1) (pxT 0)) Ae (An _)) (Ad BZ) Ao) (Ac (Bh (Ag Fl (Aa (pv 1) Ab))) (Ad (Al (BJ (Aa (pv 1) (Aa (Ag Gk (Aa (pv 0) (Aa (pv 1) Ab))) Ab)))))))),?_⟩
 symm;exists⟨z,rfl,⋯,?_⟩;refine Aw hS at0 ?_;exists Dn h0 ?_;rw[vj hd];exists Gh rfl ?_;exists⟨z,rfl,z1,?_⟩;exists⟨a,n,z,b,rfl,hS,h0,⋯,hb,z0,z1,fun c S=>?_⟩;exact⟨(by show 2<=sizeLine;decide),fun p hp=>q p c hp S⟩
theorem Eo:C0 4 "common_size" ["one","other"] (ACR K):=by
 refine co' ["one","other","size"] VF fun nd H vs Q E hr h=>?_;obtain⟨a1,a2,n1,n2,b1,b2,rfl,S1,S2,p1,p2,l1,l2,lz,q⟩:=h;refine⟨_,(Ac (Aj 2 (Ag KQ (Aa (pxT 0) (Aa (pxT 1) Ab)))) (Ac (Bh (Ag Fl (Aa (pv 2) Ab))) (Ad (Al (pv 2))))),?_⟩
 symm;exists Aw S1 at0 ?_;exists Aw S2 at0 ?_;exists⟨n1,n2,rfl,p1,p2,CK ⋯ ⋯ nofun,CK ⋯ ⋯ nofun,fun H1 s1=>?_⟩;exists⟨_,rfl,lz,?_⟩;exact q _ s1
theorem Jg:C0 5 "both" ["one","other"] (spJ K (Bo and)):=by
 refine co' ["one","other","size"] zZ fun nd H vs Q E hr h=>?_;obtain⟨a1,a2,n1,n2,b1,b2,rfl,W,lz,q⟩:=h;have fl:=BV W.p1 W.p2;have l1:=W.l1;have l2:=W.l2;refine⟨_,(Ac (Aj 2 (Ag Eo (Aa (pv 0) (Aa (pv 1) Ab)))) (Ad (Al (BJ (Aa (pv 2) (Aa (Af Hv (Ag Gk (Aa (pv 0) (Aa (pv 2) Ab))) (Ag Gk (Aa (pv 1) (Aa (pv 2) Ab)))) Ab)))))),?_⟩
 symm;exists⟨a1,a2,n1,n2,b1,b2,rfl,W.s1,W.s2,W.p1,W.p2,W.l1,W.l2,lz,fun H1 s1=>?_⟩;exists⟨a1,n1,_,b1,rfl,s1.tup W.s1,W.p1,⋯,W.k1,fl.1,lz,fun c1 T1=>?_⟩;exists⟨a2,n2,_,b2,rfl,s1.tup W.s2,W.p2,⋯,W.k2,fl.1,lz,fun c2 T2=>?_⟩;rw[Dm];refine⟨DY,fun p hp=>?_⟩;have l:c1 &&& c2<2^(Bj n1 n2).toNat:=Nat.and_lt_two_pow _ T2.lt;exact q p _ _ (s1.trans (Ar hp _)) Am l ⟨l,fun i hi=>by rw[ja1,T1.bit i hi,T2.bit i hi]⟩
theorem UT:C0 5 "either" ["one","other"] (spJ K (Bo or)):=by
 refine co' ["one","other","size"] oH fun nd H vs Q E hr h=>?_;obtain⟨a1,a2,n1,n2,b1,b2,rfl,W,lz,q⟩:=h;have fl:=BV W.p1 W.p2;have l1:=W.l1;have l2:=W.l2;refine⟨_,(Ac (Aj 2 (Ag Eo (Aa (pv 0) (Aa (pv 1) Ab)))) (Ad (Al (BJ (Aa (pv 2) (Aa (Af Vs (Ag Gk (Aa (pv 0) (Aa (pv 2) Ab))) (Ag Gk (Aa (pv 1) (Aa (pv 2) Ab)))) Ab)))))),?_⟩
 symm;exists⟨a1,a2,n1,n2,b1,b2,rfl,W.s1,W.s2,W.p1,W.p2,W.l1,W.l2,lz,fun H1 s1=>?_⟩;exists⟨a1,n1,_,b1,rfl,s1.tup W.s1,W.p1,⋯,W.k1,fl.1,lz,fun c1 T1=>?_⟩;exists⟨a2,n2,_,b2,rfl,s1.tup W.s2,W.p2,⋯,W.k2,fl.1,lz,fun c2 T2=>?_⟩;rw[Gm];refine⟨DY,fun p hp=>?_⟩;have l:=Nat.or_lt_two_pow T1.lt T2.lt;exact q p _ _ (s1.trans (Ar hp _)) Am l ⟨l,fun i hi=>by rw[jc8,T1.bit i hi,T2.bit i hi]⟩
theorem Z8:C0 5 "unlike" ["one","other"] (spJ K (Bo xor)):=by
 refine co' ["one","other","size"] n8 fun nd H vs Q E hr h=>?_;obtain⟨a1,a2,n1,n2,b1,b2,rfl,W,lz,q⟩:=h;have fl:=BV W.p1 W.p2;have l1:=W.l1;have l2:=W.l2;refine⟨_,(Ac (Aj 2 (Ag Eo (Aa (pv 0) (Aa (pv 1) Ab)))) (Ad (Al (BJ (Aa (pv 2) (Aa (Af pK (Ag Gk (Aa (pv 0) (Aa (pv 2) Ab))) (Ag Gk (Aa (pv 1) (Aa (pv 2) Ab)))) Ab)))))),?_⟩
 symm;exists⟨a1,a2,n1,n2,b1,b2,rfl,W.s1,W.s2,W.p1,W.p2,W.l1,W.l2,lz,fun H1 s1=>?_⟩;exists⟨a1,n1,_,b1,rfl,s1.tup W.s1,W.p1,⋯,W.k1,fl.1,lz,fun c1 T1=>?_⟩;exists⟨a2,n2,_,b2,rfl,s1.tup W.s2,W.p2,⋯,W.k2,fl.1,lz,fun c2 T2=>?_⟩;rw[Uo];refine⟨DY,fun p hp=>?_⟩;have l:=Nat.xor_lt_two_pow T1.lt T2.lt;exact q p _ _ (s1.trans (Ar hp _)) Am l ⟨l,fun i hi=>by rw[jp6,T1.bit i hi,T2.bit i hi]⟩
theorem Hr:C0 2 "other_days" ["turn"] (uA K):=by
 refine co' ["turn"] XJ fun nd H vs Q E hr h=>?_;obtain⟨a,n,b,rfl,S,n0,n1,hb,q⟩:=h;exists⟨_,(Ad (Al (BJ (Aa (pxT 0) (Aa (Af pK (pxT 0) (Ag Gj (Aa (pxT 0) Ab))) Ab))))),?_⟩;exists Aw S at0 ?_;exists Aw S at1 ?_;exists Aw S at0 ?_;exists⟨n,rfl,⋯,⋯,?_⟩;rw[Uo];refine⟨DY,fun p hp=>q p _ hp ?_ fun i hi=>?_⟩
 ·exact Nat.xor_lt_two_pow hb (by have:=Zp n.toNat;lia)
 ·rw[jp6,jk4];simp[hi]
theorem Oh:C0 6 "without" ["one","other"] (spJ K (Bo bn)):=by
 refine co' ["one","other"] jF fun nd H vs Q E hr h=>?_;obtain⟨a1,a2,n1,n2,b1,b2,rfl,W,lz,q⟩:=h;exists⟨_,(Ad (Al (Ag Jg (Aa (pv 0) (Aa (Ag Hr (Aa (pv 1) Ab)) Ab))))),?_⟩;exists⟨a2,n2,b2,rfl,W.s2,W.p2,W.l2,W.k2,fun p c hp hc hbit=>?_⟩;refine⟨a1,p,n1,n2,b1,c,rfl,⟨(Ar hp _).tup W.s1,SqT.of Am,W.p1,W.p2,W.l1,W.l2,W.k1,hc⟩,lz,fun p3 c3 H3 s3 hp3 lt B=>?_⟩;have:=W.p2;exact q p3 c3 H3 ((Ar hp _).trans s3) hp3 lt ⟨lt,fun i hi=>by rw[B.bit i hi,hbit _ (jn1 _ ⋯)];rfl⟩
theorem Je:C0 2 "later" ["turn","number"] (fG K):=by
 refine co' ["turn","number","shift","bits"] uX fun nd H vs Q E hr h=>?_;obtain⟨a,n,num,b,rfl,hS,h0,h1,hb,q⟩:=h;refine⟨_,(Ac (Aj 2 (Af Be (pv 1) (pxT 0))) (Ac (Aj 3 (Af Vs (Af Mf (pxT 0) (pv 2)) (Af LC (pxT 0) (Af Dh (pxT 0) (pv 2))))) (Ad (Al (BJ (Aa (pxT 0) (Aa (Af Hv (pv 3) (Ag Gj (Aa (pxT 0) Ab))) Ab))))))),?_⟩
 have m0:=qg num (show n≠0 by lia);have m1:=jv num h0;symm;refine Aw hS at0 ?_;exists Dn h0 ?_;exists Aw hS at1 ?_;exists Dn ⟨m0,n.toNat,Kc hb,⋯⟩ ?_;exists Aw hS at1 ?_;exists Aw hS at0 ?_;exists Dn (show (0:Int)<=n-num%n by lia) ?_;exists Aw hS at0 ?_;exists Aw hS at0 ?_;exists⟨n,rfl,⋯,⋯,?_⟩;have e:(n-num%n).toNat=n.toNat-(num%n).toNat:=⋯;rw[RX,HN,Gm,Dm,e];refine⟨(by show 2<=sizeLine;decide),fun p hp=>?_⟩;exact q p hp
theorem WQ:C0 3 "ones_in" ["bits"] yt:=by
 refine co' ["bits","fields","width","each_second"] jJ fun nd H vs Q E hr h=>?_;obtain⟨b,n,rfl,hb,hn,q⟩:=h;refine⟨_,(Ac (Aj 1 (pv 0)) (Ac (Aj 2 Ae) (Ac (Ht PassesOwn.never (Ai GD (Af LC (pv 1) (pv 2)) Ae (An _)) (Ac (Aj 3 (Ag Gk (Aa (BJ (Aa (Af Ca Ae (pv 2)) (Aa (Ag Gj (Aa (pv 2) Ab)) Ab))) (Aa (pD PySem.F.plainAttrs_int PySem.F.slot_int_bit_length PySem.F.type_int_bit_length gD (pv 1)) Ab)))) (Ac (Aj 1 (Af Bm (Af Hv (pv 1) (pv 3)) (Af Hv (Af LC (pv 1) (pv 2)) (pv 3)))) (Ad (Aj 2 (Af Ca Ae (pv 2))))))) (Ad (Al (pv 1)))))),?_⟩
 symm;refine⟨fun m Z' H'=>Az H H'/\∃f w:Nat,∃x:Option V,Z'=[some (.int (b:Int)),some (.int (f:Int)),some (.int (w:Int)),x]/\0<w/\w<=300000/\f<2^n/\Dg w f (cnt b n)/\m=n-w,
  ⟨_,Az.refl _,b,1,none,rfl,nofun,nofun,hb,Dg.start n b hb,rfl⟩,?_⟩
 rintro m Z' H1 ⟨s1,f,w,x,rfl,w0,w1,hf,D,rfl⟩;symm;exists Dn (show (0:Int)<=(w:Int) by lia) ?_;rw[xa,HN];refine Cd (fun cc=>?_) (fun cc=>?_)
 ·have f1:2^w<=f:=by
   have h1:0<f >>> w:=⋯;rw[ua] at h1;exact Nat.le_of_not_lt fun z=>by rw[jo4 z] at h1;lia
  have wn:w<n:=by
   refine ji9 fun z=>?_;have:=kc (show 0<2 by decide) z;lia
  have f0:f≠0:=by have:=Zp w;lia
  have l1:f<2^(f.log2+1):=Nat.lt_log2_self;have l2:f.log2+1<=n:=by
   have:=Nat.log2_self_le f0;refine ji9 fun z=>?_;have:=kc (show 0<2 by decide) z;lia
  exists⟨_,fun Z' H' hh=>hh,?_⟩;refine Dn ⟨3,20,(by unfold Bt;decide),Kc ⋯,nofun⟩ ?_;symm;exists⟨(w:Int),rfl,⋯,⋯,?_⟩;rw[xa,show(2:Int)*(w:Int)=((2*w:Nat):Int) by lia];refine⟨DY,fun p hp=>?_⟩;exists fresh hp fun H2 s2 t2=>?_;rw[PB f0];symm;refine⟨p,_,_,_,rfl,SqT.of t2,⋯,⋯,?_,⋯,⋯,fun c S=>?_⟩
  ·rw[xa];have:=kc (show 0<2 by decide) (show w<=2*w by lia);have:=Zp w;lia
  rw[xa,show(((f.log2+1:Nat):Int)).toNat=f.log2+1 by lia] at S;symm;exists Dn (show (0:Int)<=(w:Int) by lia) ?_;refine Dn ⟨3,20,(by unfold Bt;decide),Kc ⋯,nofun⟩ ?_;symm;have E1:=gQ w0 l1 S 0;have E2:=gQ w0 l1 S w;rw[Nat.pow_zero,Nat.div_one] at E1;obtain⟨d1,d2⟩:=D.pair w0 E1 E2;rw[xa,HN,ua,Dm,Dm];refine⟨n-2*w,⋯,s1.trans s2,(f &&& c)+(f/2^w &&& c),2*w,some (.int (c:Int)),?_,⋯,⋯,⋯,d1,rfl⟩;rw[ko];rfl
 ·have fl:f<2^w:=by
   have h1:f >>> w=0:=Nat.eq_zero_of_not_pos fun z=>cc (Int.natCast_pos.mpr z);rw[ua] at h1;exact ji9 fun z=>by
    have:=(Nat.le_div_iff_mul_le (Zp w)).mpr (show 1*2^w<=f by lia);lia
  symm;rw[D.last fl];exact q _ s1
theorem Jf:C0 6 "gathered" ["turn","barred","step","join"] (ACO K mg [("either",spJ K (Bo or)),("unlike",spJ K (Bo xor))]):=by
 refine co' ["turn","barred","step","join","told","free","stride"] bw fun nd H vs Q E hr h=>?_;obtain⟨a1,a2,f',n,e,b,c,x,J,G,rfl,hxj,hmg,S1,S2,n0,n1,hb,hc,he,G1,Gs,q⟩:=h;refine⟨_,(Ac (Aj 4 (pv 0)) (Ac (Aj 5 (Ag Hr (Aa (pv 1) Ab))) (Ac (Aj 6 (pv 2)) (Ac (Ht PassesOwn.never (Ai FT (Bd Z7 rfl wg PyProof.Rows.boot_abs (Aa (pv 6) Ab)) (pxT 0) (An _)) (Ac (Aj 4 (uv (i:=3) (k:=5) (IW.cons UT (IW.cons Z8 IW.nil)) (hr.mono nofun) rfl (by first | exact Or.inl rfl | exact Or.inr (Or.inl rfl) | exact Or.inr (Or.inr rfl)) (Aa (pv 4) (Aa (Ag Jg (Aa (Ag Je (Aa (pv 4) (Aa (pv 6) Ab))) (Aa (pv 5) Ab))) Ab)))) (Ac (Aj 5 (Ag Jg (Aa (pv 5) (Aa (Ag Je (Aa (pv 5) (Aa (pv 6) Ab))) Ab)))) (Ad (Aj 6 (Af Ca Ae (pv 6))))))) (Ad (Al (pv 4))))))),?_⟩
 symm;refine⟨a2,n,c,rfl,S2,n0,n1,hc,fun pf fc hpf lf bf=>?_⟩;refine fresh hpf fun H1 s1 t1=>?_;have ls:=lcm_self n0;symm;refine⟨fun m Z' H'=>Az H H'/\∃(pt pf:Addr) (g fr k:Nat),0<k/\k<=300000/\H' pt=some (.tup [.int n,.int (g:Int)])/\SqT K H' pf [.int n,.int (fr:Int)]/\g<2^n.toNat/\fr<2^n.toNat/\(∀d,On n g d=true<->G k d)/\(∀d,On n fr d=true<->Fre (On n c) e k d)/\
  Z'=[some (.ref a1),some (.ref a2),some (.int e),some (.ref f'),some (.ref pt),some (.ref pf),some (.int (e*(k:Int)))]/\m=n.toNat-k,
  ⟨_,s1,a1,pf,b,fc,1,nofun,nofun,s1 _ _ S1,SqT.of t1,hb,lf,G1,fun d=>(by rw[Zh n0 bf d,Fre.one];cases On n c d<;>simp),(by rw[show e*((1:Nat):Int)=e by lia]<;>rfl),rfl⟩,?_⟩
 rintro m Z' H2 ⟨s2,pt,pf,g,fr,k,k0,k1,Tt,Tf,lg,lfr,og,ofr,rfl,rfl⟩;have ek:(e*(k:Int)).natAbs=k:=by rcases he with h | h<;>rw[h]<;>lia
 symm;exists⟨_,rfl,?_⟩;exists Aw (SqT.of (s2 _ _ S1)) at0 ?_;have mulb:∀x:Int,e*x=x\/e*x= -x:=fun x=>by rcases he with h | h<;>rw[h]<;>lia
 refine Cd (fun hlt=>?_) (fun hge=>?_)
 ·have kn:(k:Int)<n:=by
   have:=mulb k;split at hlt<;>lia
  refine⟨fun Z' H'=>∃m',m'<n.toNat-k/\Az H H'/\∃(pt pf:Addr) (g fr k:Nat),0<k/\k<=300000/\H' pt=some (.tup [.int n,.int (g:Int)])/\SqT K H' pf [.int n,.int (fr:Int)]/\g<2^n.toNat/\fr<2^n.toNat/\(∀d,On n g d=true<->G k d)/\(∀d,On n fr d=true<->Fre (On n c) e k d)/\
   Z'=[some (.ref a1),some (.ref a2),some (.int e),some (.ref f'),some (.ref pt),some (.ref pf),some (.int (e*(k:Int)))]/\m'=n.toNat-k,fun Z' H' hh=>hh,?_⟩
  symm;exists oV rfl hxj hmg ?_;refine⟨pt,n,_,g,rfl,SqT.of Tt,n0,n1,lg,fun p1 h1=>?_⟩;refine fresh h1 fun H3 s3 t3=>?_;have t3:H3 p1=some _:=t3;symm;refine⟨p1,pf,n,n,_,fr,rfl,⟨SqT.of t3,s3.tup Tf,n0,n0,n1,n1,Ob _ _ _,lfr⟩,by rw[ls];exact n1,fun p2 c2 H4 s4 t4 B2 R2=>?_⟩;rw[ls] at t4 B2 R2;symm;refine⟨pt,p2,n,n,g,c2,rfl,⟨SqT.of (s4 _ _ (s3 _ _ Tt)),SqT.of t4,n0,n0,n1,n1,lg,B2⟩,(by rw[ls];exact n1),fun p3 c3 H5 s5 t5 B3 R3=>?_⟩;rw[ls] at t5 B3 R3;symm;refine⟨pf,n,_,fr,rfl,s5.tup (s4.tup (s3.tup Tf)),n0,n1,lfr,fun p4 h4=>?_⟩;refine fresh h4 fun H6 s6 t6=>?_;have t6:H6 p4=some _:=t6;symm;refine⟨pf,p4,n,n,fr,_,rfl,⟨s6.tup (s5.tup (s4.tup (s3.tup Tf))),SqT.of t6,n0,n0,n1,n1,lfr,Ob _ _ _⟩,by rw[ls];exact n1,fun p5 c5 H7 s7 t7 B5 R5=>?_⟩;rw[ls] at t7 B5 R5;symm;refine Dn ⟨2,20,Kc nofun,(by show(e*(k:Int)).natAbs<2^20;rw[ek];lia),nofun⟩ ?_;symm;have e2:e*((2*k:Nat):Int)=2*(e*(k:Int)):=by rw[jh3,jn0];rfl
  refine⟨n.toNat-2*k,⋯,s2.trans (s3.trans (s4.trans (s5.trans (s6.trans s7)))),p3,p5,c3,c5,2*k,⋯,⋯,s7 _ _ (s6 _ _ t5),SqT.of t7,B3,B5,(fun d=>?_),(fun d=>?_),by rw[e2]<;>rfl,rfl⟩
  ·rw[R3.on n0 n0 n0 (vv n) (vv n) d];exact Gs k d _ _ (og d) (by rw[R2.on n0 n0 n0 (vv n) (vv n) d,TF n0 lg,vi,og,ofr])
  ·rw[R5.on n0 n0 n0 (vv n) (vv n) d,TF n0 lfr,Fre.step,vi,ofr,ofr]
 ·have kn:n.toNat<=k:=by
   have:=mulb k;split at hge<;>lia
  symm;exact q pt g H2 k kn s2 Tt lg og
theorem dW:C0 7 "upon" ["R","S"] (spJ K (WR (UpJ 1))):=by
 refine co' ["R","S","size","days"] zT fun nd H vs Q E hr h=>?_;obtain⟨a1,a2,n1,n2,b1,b2,rfl,W,lz,q⟩:=h;refine⟨_,(Ac (Aj 2 (Ag Eo (Aa (pv 0) (Aa (pv 1) Ab)))) (Ac (Aj 3 (Ag Ei (Aa (pv 0) (Aa (pv 2) Ab)))) (Ad (Al (Ag Jg (Aa (pv 3) (Aa (Ag Jf (Aa (Ag Ei (Aa (pv 1) (Aa (pv 2) Ab))) (Aa (Ag Je (Aa (pv 3) (Aa Ae Ab))) (Aa Ae (Aa (CP rfl Iw (HD _)) Ab))))) Ab))))))),?_⟩
 exact ABg (.inl rfl) Iw (id) W lz q
theorem YG:C0 7 "until" ["R","S"] (spJ K (WR (UpJ (-1)))):=by
 refine co' ["R","S","size","days"] uW fun nd H vs Q E hr h=>?_;obtain⟨a1,a2,n1,n2,b1,b2,rfl,W,lz,q⟩:=h;refine⟨_,(Ac (Aj 2 (Ag Eo (Aa (pv 0) (Aa (pv 1) Ab)))) (Ac (Aj 3 (Ag Ei (Aa (pv 0) (Aa (pv 2) Ab)))) (Ad (Al (Ag Jg (Aa (pv 3) (Aa (Ag Jf (Aa (Ag Ei (Aa (pv 1) (Aa (pv 2) Ab))) (Aa (Ag Je (Aa (pv 3) (Aa (HQ Ft Ae) Ab))) (Aa (HQ Ft Ae) (Aa (CP rfl Iw (HD _)) Ab))))) Ab))))))),?_⟩
 exact ABg (.inr rfl) Iw (fun h=>⟨_,rfl,h⟩) W lz q
theorem rC:C0 7 "till" ["R","S"] (spJ K (WR TiU)):=by
 refine co' ["R","S","size"] zU fun nd H vs Q E hr h=>?_;obtain⟨a1,a2,n1,n2,b1,b2,rfl,W,lz,q⟩:=h;have fl:=BV W.p1 W.p2;refine⟨_,(Ac (Aj 2 (Ag Eo (Aa (pv 0) (Aa (pv 1) Ab)))) (Ad (Al (Ag Jf (Aa (Ag Ei (Aa (pv 0) (Aa (pv 2) Ab))) (Aa (Ag Ei (Aa (pv 1) (Aa (pv 2) Ab))) (Aa Ae (Aa (CP rfl Iw (HD _)) Ab)))))))),?_⟩
 symm;refine⟨a1,a2,n1,n2,b1,b2,rfl,W.s1,W.s2,W.p1,W.p2,W.l1,W.l2,lz,fun H1 s1=>?_⟩;generalize hz:Bj n1 n2=z at*
 have z0:=fl.1;have d1:n1∣z:=fl.2.1;have d2:n2∣z:=fl.2.2.1;have ls:=lcm_self z0;symm;refine⟨a1,n1,z,b1,rfl,s1.tup W.s1,W.p1,W.l1,W.k1,z0,lz,d1,fun pr cr hr1 Sr=>?_⟩;exists fresh hr1 fun H2 s2 t2=>?_;refine⟨a2,n2,z,b2,rfl,s2.tup (s1.tup W.s2),W.p2,W.l2,W.k2,z0,lz,d2,fun ps cs hs1 Ss=>?_⟩;exists fresh hs1 fun H3 s3 t3=>?_;refine⟨pr,ps,_,z,1,cr,cs,_,or,Gt (On z cr) (On z cs) (1),rfl,qc,Iw,s3 _ _ t2,SqT.of t3,z0,lz,Sr.lt,Ss.lt,.inl rfl,fun d=>Gt.one.symm,O9,fun pg g H5 k kn s5 t5 lg og0=>?_⟩;have oR:=fun d=>HX.on W.p1 z0 d1 Sr d;have oS:=fun d=>HX.on W.p2 z0 d2 Ss d;have en:((z.toNat:Nat):Int)=z:=⋯;have og:∀d,On z g d=true<->Gat (On z cr) (On z cs) (1) d:=fun d=>by rw[og0,Gat.iff (n:=z.toNat) ⋯ kn (fun x y h=>Sv (en ▸ h)) (fun x y h=>Sv (en ▸ h))]
 refine q pg g H5 (s1.trans (s2.trans (s3.trans s5))) t5 lg fun d=>?_;rw[og];constructor
 ·rintro⟨j,ht,hb⟩;refine⟨d-1*(j:Int),by rw[<-oR];exact ht,⋯,fun s' h1 h2=>?_⟩;by_cases hd:d<s'
  ·exact hd
  ·have:=hb (d-s').toNat ⋯;rw[oS,show d-1*(((d-s').toNat:Nat):Int)=s' by lia,h1] at this;cases this
 ·rintro⟨r,hs,hle,hb⟩;refine⟨(d-r).toNat,by rw[oR,show d-1*(((d-r).toNat:Nat):Int)=r by lia];exact hs,fun i hi=>?_⟩;rw[oS];cases h:On n2 b2 (d-1*(i:Int))
  ·rfl
  ·have:=hb _ h ⋯;lia
theorem UJ:C0 8 "nearer_ahead" ["R"] (ACG K):=by
 refine co' ["R","days","behind","first_nearer"] Rg fun nd H vs Q E hr h=>?_;obtain⟨a,n,b,rfl,hS,h0,h1,hb,q⟩:=h;refine⟨_,(Ac (Aj 1 (Ag Om (Aa (pv 0) Ab)))
  (Ac (Aj 2 (Af cO (Cz Fi (pv 1) (Dp Ae) Eb) (Fy rfl (Dq ["R","days","behind","first_nearer"] ["R","days","behind","first_nearer"] rfl rfl (by with_unfolding_all rfl) ∅ rfl ∅ rfl ∅ (by walk_at"fm") (by with_unfolding_all rfl) (by with_unfolding_all rfl)) (Gu (Cz Fi (pv 1) Eb (Dp Ae))) (fun _ _ _ _=>Ds) (fun _ _ _ _=>(Af Bm (pv 0) (Dr Hx (pv 1) Ae))))))
  (Ac (O4 (i:=3) nd rfl (by walk_at"o") (xs:=["day","other"]) rfl (Ip ["day","other"] ["R","days","behind","first_nearer"] ["R","days","behind","first_nearer"] rfl rfl (by with_unfolding_all rfl) ∅ rfl ∅ ∅ ∅ (by walk_at"fm") (by with_unfolding_all rfl) (by with_unfolding_all rfl)) (fV (c:=false) rfl wY (Aa (pv 1) (Aa (pv 2) Ab))) (fun _ _ _ _=>Ds) (fun _ _ _ _=>(Zc (n:=2) rfl (Cp (CQ (i:=0) (show (["day","other","R","days","behind","first_nearer"]:List Str).Nodup from by ac_rfl) rfl (by walk_at"o")) (Cp (CQ (i:=1) (show (["day","other","R","days","behind","first_nearer"]:List Str).Nodup from by ac_rfl) rfl (by walk_at"o")) HF)))) (fun _ _ _ _=>(Af Bm (Af Bg (Af Bm (pv 0) (pv 1)) Ae) Ae)))
  (Ad (Al (Ag rC (Aa (pv 0) (Aa (Ag Lb (Aa (pxT 0) (Aa (pv 3) Ab))) Ab)))))))),?_⟩
 symm;refine⟨a,n,b,rfl,hS,h0,h1,hb,fun l H1 hl s1 t1=>?_⟩;have mem:=vg (b:=b) h0;have srt:=qj b n.toNat;have len:=gZ b n.toNat;generalize dli b n.toNat=ds at t1 mem srt len;symm;refine Gr (SqL.of t1) (fun l2 hl2=>?_);rw[kJ];refine fresh hl2 fun H2 s2 t2=>?_;have t2:H2 l2=some _:=t2;exists Fj (Lz ?_);refine Gr (SqL.of (s2 _ _ t1)) (fun l3 hl3=>?_);rw[kI,<-List.map_take];refine fresh hl3 fun H3 s3 t3=>?_;have t3:H3 l3=some _:=t3;have s13:=s1.trans (s2.trans s3);refine⟨l3,rfl,⟨_,SqL.of t3⟩,?_⟩;refine Jb RJ ?_ (fun D ys hD=>(Ar hD _).seq (SqL.of t3)) (fun _=>true) (fun v=>match v with | .int d=>V.int (d+n) | _=>.non) (fun x hx D ys Q' hD h=>h) (fun x hx _ D ys Q' hD h=>?_) (fun D hD=>?_)
 ·rw[jp,je4];exact vb (Nat.min_le_left _ _) nofun
 ·obtain⟨d,hd,rfl⟩:=ui.mp hx;symm;exists Aw ((Ar hD _).tup (s13.tup hS)) at0 ?_;exact h
 rw[jf2.mpr (fun _ _=>rfl),va];rw[show ((fun v:V=>match v with | .int d=>V.int (d+n) | _=>.non) ∘ V.int)=V.int ∘ (· +n) from rfl,<-va]
 refine fresh hD fun H4 s4 t4=>?_;have t4:H4 D=some _:=t4;symm;have bl:=Uq n ds;refine zg ((s3.trans s4) _ _ t2) t4 ?_ (fun l5 hl5=>?_)
 ·rw[<-zh,<-vk,jp];exact zv (jq2 bl) (zv (show ds.length<=150000 by lia) nofun)
 rw[<-vk];show Hk _ _ _ (upd H4 l5 (.lst ((HW n ds).map V.int))) _;refine fresh hl5 fun H5 s5 t5=>?_;have t5:H5 l5=some _:=t5;have s15:=s13.trans (s4.trans s5);have t15:=(s2.trans (s3.trans (s4.trans s5))) _ _ t1;symm;exists ZZ (fL ?_);refine⟨l,l5,rfl,⟨_,_,SqL.of t15,SqL.of t5⟩,?_⟩;refine qz (SqL.of t15) (SqL.of t5) ?_ (fun x y=>(x+y)/2+1) (fun x y H' Q' h=>?_) (fun D6 H6 hD6 s6 t6=>?_)
 ·exact vb (show ds.length<=150000 by lia) nofun
 ·symm;exact h
 symm;exists Aw (s6.tup (s15.tup hS)) at0 ?_;have ls:=lcm_self h0;exists⟨D6,mids n ds,n,rfl,SqL.of t6,h0,h1,fun p c H7 s7 t7 B=>?_⟩;refine⟨a,p,n,n,b,c,rfl,⟨(s6.trans s7).tup (s15.tup hS),SqT.of t7,h0,h0,h1,h1,hb,B.lt⟩,by rw[ls];exact h1,fun p8 e H8 s8 t8 le R=>?_⟩;rw[ls] at t8 le R;refine q p8 e H8 (s15.trans (s6.trans (s7.trans s8))) t8 le fun d=>?_;rw[R];have per:∀d k,On n b (d+n*k)=On n b d:=fun d k=>dh (vv n) d k;exact j8 h0 per fun x=>by rw[B.bit x];exact pR h0 per srt mem x
theorem ABJ:C0 9 "near" ["R","S"] (spJ K (WR NrU)):=by
 refine co' ["R","S","early"] zW fun nd H vs Q E hr h=>?_;obtain⟨a1,a2,n1,n2,b1,b2,rfl,W,lz,q⟩:=h;have p1:=W.p1;have p2:=W.p2;have fl:=BV p1 p2;have fl':=Vx p1 p2;refine⟨_,(Ac (Aj 2 (Ag UJ (Aa (pv 0) Ab))) (Ad (Al (Ag UT (Aa (Ag YG (Aa (pv 0) (Aa (Ag Jg (Aa (pv 1) (Aa (pv 2) Ab))) Ab))) (Aa (Ag dW (Aa (pv 0) (Aa (Ag Oh (Aa (pv 1) (Aa (pv 2) Ab))) Ab))) Ab)))))),?_⟩
 symm;exists⟨a1,n1,b1,rfl,W.s1,p1,W.l1,W.k1,fun pe e H1 s1 t1 le oe=>?_⟩;refine⟨a2,pe,n2,n1,b2,e,rfl,⟨s1.tup W.s2,SqT.of t1,p2,p1,W.l2,W.l1,W.k2,le⟩,by rw[<-fl'];exact lz,fun pb cb H2 s2 t2 Bb Rb=>?_⟩;rw[<-fl'] at t2 Bb Rb;generalize hz:Bj n1 n2=z at*
 have z0:=fl.1;have d1:n1∣z:=fl.2.1;have d2:n2∣z:=fl.2.2.1;have lz1:Bj n1 z=z:=Xy p1 z0 d1;have ls:=lcm_self z0;symm;refine⟨a1,pb,n1,z,b1,cb,rfl,⟨(s1.trans s2).tup W.s1,SqT.of t2,p1,z0,W.l1,lz,W.k1,Bb⟩,by rw[lz1];exact lz,fun pu cu H3 s3 t3 lu ou=>?_⟩;rw[lz1] at t3 lu ou;have s13:=s1.trans (s2.trans s3);symm;refine⟨a2,pe,n2,n1,b2,e,rfl,⟨s13.tup W.s2,SqT.of ((s2.trans s3) _ _ t1),p2,p1,W.l2,W.l1,W.k2,le⟩,by rw[<-fl'];exact lz,fun pw cw H4 s4 t4 Bw Rw=>?_⟩;rw[<-fl'] at t4 Bw Rw;symm;refine⟨a1,pw,n1,z,b1,cw,rfl,⟨(s13.trans s4).tup W.s1,SqT.of t4,p1,z0,W.l1,lz,W.k1,Bw⟩,by rw[lz1];exact lz,fun pv cv H5 s5 t5 lv ov=>?_⟩;rw[lz1] at t5 lv ov;symm;refine⟨pu,pv,z,z,cu,cv,rfl,⟨SqT.of ((s4.trans s5) _ _ t3),SqT.of t5,z0,z0,lz,lz,lu,lv⟩,by rw[ls];exact lz,fun p c H6 s6 t6 B R=>?_⟩;rw[ls] at t6 B R;refine q p c H6 (s13.trans (s4.trans (s5.trans s6))) t6 B fun d=>?_;rw[R.self z0 d,je9,ou,ov,eF,lZ];refine Iff.trans ?_ (pQ p1 (fun d k=>dh (vv n1) d k));unfold GUp GUn;have e1:∀x,On z cb x=true<->On n2 b2 x=true/\Wq (On n1 b1) x:=fun x=>by rw[Rb.on p2 p1 z0 d2 d1 x,vi,oe]
 have e2:∀x,On z cw x=true<->On n2 b2 x=true/\¬Wq (On n1 b1) x:=fun x=>by
  rw[Rw.on p2 p1 z0 d2 d1 x];unfold bn;rw[vi,<-oe,Bool.not_eq_true',jo2]
 simp only[e1,e2]
theorem ADQ:C0 8 "kth" ["number","R","S"] (ADk K):=by
 refine co' ["number","R","S","size","step","ends","days","place","odd"] ACV fun nd H vs Q E hr h=>?_;obtain⟨k,a1,a2,n1,n2,b1,b2,rfl,W,k0,lz,q⟩:=h;have fl:=BV W.p1 W.p2;refine⟨_,(Ac (Ax (Ai BW (pv 0) Ae (An _)) (Ad BZ) Ao) (Ac (Aj 3 (Ag Eo (Aa (pv 1) (Aa (pv 2) Ab)))) (Ac (Do (Aj 4 (Dv (Ai GD (pv 0) Ae (An _)) Ae (HQ Ft Ae)))) (Ac (Do (Aj 5 (Dv (Ai GD (pv 0) Ae (An _)) (Ag Ei (Aa (pv 2) (Aa (pv 3) Ab))) (Ag Je (Aa (Ag Ei (Aa (pv 2) (Aa (pv 3) Ab))) (Aa (HQ Ft Ae) Ab)))))) (Ac (Aj 6 (Ag Ei (Aa (pv 1) (Aa (pv 3) Ab)))) (Ac (Aj 7 (Bd Z7 rfl wg PyProof.Rows.boot_abs (Aa (pv 0) Ab))) (Ac (Ht PassesOwn.never (PW.pt (Il (Ai GD (pv 7) Ae (An _)) (Ho (Ai GD (pxT 6) Ae (An _))))) (Ac (Aj 8 (Ag Jg (Aa (pv 6) (Aa (Ag Jf (Aa (pv 6) (Aa (pv 5) (Aa (pv 4) (Aa (CP rfl Yi (HD _)) Ab))))) Ab)))) (Ac (Do (Aj 6 (Dv (Ai BW (Af Be (pv 7) Ae) Ae (An _)) (pv 8) (Ag Oh (Aa (pv 6) (Aa (pv 8) Ab)))))) (Ad (Aj 7 (Af Bg (Af Bm (pv 7) Ae) Ae)))))) (Ad (Al (Dv (Ai GD (pv 0) Ae (An _)) (Ag dW (Aa (pv 6) (Aa (pv 5) Ab))) (Ag YG (Aa (pv 6) (Aa (pv 5) Ab))))))))))))),?_⟩
 symm;exists CT (fun c=>k0 (by injection c)) ?_;refine⟨a1,a2,n1,n2,b1,b2,rfl,W.s1,W.s2,W.p1,W.p2,W.l1,W.l2,lz,fun H1 s1=>?_⟩;generalize hz:Bj n1 n2=z at*
 have z0:=fl.1;have d1:n1∣z:=fl.2.1;have d2:n2∣z:=fl.2.2.1;have ls:=lcm_self z0;have str2:∀(H':Hp) (Q':VK) (E':XK),Az H H'->(∀(p:Addr) (c:Nat),H' p=none->HX n2.toNat b2 z.toNat c->Q' (.ref p) (upd H' p (.tup [.int z,.int (c:Int)])))->Ig K ([.ref a2,.int z]++[]) H' Q' E':=fun H' Q' E' s hq=>
  ⟨a2,n2,z,b2,rfl,s.tup W.s2,W.p2,W.l2,W.k2,z0,lz,d2,hq⟩
 symm;obtain⟨e,he⟩:∃e:Int,(0<k->e=1)/\(¬0<k->e= -1):=⟨if 0<k then 1 else -1,fun c=>xy c,fun c=>xp c⟩;have hek:e=if 0<k then 1 else -1:=by
  split
  ·exact he.1 (by assumption:_)
  ·exact he.2 (by assumption:_)
 have he':e=1\/e= -1:=by
  by_cases c:0<k
  ·exact .inl (he.1 c)
  ·exact .inr (he.2 c)
 refine DG (fun Z' H'=>Z'=[some (.int k),some (.ref a1),some (.ref a2),some (.int z),some (.int e),none,none,none,none]/\H'=H1) ?_ ?_
 ·symm;refine Cd (fun c=>?_) (fun c=>?_)
  ·rw[he.1 c];symm;exact⟨rfl,rfl⟩
  ·rw[he.2 c];symm;exact⟨rfl,rfl⟩
 rintro Z' H1' ⟨rfl,rfl⟩;symm;refine DG (fun Z' H'=>Ex2 fun(pe:Addr) (ce:Nat)=>An5 (Z'=[some (.int k),some (.ref a1),some (.ref a2),some (.int z),some (.int e),some (.ref pe),none,none,none]) (Az H1' H') (H' pe=some (.tup [.int z,.int (ce:Int)])) (ce<2^z.toNat) (∀d,On z ce d=On n2 b2 (if 0<k then d else d+1))) ?_ ?_
 ·symm;refine Cd (fun c=>?_) (fun c=>?_)
  ·symm;exists str2 _ _ _ s1 fun ps cs hs1 Ss=>?_;exact⟨ps,cs,rfl,Ar hs1 _,Am,Ss.lt,fun d=>by rw[xy c];exact HX.on W.p2 z0 d2 Ss d⟩
  ·symm;exists str2 _ _ _ s1 fun ps cs hs1 Ss=>?_;exists⟨ps,z,-1,cs,rfl,SqT.of Am,z0,lz,Ss.lt,fun p hp=>?_⟩;exact⟨p,_,rfl,(Ar hs1 _).trans (Ar hp _),Am,Ob _ _ _,fun d=>by rw[xp c,TF z0 Ss.lt,HX.on W.p2 z0 d2 Ss,show d- -1=d+1 by lia]⟩
 rintro Z' H2 ⟨pe,ce,rfl,s2,t2,lce,oe⟩;symm;refine⟨a1,n1,z,b1,rfl,s2.tup (s1.tup W.s1),W.p1,W.l1,W.k1,z0,lz,d1,fun pr cr hr1 Sr=>?_⟩;exists fresh hr1 fun H3 s3 t3=>?_;refine⟨_,rfl,?_⟩;obtain⟨p0,hp0⟩:∃p0:Int,(if k<0 then -k else k)=p0:=⟨_,rfl⟩;have ap:p0=(k.natAbs:Int):=by split at hp0<;>lia
 rw[hp0];symm;refine⟨fun m Z' H'=>Az H3 H'/\∃(pd:Addr) (t:Nat) (p:Int) (od:Option V),1<=p/\p<=p0/\H' pd=some (.tup [.int z,.int (t:Int)])/\t<2^z.toNat/\((∀d,Bar (On z ce) e z.toNat d)->∀d,(On z t d=true/\(cG (On z t) (On z ce) e z.toNat d:Int)=p)<->(On n1 b1 d=true/\(cG (On n1 b1) (On z ce) e z.toNat d:Int)=p0))/\
  Z'=[some (.int k),some (.ref a1),some (.ref a2),some (.int z),some (.int e),some (.ref pe),some (.ref pd),some (.int p),od]/\m=p.toNat,
  ⟨_,Az.refl _,pr,cr,p0,none,⋯,⋯,t3,Sr.lt,(fun _ d=>by rw[show On z cr=On n1 b1 from funext (HX.on W.p1 z0 d1 Sr)]),rfl,rfl⟩,?_⟩
 rintro m Z' H4 ⟨s4,pd,t,p,od,p1,pp,td,lt,hT,rfl,rfl⟩;symm;have te:=s4 _ _ (s3 _ _ t2);have fin:(p=1\/t=0)->∀(E':XK),spJ K (WR (UpJ e)) ([.ref pd,.ref pe]++[]) H4 Q E':=fun nn E'=>
  ⟨pd,pe,z,z,t,ce,rfl,⟨SqT.of td,SqT.of te,z0,z0,lz,lz,lt,lce⟩,(by rw[ls];exact lz),fun p' c' H' s' t' lc' R=>by
   rw[ls] at t' lc' R;exact q p' c' H' (s1.trans (s2.trans (s3.trans (s4.trans s')))) t' lc' fun d=>by rw[R];exact(vN (b1:=b1) (t:=t) z0 d2 W.p1 k0 hek ap oe hT nn d).symm⟩
 refine Cd (fun hp=>?_) (fun hp=>?_)
 ·symm;exists Aw (SqT.of td) at1 ?_;refine Cd (fun ht=>?_) (fun ht=>?_)
  ·refine⟨fun Z' H'=>∃m',m'<p.toNat/\Az H3 H'/\∃(pd:Addr) (t:Nat) (p:Int) (od:Option V),1<=p/\p<=p0/\H' pd=some (.tup [.int z,.int (t:Int)])/\t<2^z.toNat/\((∀d,Bar (On z ce) e z.toNat d)->∀d,(On z t d=true/\(cG (On z t) (On z ce) e z.toNat d:Int)=p)<->(On n1 b1 d=true/\(cG (On n1 b1) (On z ce) e z.toNat d:Int)=p0))/\
   Z'=[some (.int k),some (.ref a1),some (.ref a2),some (.int z),some (.int e),some (.ref pe),some (.ref pd),some (.int p),od]/\m'=p.toNat,fun Z' H' hh=>hh,?_⟩
   symm;exists⟨pd,pe,_,z,e,t,ce,_,xor,(fun k d=>cG (On z t) (On z ce) e k d%2=1),rfl,qk _ qc,Yi,td,SqT.of te,z0,lz,lt,lce,he',(fun d=>rG),Zo,fun pg g H5 kk kn s5 t5 lg og=>?_⟩;refine⟨pd,pg,z,z,t,g,rfl,⟨s5.tup (SqT.of td),SqT.of t5,z0,z0,lz,lz,lt,lg⟩,(by rw[ls];exact lz),fun po c H6 s6 t6 B R=>?_⟩;rw[ls] at t6 B R;have td6:=s6 _ _ (s5 _ _ td);symm;refine DG (fun Z' H'=>Ex2 fun(pn:Addr) (t':Nat)=>An6 (Z'=[some (.int k),some (.ref a1),some (.ref a2),some (.int z),some (.int e),some (.ref pe),some (.ref pn),some (.int p),some (.ref po)]) (Az H6 H') (H' pn=some (.tup [.int z,.int (t':Int)])) (t'<2^z.toNat) (p%2=1->∀d,On z t' d=On z c d) (¬p%2=1->∀d,On z t' d=(On z t d&&!On z c d))) ?_ ?_
   ·symm;refine Cd (fun o=>?_) (fun o=>?_)
    ·symm;exact⟨po,c,rfl,Az.refl _,t6,B,fun _ _=>rfl,fun z=>absurd (by injection o) z⟩
    ·symm;refine⟨pd,po,z,z,t,c,rfl,⟨SqT.of td6,SqT.of t6,z0,z0,lz,lz,lt,B⟩,(by rw[ls];exact lz),fun pn t' H7 s7 t7 B7 R7=>?_⟩;rw[ls] at t7 B7 R7;symm;exact⟨pn,t',rfl,s7,t7,B7,fun z=>absurd (yk V.int z) o,fun _ d=>R7.self z0 d⟩
   rintro Z' H7 ⟨pn,t',rfl,s7,t7,lt',w1,w2⟩;symm;exact⟨_,(by lia:((p+1)/2).toNat<p.toNat),s4.trans (s5.trans (s6.trans s7)),pn,t',(p+1)/2,_,⋯,⋯,t7,lt',(fun hB d=>(qF hB kn og (fun d=>R.self z0 d) hp w1 w2 d).trans (hT hB d)),rfl,rfl⟩
  ·symm;have nn:p=1\/t=0:=.inr ⋯;refine Cd (fun c=>?_) (fun c=>?_)
   ·symm;have f:=fin nn;rw[he.1 c] at f;exact f _
   ·symm;have f:=fin nn;rw[he.2 c] at f;exact f _
 ·refine Eg ?_;have nn:p=1\/t=0:=.inl ⋯;symm;refine Cd (fun c=>?_) (fun c=>?_)
  ·symm;have f:=fin nn;rw[he.1 c] at f;exact f _
  ·symm;have f:=fin nn;rw[he.2 c] at f;exact f _
theorem lD:C0 1 "term_on" ["term","k"] my:=by
 refine co' ["term","k"] jG fun nd H vs Q E hr h=>?_;obtain⟨p,k,t,rfl,hp,ok,bk,q⟩:=h;have n0:=ok.n0;have n1:=ok.n1;have a0:=ok.a0;have a1:=ok.a1;exists⟨_,(Ad (Al (Ed xV (Af Bm (Af Be (Af Bm (Af Ca (pxT 0) (pv 1)) (pxT 0)) (pxT 0)) (pxT 0)) (pxT 0) (An _)))),?_⟩;exists Aw (SqT.of hp) rP ?_;exists Dn ⟨64,400,CK ⋯ ⋯ nofun,bk,nofun⟩ ?_;exists Aw (SqT.of hp) wJ ?_;exists Aw (SqT.of hp) Vd ?_;exists Aw (SqT.of hp) rP ?_;exists Aw (SqT.of hp) Vd ?_;exact q
theorem YH:C0 1 "signs_upto" ["terms","k"] (tX K):=by
 refine co' ["terms","k"] XD fun nd H vs Q E hr h=>?_;obtain⟨p,k,ts,rfl,T,bk,q⟩:=h;obtain⟨us,hS,hT⟩:=T.ex;exists⟨_,(Ad (Al (Bd (Mr rfl) rfl eE jk5 (Aa (Fy rfl (Dq ["terms","k"] ["terms","k"] rfl rfl (by with_unfolding_all rfl) ∅ rfl ∅ rfl ∅ (by walk_at"fm") (by with_unfolding_all rfl) (by with_unfolding_all rfl)) (SM (pv 0)) (fun _ _ _ _=>Ds) (fun _ _ _ _=>(Af Ca (Dr Hx (pv 0) Ae) (Af Bg (Af Bm (Af Ca (Dr Hx (pv 0) Ae) (pv 2)) (Dr Hx (pv 0) Ae)) (Dr Hx (pv 0) Ae))))) Ab)))),?_⟩;refine dM rfl hS (by rw[hT.len];exact Dz (by have:=T.few;lia)) (fun v=>((Uu H v).map fun _=>true).getD false) (fun v=>((Uu H v).map fun t=>V.int (t.1*ctT t k)).getD .non) (fun x hx D ys Q' hD h=>?_) (fun x hx _ D ys Q' hD h=>?_) (fun D hD=>?_)
 ·obtain⟨a,t,rfl,ht,ha⟩:=hT.mem hx;rw[JN ha] at h;exact h
 ·obtain⟨a,t,rfl,ht,ha⟩:=hT.mem hx;rw[JN ha] at h;have ok:=T.ok t ht;have n0:=ok.n0;have n1:=ok.n1;have a0:=ok.a0;have a1:=ok.a1;have sg:=ok.sg;have b0:=ok.b0;have b1:=ok.b1;have ha':=Ar hD (.lst ys) _ _ ha;symm;exists Aw (SqT.of ha') rQ ?_;exists Aw (SqT.of ha') rP ?_;exists Dn ⟨64,400,CK ⋯ ⋯ nofun,bk,nofun⟩ ?_;exists Aw (SqT.of ha') wJ ?_;refine Aw (SqT.of ha') Vd ?_;refine Dn (G7 ⋯ ⋯) ?_;have bb:Bt 465 (t.2.1*k+t.2.2.1):=((show Bt 64 t.2.1 from CK ⋯ ⋯ nofun).mul bk).add ((show Bt 64 t.2.2.1 from CK ⋯ ⋯ nofun).mono nofun);refine Dn ⟨200,465,bt_of ⋯ ⋯,ABP bb ⋯,nofun⟩ ?_;exact h
 rw[hT.fm (fun _=>true) fun t=>V.int (t.1*ctT t k),jf2.mpr (fun _ _=>rfl)];have e:(ts.map fun t=>V.int (t.1*ctT t k))=(ts.map fun t=>t.1*ctT t k).map V.int:=by rw[va];rfl
 rw[e];symm;refine⟨D,_,rfl,SqL.of Am,?_⟩;exact q _ (Ar hD _)
theorem lG:C0 1 "is_term" ["term"] nM:=by
 refine co' ["term"] jO fun nd H vs Q E hr h=>?_;obtain⟨p,t,rfl,hp,ok,q⟩:=h;have n0:=ok.n0;have n1:=ok.n1;have a0:=ok.a0;have a1:=ok.a1;have sg:=ok.sg;have b0:=ok.b0;have b1:=ok.b1;refine⟨_,(Ac (Ax (PW.pt (Il (Ai Gf (pxT 0) Ae (An _)) (Ho (Ai Gf (pxT 0) (HQ Ft Ae) (An _))))) (Ad (Al Ky)) Ao) (Ad (Al (Sg (MK J1 J1 Ae (pxT 0) (CP rfl Xw (Cq _ _))) (Sg (MK J1 J1 Ae (pxT 0) (pxT 0)) (SN (MK J1 FT Ae (pxT 0) (pxT 0)))))))),?_⟩
 symm;exists Aw (SqT.of hp) rQ ?_;have rest:True:=trivial;rcases sg with e | e
 ·exists Gh (yk V.int e) (Eg ?_);exists Aw (SqT.of hp) Vd ?_;exists Gy n0 ?_;rw[decide_eq_true n1];exists Fe ?_;exists Aw (SqT.of hp) rP ?_;exists Gy a0 ?_;exists Aw (SqT.of hp) Vd ?_;rw[decide_eq_true a1];exists Fe ?_;exists Aw (SqT.of hp) wJ ?_;exists Gy b0 ?_;exists Aw (SqT.of hp) Vd ?_;rw[decide_eq_true b1];exact q
 ·refine Zq (fun z=>by have:=V.int.inj z;lia) ?_;symm;exists Aw (SqT.of hp) rQ ?_;exists Gh (yk V.int e) ?_;exists Aw (SqT.of hp) Vd ?_;exists Gy n0 ?_;rw[decide_eq_true n1];exists Fe ?_;exists Aw (SqT.of hp) rP ?_;exists Gy a0 ?_;exists Aw (SqT.of hp) Vd ?_;rw[decide_eq_true a1];exists Fe ?_;exists Aw (SqT.of hp) wJ ?_;exists Gy b0 ?_;exists Aw (SqT.of hp) Vd ?_;rw[decide_eq_true b1];exact q
theorem Gx:C0 1 "least_length" ["base","terms"] (uI K):=by
 refine co' ["base","terms"] Rh fun nd H vs Q E hr h=>?_;obtain⟨p,b,ts,rfl,T,q⟩:=h;obtain⟨us,hS,hT⟩:=T.ex;exists⟨_,(Ad (Al (Af Dh (pv 0) (Bd Bs rfl Ep xz (Aa (Fy rfl (Gd ["base","terms"] rfl ∅ rfl ∅ rfl ∅ ∅) (SM (pv 1)) (fun _ _ _ _=>(SJ (Ai BW (Dr Hx (pv 0) Ae) (HQ Ft Ae) (An _)))) (fun _ _ _ _=>(pv 0))) Ab))))),?_⟩;refine dM rfl hS (by rw[hT.len];exact Dz (by have:=T.few;lia)) (fun v=>((Uu H v).map fun t=>decide (t.1= -1)).getD false) (fun v=>v) (fun x hx D ys Q' hD h=>?_) (fun x hx _ D ys Q' hD h=>h) (fun D hD=>?_)
 ·obtain⟨a,t,rfl,ht,ha⟩:=hT.mem hx;rw[JN ha] at h;symm;exists Aw (SqT.of (Ar hD _ _ _ ha)) rQ ?_;rw[qu];exact h
 symm;exists⟨D,_,rfl,.inl (SqL.of Am),?_⟩;have e:((us.filter fun v=>((Uu H v).map fun t=>decide (t.1= -1)).getD false).map fun v=>v).length=(ts.filter fun t=>decide (t.1= -1)).length:=by
  have:=yk List.length (hT.fm (fun t=>decide (t.1= -1)) (fun _=>V.non));rw[jp,jp] at this;rw[jp];exact this
 rw[e];exact q _ (Ar hD _)
theorem Oi:C0 2 "refuse_measure" ["base","terms"] (ir K):=by
 refine co' ["base","terms"] Nh fun nd H vs Q E hr h=>?_;obtain⟨p,b,ts,rfl,T,g,q⟩:=h;obtain⟨us,hS,hT⟩:=T.ex;have b0:=g.b0;have b1:=g.b1;have fl:=g.fl;have few:=T.few;refine⟨_,(Ac (Ax (PW.pt (Hh (Ai FT (pv 0) Ae (An _)) (GK (Ai GD (pv 0) (CP rfl Qa (Cq _ _)) (An _)))))
  (Ad BZ)
  Ao)
  (Ac (Ax (Ai GD (Bd Bs rfl Ep xz (Aa (pv 1) Ab)) (CP rfl Xr (Cq _ _)) (An _))
   (Ad BZ)
   Ao)
  (Ac (Ax (G3 (El (Bd (Tu rfl) rfl lU jo0 (Aa (Fy rfl (Gd ["base","terms"] rfl ∅ rfl ∅ rfl ∅ ∅) (SM (pv 1)) (fun _ _ _ _=>Ds) (fun _ _ _ _=>(Ag lG (Aa (pv 0) Ab)))) Ab))))
   (Ad BZ)
   Ao)
  (Ad (Ax (Ai FT (Ag Gx (Aa (pv 0) (Aa (pv 1) Ab))) Ae (An _))
   (Ad BZ)
   Ao))))),?_⟩
 symm;exists CT ⋯ ?_;exists CT ⋯ ?_;exists⟨p,us,rfl,.inr hS,?_⟩;refine CT (by rw[hT.len];lia) ?_;symm;refine dM rfl hS (by rw[hT.len];exact Dz ⋯) (fun _=>true) (fun _=>.bl true) (fun x hx D ys Q' hD h=>h) (fun x hx _ D ys Q' hD h=>?_) (fun D hD=>?_)
 ·obtain⟨a,t,rfl,ht,ha⟩:=hT.mem hx;symm;exact⟨a,t,rfl,Ar hD _ _ _ ha,T.ok t ht,h⟩
 have s1:=Ar hD (.lst ((us.filter fun _=>true).map fun _=>V.bl true));have e:((us.filter fun _=>true).map fun _=>V.bl true)=(us.map fun _=>true).map V.bl:=by
  rw[jf2.mpr (fun _ _=>rfl),va];rfl
 symm;exists⟨D,us.map (fun _=>true),rfl,SqL.of (by rw[Am,e]),?_⟩;rw[show ((us.map fun _=>true).all id)=true from jb9.mpr (fun x hx=>by obtain⟨_,_,rfl⟩:=ui.mp hx;rfl)];exists Eg ?_;exists⟨p,b,ts,rfl,T.same s1,fun H2 s2=>?_⟩;exists CT ⋯ ?_;exact q _ (s1.trans s2)
theorem aH:C0 4 "period_of" ["terms"] (nG K):=by
 refine co' ["terms","told","term"] Y9 fun nd H vs Q E hr h=>?_;obtain⟨p,ts,rfl,T,q⟩:=h;obtain⟨us,hS,hT⟩:=T.ex;have few:=T.few;have ulen:=hT.len;refine⟨_,(Ac (Aj 1 Ae) (Ac (Hu PassesOwn.never rfl (SM (pv 0)) (CQ (i:=2) nd rfl (by walk_at"o")) (Ad (Aj 1 (Ag KQ (Aa (pv 1) (Aa (pxT 2) Ab)))))) (Ad (Al (pv 1))))),?_⟩
 symm;walk_at"f";symm;refine⟨p,rfl,⟨us,hS⟩,vX (xs:=us) (fun i Z' H'=>Az H H'/\∃c:Option V,Z'=[some (.ref p),some (.int (PER (ts.take i))),c]) ⟨Az.refl _,none,rfl⟩ ?_ ?_ ?_⟩
 ·rintro i Z' H' _ ⟨s,_⟩;exact s.tup hS
 ·rintro i x Z' H' hx ⟨s,c,rfl⟩;obtain⟨a,t,rfl,ht,ha⟩:=hT.at hx;have i6:i<6:=by
   have:=(qv.mp ht).1;lia
  obtain⟨h1,h2⟩:=MJ T.ok i ⋯;have h3:=AAG (show i<=6 by lia);have ok:=T.ok t (zk ht);have n0:=ok.n0;have n1:=ok.n1;symm;exists Aw (SqT.of (s _ _ ha)) Vd ?_;exists⟨_,_,rfl,h1,⋯,CK ⋯ ⋯ nofun,CK ⋯ ⋯ nofun,fun H2 s2=>?_⟩;refine⟨s.trans s2,some (.ref a),?_⟩;have e2:PER (ts.take (i+1))=Bj (PER (ts.take i)) t.2.2.2:=by
   unfold PER;rw[kx,ht,jd3,List.foldl_append];rfl
  rw[e2]<;>rfl
 ·rintro Z' H' ⟨s,c,rfl⟩;symm;rw[ulen,ja6];exact q _ s
theorem DW:CM0 2 Aq "upto" ["self","k"] (yf K Aq):=by
 refine cm' ["self","k"] Rp fun nd H vs Q E hr h=>?_;obtain⟨x,p,dx,k,b,ts,fs,rfl,hx,fb,ft,T,b0,b1,bk,q⟩:=h;exists⟨_,(Ad (Al (Af Bm (Af Ca (Br (pv 0) (by rfl)) (pv 1)) (Ag YH (Aa (Br (pv 0) (by rfl)) (Aa (pv 1) Ab)))))),?_⟩;exists⟨x,Aq,dx,fs,_,rfl,hx,Ay,Ce,fb,?_⟩;exists Dn ⟨64,400,CK ⋯ ⋯ nofun,bk,nofun⟩ ?_;exists⟨x,Aq,dx,fs,_,rfl,hx,Ay,CW,ft,?_⟩;exists⟨p,k,ts,rfl,T,bk,fun H' s=>?_⟩;exact q _ s
theorem Ks:Cy ["self","base","terms"] ["self","base","terms"] (BX Ga):=by walk_at"s"
theorem Ku{ds:Array Value}(F:Kg K "__init__" "Measure.__init__" Ga f fd ds):F0 5 f fd ["self","base","terms"] (W5 K Aq):=by
 refine F.ok (k:=4) Ks (fun h=>?_) fun nd H vs Q E hr h=>?_
 ·obtain⟨x,dx,b,v,us,ts,rfl,_⟩:=h;rfl
 obtain⟨x,dx,b,v,us,ts,rfl,hx,hT,hv,ok,few,g,po,q⟩:=h;refine⟨_,(Ac (FW (pv 0) (pv 1) (by rfl)) (Ac (FW (pv 0) (Dv (Ai J2 (pv 2) G4 (An _)) (BJ Ab) (BP Ir rfl Wr jm6 (Aa (pv 2) Ab))) (by rfl)) (Ac (Bh (Ag Oi (Aa (Br (pv 0) (by rfl)) (Aa (Br (pv 0) (by rfl)) Ab)))) (Ac (FW (pv 0) (Ag aH (Aa (Br (pv 0) (by rfl)) Ab)) (by rfl)) (Ac (FW (pv 0) (Ec DW Ay (pv 0) (Aa (Br (pv 0) (by rfl)) Ab)) (by rfl)) (Ad (Ax (Ai BW (Br (pv 0) (by rfl)) Ae (An _)) (Ad BZ) Ao))))))),?_⟩
 symm;refine⟨x,Aq,dx,[],rfl,hx,Ay,Ce,nofun,?_⟩;have k1:∀y o,y≠x->H y=some o->upd H x (.ins Aq dx (De "base" (.int b) [])) y=some o:=fun y o hy h=>by rw[BK hy];exact h
 have x1:upd H x (.ins Aq dx (De "base" (.int b) [])) x=some (.ins Aq dx [("base",.int b)]):=Am;generalize upd H x (.ins Aq dx (De "base" (.int b) []))=H1 at k1 x1 ⊢;have tmk:∀{H':Hp},(∀y o,y≠x->H y=some o->H' y=some o)->Tms H' us ts:=fun{H'} k=>by
  have:∀{vs:List V} {ts:List Tm},Tms H vs ts->Tms H' vs ts:=fun{vs ts} h=>by
   induction h with
   | nil=>exact .nil
   | cons h _ ih=>exact .cons (k _ _ (fun e=>by subst e;rw[hx] at h;cases h) h) ih
  exact this hT
 symm;rcases hv with ⟨rfl,eu⟩ | ⟨l,rfl,hl⟩
 all_goals refine⟨rfl,?_⟩
 all_goals symm
 all_goals first | refine Gy rfl ?_ | refine CT (fun z=>by cases z) ?_
 all_goals symm
 all_goals first
  | refine⟨l,us,rfl,.inl ⟨SqL.of (k1 _ _ (Hj hl hx (by intro z;cases z)) hl),fun p hp=>?_⟩⟩
  | (refine ⟨ke _,fun p hp=>?_⟩
     rw[show upd H1 p (.tup [])=upd H1 p (.tup us) by rw[eu]])
 all_goals
  have px:x≠p:=Bu x1 hp;symm;refine⟨x,Aq,dx,_,rfl,by rw[BK px];exact x1,Ay,CW,(by show 1<1000;decide),?_⟩;have k2:∀y o,y≠x->H1 y=some o->upd (upd H1 p (.tup us)) x (.ins Aq dx (De "terms" (.ref p) [("base",.int b)])) y=some o:=fun y o hy h=>by
   rw[BK hy];exact Ar hp _ _ _ h
  have x2:upd (upd H1 p (.tup us)) x (.ins Aq dx (De "terms" (.ref p) [("base",.int b)])) x=some (.ins Aq dx [("base",.int b),("terms",.ref p)]):=Am;have p2:upd (upd H1 p (.tup us)) x (.ins Aq dx (De "terms" (.ref p) [("base",.int b)])) p=some (.tup us):=by rw[BK (Ne.symm px),Am]
  generalize upd (upd H1 p (.tup us)) x (.ins Aq dx (De "terms" (.ref p) [("base",.int b)]))=H2 at k2 x2 p2 ⊢;have k02:∀y o,y≠x->H y=some o->H2 y=some o:=fun y o hy h=>k2 y o hy (k1 y o hy h);have T2:TmT K H2 p ts:=⟨⟨us,SqT.of p2,tmk k02⟩,ok,few⟩;symm;exists⟨x,Aq,dx,_,_,rfl,x2,Ay,Ce,rfl,?_⟩;exists⟨x,Aq,dx,_,_,rfl,x2,Ay,CW,rfl,?_⟩;refine⟨p,b,ts,rfl,T2,g,fun H3 s3=>?_⟩;have x3:=s3 _ _ x2;symm;exists⟨x,Aq,dx,_,_,rfl,x3,Ay,CW,rfl,?_⟩;refine⟨p,ts,rfl,T2.same s3,fun H4 s4=>?_⟩;have x4:=s4 _ _ x3;have p4:=(s3.trans s4) _ _ p2;symm;refine⟨x,Aq,dx,_,rfl,x4,Ay,Em,(by show 2<1000;decide),?_⟩;have pne:p≠x:=Ne.symm px;have k5:∀y o,y≠x->H4 y=some o->upd H4 x (.ins Aq dx (De "full_count" (.int (PER ts)) [("base",.int b),("terms",.ref p)])) y=some o:=fun y o hy h=>by rw[BK hy];exact h
  have x5:upd H4 x (.ins Aq dx (De "full_count" (.int (PER ts)) [("base",.int b),("terms",.ref p)])) x=some (.ins Aq dx [("base",.int b),("terms",.ref p),("full_count",.int (PER ts))]):=Am;generalize upd H4 x (.ins Aq dx (De "full_count" (.int (PER ts)) [("base",.int b),("terms",.ref p)]))=H5 at k5 x5 ⊢;have k05:∀y o,y≠x->H y=some o->H5 y=some o:=fun y o hy h=>k5 y o hy ((s3.trans s4) _ _ (k02 y o hy h));have T5:TmT K H5 p ts:=⟨⟨us,SqT.of (k5 _ _ pne p4),tmk k05⟩,ok,few⟩;obtain⟨h1,h2⟩:=MJ ok 6 nofun;rw[uk few] at h1 h2;have h3:=AAG (show 6<=6 by decide);symm;exists⟨x,dx,_,rfl,x5,rfl,?_⟩;exists⟨x,Aq,dx,_,_,rfl,x5,Ay,Em,rfl,?_⟩;refine⟨x,p,dx,PER ts,b,ts,_,rfl,x5,rfl,rfl,T5,g.b0,g.b1,CK ⋯ ⋯ nofun,fun H6 s6=>?_⟩;have x6:=s6 _ _ x5;symm;refine⟨x,Aq,dx,_,rfl,x6,Ay,Gw,(by show 3<1000;decide),?_⟩;have k7:∀y o,y≠x->H6 y=some o->upd H6 x (.ins Aq dx (De "full_sum" (.int (UP b ts (PER ts))) [("base",.int b),("terms",.ref p),("full_count",.int (PER ts))])) y=some o:=fun y o hy h=>by rw[BK hy];exact h
  have x7:upd H6 x (.ins Aq dx (De "full_sum" (.int (UP b ts (PER ts))) [("base",.int b),("terms",.ref p),("full_count",.int (PER ts))])) x=some (.ins Aq dx (mF b p (PER ts) (UP b ts (PER ts)))):=Am;generalize upd H6 x (.ins Aq dx (De "full_sum" (.int (UP b ts (PER ts))) [("base",.int b),("terms",.ref p),("full_count",.int (PER ts))]))=H7 at k7 x7 ⊢;have k07:∀y o,y≠x->H y=some o->H7 y=some o:=fun y o hy h=>k7 y o hy (s6 _ _ (k05 y o hy h));symm;exists⟨x,Aq,dx,_,_,rfl,x7,Ay,Gw,rfl,?_⟩;refine CT (fun z=>by have:=V.int.inj z;lia) ?_;symm;refine q _ k07 ⟨⟨dx,p,x7,⟨us,SqT.of (k7 _ _ pne (s6 _ _ (k5 _ _ pne p4))),tmk k07⟩,ok,few⟩,g,po⟩
theorem Ge:CI0 5 "Measure" Aq ["self","base","terms"] (W5 K Aq):=Tv (st:=Ga) (ds:= #[.none]) gX gG (by walk_at"k") (by walk_at"k") (by walk_at"k") (by walk_at"dm") (fun _ _ _ _ _ _ _ us hl=>by obtain⟨_,_,_,rfl⟩:=AAg hl;exact⟨_,rfl,rfl⟩) Ku
theorem Jh:CM0 2 Aq "at" ["self","k"] (ADm K Aq):=by
 refine cm' ["self","k"] XX fun nd H vs Q E hr h=>?_;obtain⟨x,k,b,ts,rfl,M,bk,q⟩:=h;obtain⟨dx,p,hx,T⟩:=M.ex;obtain⟨us,hS,hT⟩:=T.ex;exists⟨_,(Ad (Al (Af Bm (Br (pv 0) (by rfl)) (Bd (Mr rfl) rfl eE jk5 (Aa (Fy rfl (Dq ["self","k"] ["self","k"] rfl rfl (by with_unfolding_all rfl) ∅ rfl ∅ rfl ∅ (by walk_at"fm") (by with_unfolding_all rfl) (by with_unfolding_all rfl)) (SM (Br (pv 0) (by rfl))) (fun _ _ _ _=>(SJ (El (Ag lD (Aa (pv 0) (Aa (pv 2) Ab)))))) (fun _ _ _ _=>(Dr Hx (pv 0) Ae))) Ab))))),?_⟩;exists⟨x,Aq,dx,_,_,rfl,hx,Ay,Ce,rfl,?_⟩;exists Fj (xQ ?_);refine⟨x,Aq,dx,_,_,rfl,hx,Ay,CW,rfl,?_⟩;refine⟨p,rfl,⟨_,hS⟩,Jb lW (by rw[hT.len];exact Dz (by have:=T.few;lia)) (fun D ys hD=>(Ar hD _).tup hS) (fun v=>((Uu H v).map fun t=>onT t k).getD false) (fun v=>((Uu H v).map fun t=>V.int t.1).getD .non) (fun y hy D ys Q' hD h=>?_) (fun y hy _ D ys Q' hD h=>?_) (fun D hD=>?_)⟩
 ·obtain⟨a,t,rfl,ht,ha⟩:=hT.mem hy;rw[JN ha] at h;symm;exact⟨a,k,t,rfl,Ar hD _ _ _ ha,T.ok t ht,bk,⟨_,rfl,h⟩⟩
 ·obtain⟨a,t,rfl,ht,ha⟩:=hT.mem hy;rw[JN ha] at h;symm;refine Aw (SqT.of (Ar hD _ _ _ ha)) rQ ?_;exact h
 rw[hT.fm (fun t=>onT t k) fun t=>V.int t.1];have e:((ts.filter fun t=>onT t k).map fun t=>V.int t.1)=((ts.filter fun t=>onT t k).map fun t=>t.1).map V.int:=by rw[va];rfl
 rw[e];symm;exists⟨D,_,rfl,SqL.of Am,?_⟩;exact q _ (Ar hD _)
theorem Fz:CM0 1 Aq "period" ["self"] (ABw K Aq):=by
 refine cm' ["self"] Np fun nd H vs Q E hr h=>?_;obtain⟨x,b,ts,rfl,M,q⟩:=h;obtain⟨dx,p,hx,T⟩:=M.ex;exists⟨_,(Ad (Al (Br (pv 0) (by rfl)))),?_⟩;refine⟨x,Aq,dx,_,_,rfl,hx,Ay,Em,rfl,?_⟩;exact q
theorem Qg:C0 1 "refuse_months" ["lengths","leap"] (tZ K):=by
 refine co' ["lengths","leap"] QJ fun nd H vs Q E hr h=>?_;obtain⟨l,lp,ls,ts,rfl,hS,g,q⟩:=h;have l0:=g.l0;have l1:=g.l1;have p0:=g.p0;have p1:=g.p1;have ne:ls≠[]:=fun z=>by rw[z] at l0;simp at l0
 refine⟨_,(Ac (Ax (PW.pt (Hh (Ai FT (Bd Bs rfl Ep xz (Aa (pv 0) Ab)) Ae (An _)) (GK (Ai GD (Bd Bs rfl Ep xz (Aa (pv 0) Ab)) (CP rfl Kz (Cq _ _)) (An _))))) (Ad BZ) Ao) (Ac (Ax (PW.pt (Hh (Ai FT (Bd (WP rfl) rfl wZ PyProof.Rows.boot_min (Aa (pv 0) Ab)) Ae (An _)) (GK (Ai GD (Bd (km rfl) rfl ABe PyProof.Rows.boot_max (Aa (pv 0) Ab)) (CP rfl Jo (Cq _ _)) (An _))))) (Ad BZ) Ao) (Ad (Ax (PW.pt (Hh (Ai FT (pv 1) Ae (An _)) (GK (Ai GD (pv 1) (Bd Bs rfl Ep xz (Aa (pv 0) Ab)) (An _))))) (Ad BZ) Ao)))),?_⟩
 symm;refine⟨l,_,rfl,.inl hS,?_⟩;rw[jp];symm;exists CT ⋯ ?_;refine⟨l,_,rfl,.inl hS,?_⟩;rw[jp];symm;exists CT ⋯ ?_;refine⟨l,ls,rfl,hS,ne,fun m hm _=>?_⟩;have:=g.m m hm;symm;exists CT ⋯ ?_;refine⟨l,ls,rfl,hS,ne,fun m hm _=>?_⟩;have:=g.m m hm;symm;exists CT ⋯ ?_;exists CT ⋯ ?_;refine⟨l,_,rfl,.inl hS,?_⟩;rw[jp];symm;exists CT ⋯ ?_;exact q
theorem QG:Cy ["self","start","lengths","leap","terms"] ["self","start","lengths","leap","terms"] (BX Gq):=by walk_at"s"
theorem Jm{ds:Array Value}(F:Kg K "__init__" "Sun.__init__" Gq f fd ds):F0 7 f fd ["self","start","lengths","leap","terms"] (Qv K Bl Aq):=by
 refine F.ok (k:=6) QG (fun h=>?_) fun nd H vs Q E hr h=>?_
 ·obtain⟨x,dx,ll,s,lp,v,us,ls,ts,rfl,_⟩:=h;rfl
 obtain⟨x,dx,ll,s,lp,v,us,ls,ts,rfl,hx,hl,hT,hv,g,bs,q⟩:=h;have lx:ll≠x:=Hj hl hx (by intro z;cases z);have l0:=g.l0;have l1:=g.l1;have p0:=g.p0;have p1:=g.p1;have f0:=g.f0;have f1:=g.f1;refine⟨_,(Ac (Bh (Ag Qg (Aa (pv 2) (Aa (pv 3) Ab))))
  (Ac (FW (pv 0) (pv 1) (by rfl))
  (Ac (FW (pv 0) (BP Ir rfl Wr jm6 (Aa (pv 2) Ab)) (by rfl))
  (Ac (FW (pv 0) (pv 3) (by rfl))
  (Ac (FW (pv 0) (GP Ge (Aa (Bd (Mr rfl) rfl eE jk5 (Aa (pv 2) Ab)) (Aa (pv 4) Ab))) (by rfl))
  (Ac (Ax (Ai FT (Ag Gx (Aa (Dr Ew (pv 2) (Af Dh (pv 3) Ae) (fun _ _=>rfl)) (Aa (Br (Br (pv 0) (by rfl)) (by rfl)) Ab))) Ae (An _))
   (Ad BZ)
   Ao)
  (Ad (Ax (Ai FT (Ag Gx (Aa (Br (Br (pv 0) (by rfl)) (by rfl)) (Aa (Br (Br (pv 0) (by rfl)) (by rfl)) Ab))) Ae (An _))
   (Ad BZ)
   Ao)))))))),?_⟩
 symm;exists⟨ll,lp,ls,ts,rfl,SqL.of hl,g,?_⟩;refine⟨x,Bl,dx,[],rfl,hx,Ci,Jr,nofun,?_⟩;have k1:But x H (upd H x (.ins Bl dx (De "start" (.int s) []))):=But.upd;have x1:upd H x (.ins Bl dx (De "start" (.int s) [])) x=some (.ins Bl dx [("start",.int s)]):=Am;generalize upd H x (.ins Bl dx (De "start" (.int s) []))=H1 at k1 x1 ⊢;symm;refine⟨ll,_,rfl,.inl ⟨SqL.of (k1 _ _ lx hl),fun p hp=>?_⟩⟩;have px:x≠p:=Bu x1 hp;symm;refine⟨x,Bl,dx,_,rfl,by rw[BK px];exact x1,Ci,JG,(by show 1<1000;decide),?_⟩;have k2:But x H1 (upd (upd H1 p (.tup (ls.map V.int))) x (.ins Bl dx (De "months" (.ref p) [("start",.int s)]))):=fun y o hy h=>by
  rw[BK hy];exact Ar hp _ _ _ h
 have x2:upd (upd H1 p (.tup (ls.map V.int))) x (.ins Bl dx (De "months" (.ref p) [("start",.int s)])) x=some (.ins Bl dx [("start",.int s),("months",.ref p)]):=Am;have t2:upd (upd H1 p (.tup (ls.map V.int))) x (.ins Bl dx (De "months" (.ref p) [("start",.int s)])) p=some (.tup (ls.map V.int)):=by rw[BK (Ne.symm px),Am]
 generalize upd (upd H1 p (.tup (ls.map V.int))) x (.ins Bl dx (De "months" (.ref p) [("start",.int s)]))=H2 at k2 x2 t2 ⊢;symm;refine⟨x,Bl,dx,_,rfl,x2,Ci,Hz,(by show 2<1000;decide),?_⟩;have k3:But x H2 (upd H2 x (.ins Bl dx (De "leap" (.int lp) [("start",.int s),("months",.ref p)]))):=But.upd;have x3:upd H2 x (.ins Bl dx (De "leap" (.int lp) [("start",.int s),("months",.ref p)])) x=some (.ins Bl dx [("start",.int s),("months",.ref p),("leap",.int lp)]):=Am;generalize upd H2 x (.ins Bl dx (De "leap" (.int lp) [("start",.int s),("months",.ref p)]))=H3 at k3 x3 ⊢;have k03:But x H H3:=fun y o hy h=>k3 y o hy (k2 y o hy (k1 y o hy h));have l3:=k03 _ _ lx hl;have t3:=k3 _ _ (Ne.symm px) t2;symm;exists⟨ll,ls,rfl,SqL.of l3,?_⟩;refine fun y dy hy hdy ne=>X4 hy hdy ne (hT.but hx .ins k03) ?_ g.ok g.few g.gm g.po fun H4 s4 M4=>⟨rfl,?_⟩
 ·rcases hv with z | ⟨l,z,e⟩
  ·exact .inl z
  ·exact .inr ⟨l,z,k03 _ _ (Hj e hx (by intro z;cases z)) e⟩
 have x4:=s4 _ _ x3;have yx:y≠x:=fun e=>by subst e;rw[x3] at hy;cases hy
 symm;refine⟨x,Bl,dx,_,rfl,x4,Ci,Ck,(by show 3<1000;decide),?_⟩;have k5:But x H4 (upd H4 x (.ins Bl dx (De "years" (.ref y) [("start",.int s),("months",.ref p),("leap",.int lp)]))):=But.upd;have x5:upd H4 x (.ins Bl dx (De "years" (.ref y) [("start",.int s),("months",.ref p),("leap",.int lp)])) x=some (.ins Bl dx (sF s lp p y)):=Am;generalize upd H4 x (.ins Bl dx (De "years" (.ref y) [("start",.int s),("months",.ref p),("leap",.int lp)]))=H5 at k5 x5 ⊢;have M5:=M4.butX x4 .ins yx k5;have t5:=k5 _ _ (Ne.symm px) (s4 _ _ t3);have l5:=k5 _ _ lx (s4 _ _ l3);have k05:∀y o,y≠x->H y=some o->H5 y=some o:=fun y o hy h=>k5 y o hy (s4 _ _ (k03 y o hy h));obtain⟨d5,tp,e5,T5⟩:=M5.ex;have elp:lp-1=(((lp-1).toNat:Nat):Int):=⋯;have hat:atI (ls.map V.int) (lp-1)=some (V.int (ls.getD (lp-1).toNat 0)):=by
  conv=>lhs;rw[elp]
  refine Ej ?_;rw[xo,ja0,qm ⋯];rfl
 symm;exists BR (SqL.of l5) hat ?_;exists⟨x,Bl,dx,_,_,rfl,x5,Ci,Ck,rfl,?_⟩;exists⟨y,Aq,d5,_,_,rfl,e5,Ay,CW,rfl,?_⟩;exists⟨tp,_,ts,rfl,T5,fun H6 s6=>?_⟩;exists CT ⋯ ?_;have x6:=s6 _ _ x5;have e6:=s6 _ _ e5;exists⟨x,Bl,dx,_,_,rfl,x6,Ci,Ck,rfl,?_⟩;exists⟨y,Aq,d5,_,_,rfl,e6,Ay,Ce,rfl,?_⟩;exists⟨x,Bl,dx,_,_,rfl,x6,Ci,Ck,rfl,?_⟩;exists⟨y,Aq,d5,_,_,rfl,e6,Ay,CW,rfl,?_⟩;exists⟨tp,_,ts,rfl,T5.same s6,fun H7 s7=>?_⟩;exists CT ⋯ ?_;refine q _ (fun y o hy h=>s7 _ _ (s6 _ _ (k05 y o hy h))) ⟨⟨dx,p,y,s7 _ _ x6,SqT.of (s7 _ _ (s6 _ _ t5)),(M5.same s6).same s7⟩,g,bs⟩
theorem Ud:CI0 7 "Sun" Bl ["self","start","lengths","leap","terms"] (Qv K Bl Aq):=Tv (st:=Gq) (ds:= #[(.int 1 GZ),.none]) gX gG (by walk_at"k") (by walk_at"k") (by walk_at"k") (by walk_at"dm") (fun _ _ _ _ _ _ _ us hl=>by obtain⟨_,_,_,_,_,rfl⟩:=AAf hl;exact⟨_,rfl,rfl⟩) Jm
theorem Mv:sV P w K mg base CX0 7 "Sun" Bl ["self","start","lengths","leap","terms"] [(.int 1),.non] (Qv K Bl Aq):=lC (st:=Gq) (ds:= #[(.int 1 GZ),.none]) (dv:=[(.int 1 GZ),.none]) 3 rfl gX gG (by walk_at"k") (by walk_at"k") (by walk_at"k") (by walk_at"dm") (fun _ _ _ _ _ _ _ us hl=>by obtain⟨_,_,_,rfl⟩:=AAg hl;exact⟨_,rfl,rfl⟩) (.cons (by first | exact rfl | exact Cq _ _ | trivial) (.cons (by first | exact rfl | exact Cq _ _ | trivial) .nil)) Jm
theorem Ot:CM0 3 Bl "year_start" ["self","year"] (ABs K Bl Aq):=by
 refine cm' ["self","year"] Nk fun nd H vs Q E hr h=>?_;obtain⟨x,n,s,ls,lp,ts,rfl,S,bn,q⟩:=h;obtain⟨dx,p,y,hx,hp,M⟩:=S.ex;obtain⟨d,fs,ey,ly⟩:=M.meth;obtain⟨d2,tp,e2,T2⟩:=M.ex;exists⟨_,(Ad (Al (Af Bm (Br (pv 0) (by rfl)) (Ec DW Ay (Br (pv 0) (by rfl)) (Aa (pv 1) Ab))))),?_⟩;exists⟨x,Bl,dx,_,_,rfl,hx,Ci,Jr,rfl,?_⟩;exists⟨x,Bl,dx,_,_,rfl,hx,Ci,Ck,rfl,?_⟩;exists⟨y,d,fs,rfl,ey,ly.2.2.1,?_⟩;exists⟨y,tp,d2,n,_,ts,_,rfl,e2,rfl,rfl,T2,M.gd.b0,M.gd.b1,bn.mono nofun,fun H' s'=>?_⟩;exact q _ s'
theorem Vb:CM0 3 Bl "lengths" ["self","year"] (nJ K Bl Aq):=by
 refine cm' ["self","year","told"] VG fun nd H vs Q E hr h=>?_;obtain⟨x,n,s,ls,lp,ts,rfl,S,bn,q⟩:=h;obtain⟨dx,p,y,hx,hp,M⟩:=S.ex;have g:=S.gd;have p0:=g.p0;have p1:=g.p1;have elp:lp-1=(((lp-1).toNat:Nat):Int):=⋯;generalize hi:(lp-1).toNat=i at elp;have il:i<ls.length:=⋯;refine⟨_,(Ac (Aj 2 (BP YF rfl lR PyProof.Rows.boot_list (Aa (Br (pv 0) (by rfl)) Ab)))
  (Ac (Im (Af Dh (Af Bm (Dr Ew (pv 2) (Af Dh (Br (pv 0) (by rfl)) Ae) (fun _ _=>rfl)) (Ec Jh Ay (Br (pv 0) (by rfl)) (Aa (pv 1) Ab))) (Br (Br (pv 0) (by rfl)) (by rfl))) (o6 (pv 2) (Af Dh (Br (pv 0) (by rfl)) Ae) set_list))
  (Ad (Al (pv 2))))),?_⟩
 symm;exists⟨x,Bl,dx,_,_,rfl,hx,Ci,JG,rfl,?_⟩;refine⟨p,_,rfl,.inr hp,fun l hl=>?_⟩;refine fresh hl fun H1 s1 t1=>?_;have M1:=M.same s1;obtain⟨d1,fs,e1,l1⟩:=M1.meth;obtain⟨d2,tp,e2,T2⟩:=M1.ex;have x1:=s1 _ _ hx;symm;exists⟨x,Bl,dx,_,_,rfl,x1,Ci,Hz,rfl,?_⟩;rw[elp];have hat:atI (ls.map V.int) (i:Int)=some (V.int (ls.getD i 0)):=by
  refine Ej ?_;rw[xo,ja0,qm il];rfl
 exists BR (SqL.of t1) hat ?_;exists⟨x,Bl,dx,_,_,rfl,x1,Ci,Ck,rfl,?_⟩;exists⟨y,d1,fs,rfl,e1,l1.2.1,?_⟩;refine⟨y,n,_,ts,rfl,M1,bn.mono nofun,fun H2 s2=>?_⟩;have x2:=s2 _ _ x1;symm;exists⟨x,Bl,dx,_,_,rfl,x2,Ci,Ck,rfl,?_⟩;exists⟨y,Aq,d2,_,_,rfl,s2 _ _ e2,Ay,Ce,rfl,?_⟩;exists⟨x,Bl,dx,_,_,rfl,x2,Ci,Hz,rfl,?_⟩;rw[elp];have t2:=s2 _ _ t1;refine fM t2 (by rw[jp];exact il) ?_;symm;have ev:ls.getD i 0+AT ls.sum ts n-ls.sum=ls.getD i 0+ONS ts n:=by
  unfold AT;lia
 rw[ev];have el:(ls.map V.int).set i (V.int (ls.getD i 0+ONS ts n))=(Vf ls lp ts n).map V.int:=by
  unfold Vf;rw[hi,List.map_set]
 rw[el];refine q l _ hl (fun b o h=>?_) Am;rw[BK (Bu h hl)];exact s2 _ _ (s1 _ _ h)
theorem aU:CM0 3 Bl "cycle" ["self"] (xN K Bl Aq):=by
 refine cm' ["self","years"] ZS fun nd H vs Q E hr h=>?_;obtain⟨x,s,ls,lp,ts,rfl,S,q⟩:=h;obtain⟨dx,p,y,hx,hp,M⟩:=S.ex;obtain⟨d,fs,ey,ly⟩:=M.meth;obtain⟨d2,tp,e2,T2⟩:=M.ex;have pp:=Q0 S.gd.ok S.gd.few;refine⟨_,(Ac (Aj 1 (Cu Fz Ay (Br (pv 0) (by rfl)))) (Ad (Al (BJ (Aa (pv 1) (Aa (Ec DW Ay (Br (pv 0) (by rfl)) (Aa (pv 1) Ab)) Ab)))))),?_⟩
 symm;exists⟨x,Bl,dx,_,_,rfl,hx,Ci,Ck,rfl,?_⟩;exists⟨y,d,fs,rfl,ey,ly.2.2.2,?_⟩;exists⟨y,_,ts,rfl,M,?_⟩;exists⟨x,Bl,dx,_,_,rfl,hx,Ci,Ck,rfl,?_⟩;exists⟨y,d,fs,rfl,ey,ly.2.2.1,?_⟩;exists⟨y,tp,d2,_,_,ts,_,rfl,e2,rfl,rfl,T2,M.gd.b0,M.gd.b1,CK ⋯ ⋯ nofun,fun H' s'=>?_⟩;refine⟨two,fun c hc=>?_⟩;exact q _ _ (s'.trans (Ar hc _)) Am
theorem K5:C0 2 "refuse_part" ["measure","greatest"] (tY K Aq):=by
 refine co' ["measure","greatest"] U7 fun nd H vs Q E hr h=>?_;obtain⟨y,b,g,ts,rfl,M,f,bg,q⟩:=h;obtain⟨d,p,e,T⟩:=M.ex;refine⟨_,(Ac (Ax (Ai FT (Ag Gx (Aa (Br (pv 0) (by rfl)) (Aa (Br (pv 0) (by rfl)) Ab))) Ae (An _)) (Ad BZ) Ao) (Ad (Ax (Ai GD (Br (pv 0) (by rfl)) (pv 1) (An _)) (Ad BZ) Ao))),?_⟩
 symm;exists⟨y,Aq,d,_,_,rfl,e,Ay,Ce,rfl,?_⟩;exists⟨y,Aq,d,_,_,rfl,e,Ay,CW,rfl,?_⟩;exists⟨p,_,ts,rfl,T,fun H1 s1=>?_⟩;exists CT ⋯ ?_;exists⟨y,Aq,d,_,_,rfl,s1 _ _ e,Ay,Ce,rfl,?_⟩;exists CT ⋯ ?_;exact q _ s1
theorem Qn:CI0 3 "Moon" Bc ["self","start","days","many"] (Yt K Bc Aq):=by
 refine ci' ["self","start","days","many"] QT fun nd H vs Q E hr h=>?_;obtain⟨x,dx,d,m,s,bd,bm,td,tm,rfl,hx,hd,hm,g,bs,q⟩:=h;refine⟨_,(Ac (Bh (Ag K5 (Aa (pv 2) (Aa (CP rfl Jo (Cq _ _)) Ab)))) (Ac (Bh (Ag K5 (Aa (pv 3) (Aa (CP rfl Kz (Cq _ _)) Ab)))) (Ac (FW (pv 0) (pv 1) (by rfl)) (Ac (FW (pv 0) (pv 2) (by rfl)) (Ad (FW (pv 0) (pv 3) (by rfl))))))),?_⟩
 symm;exists⟨d,bd,_,td,rfl,hd,g.fd,g.gd,fun H0 s0=>?_⟩;refine⟨m,bm,_,tm,rfl,hm.same s0,g.fm,g.gm,fun H9 s9=>?_⟩;have s09:=s0.trans s9;have hx:=s09 _ _ hx;have hd:=hd.same s09;have hm:=hm.same s09;have dnx:d≠x:=by
  obtain⟨_,_,e,_⟩:=hd.ex;exact Hj e hx (by intro z;injection z with _ _ z;cases z)
 have mnx:m≠x:=by
  obtain⟨_,_,e,_⟩:=hm.ex;exact Hj e hx (by intro z;injection z with _ _ z;cases z)
 symm;refine⟨x,Bc,dx,[],rfl,hx,Cg,JH,nofun,?_⟩;have k1:But x H9 (upd H9 x (.ins Bc dx (De "start" (.int s) []))):=But.upd;have x1:upd H9 x (.ins Bc dx (De "start" (.int s) [])) x=some (.ins Bc dx [("start",.int s)]):=Am;generalize upd H9 x (.ins Bc dx (De "start" (.int s) []))=H1 at k1 x1 ⊢;symm;refine⟨x,Bc,dx,_,rfl,x1,Cg,Ea,(by show 1<1000;decide),?_⟩;have k2:But x H1 (upd H1 x (.ins Bc dx (De "days" (.ref d) [("start",.int s)]))):=But.upd;have x2:upd H1 x (.ins Bc dx (De "days" (.ref d) [("start",.int s)])) x=some (.ins Bc dx [("start",.int s),("days",.ref d)]):=Am;generalize upd H1 x (.ins Bc dx (De "days" (.ref d) [("start",.int s)]))=H2 at k2 x2 ⊢;symm;refine⟨x,Bc,dx,_,rfl,x2,Cg,EY,(by show 2<1000;decide),?_⟩;have k3:But x H2 (upd H2 x (.ins Bc dx (De "many" (.ref m) [("start",.int s),("days",.ref d)]))):=But.upd;have x3:upd H2 x (.ins Bc dx (De "many" (.ref m) [("start",.int s),("days",.ref d)])) x=some (.ins Bc dx (moF s d m)):=Am;generalize upd H2 x (.ins Bc dx (De "many" (.ref m) [("start",.int s),("days",.ref d)]))=H3 at k3 x3 ⊢;have k03:But x H9 H3:=fun y o hy h=>k3 y o hy (k2 y o hy (k1 y o hy h));symm;refine q _ (fun y o hy h=>k03 y o hy (s09 _ _ h)) ⟨⟨dx,d,m,x3,hd.butX hx .ins dnx k03,hm.butX hx .ins mnx k03⟩,g,bs⟩
theorem Mx:CM0 3 Bc "year_start" ["self","year"] (xK K Bc Aq):=by
 refine cm' ["self","year"] Lw fun nd H vs Q E hr h=>?_;obtain⟨x,n,s,bd,bm,td,tm,rfl,S,bn,q⟩:=h;obtain⟨dx,d,m,hx,D,M⟩:=S.ex;obtain⟨d1,f1,e1,l1⟩:=D.meth;obtain⟨d2,f2,e2,l2⟩:=M.meth;obtain⟨d4,p4,e4,T4⟩:=M.ex;have g:=S.gd;exists⟨_,(Ad (Al (Af Bm (Br (pv 0) (by rfl)) (Ec DW Ay (Br (pv 0) (by rfl)) (Aa (Ec DW Ay (Br (pv 0) (by rfl)) (Aa (pv 1) Ab)) Ab))))),?_⟩;exists⟨x,Bc,dx,_,_,rfl,hx,Cg,JH,rfl,?_⟩;exists⟨x,Bc,dx,_,_,rfl,hx,Cg,Ea,rfl,?_⟩;exists⟨d,d1,f1,rfl,e1,l1.2.2.1,?_⟩;exists⟨x,Bc,dx,_,_,rfl,hx,Cg,EY,rfl,?_⟩;exists⟨m,d2,f2,rfl,e2,l2.2.2.1,?_⟩;refine⟨m,p4,d4,n,_,tm,_,rfl,e4,rfl,rfl,T4,M.gd.b0,M.gd.b1,bn.mono nofun,fun H1 s1=>?_⟩;obtain⟨d3,p3,e3,T3⟩:=(D.same s1).ex;symm;exists⟨d,p3,d3,_,_,td,_,rfl,e3,rfl,rfl,T3,D.gd.b0,D.gd.b1,(yG g.okm M.gd.b0 M.gd.b1 g.fwm bn).mono nofun,fun H2 s2=>?_⟩;exact q _ (s1.trans s2)
theorem Uh:CM0 3 Bc "lengths" ["self","year"] (fB K Bc Aq):=by
 refine cm' ["self","year","first"] Rn fun nd H vs Q E hr h=>?_;obtain⟨x,n,s,bd,bm,td,tm,rfl,S,bn,q⟩:=h;obtain⟨dx,d,m,hx,D,M⟩:=S.ex;obtain⟨d2,f2,e2,l2⟩:=M.meth;obtain⟨d4,p4,e4,T4⟩:=M.ex;have g:=S.gd;have a0:=d8 g.okm g.fm n;have a1:=sY g.okm g.fwm (b:=bm) n;have gm:=g.gm;refine⟨_,(Ac (Aj 2 (Ec DW Ay (Br (pv 0) (by rfl)) (Aa (pv 1) Ab)))
  (Ad (Al (Fy rfl (Dq ["self","year","first"] ["self","year","first"] rfl rfl (by with_unfolding_all rfl) ∅ rfl ∅ rfl ∅ (by walk_at"fm") (by with_unfolding_all rfl) (by with_unfolding_all rfl)) (Km rfl G9 (Aa (Ec Jh Ay (Br (pv 0) (by rfl)) (Aa (pv 1) Ab)) Ab)) (fun _ _ _ _=>Ds) (fun _ _ _ _=>(Ec (ta:=yZ K (Gp 1) (Str.ofString "days")) Jh Ay (Br (ta:=Gp 1) (pv 1) (by rfl)) (Aa (Af Bm (pv 3) (pv 0)) Ab))))))),?_⟩
 symm;exists⟨x,Bc,dx,_,_,rfl,hx,Cg,EY,rfl,?_⟩;exists⟨m,d2,f2,rfl,e2,l2.2.2.1,?_⟩;refine⟨m,p4,d4,n,_,tm,_,rfl,e4,rfl,rfl,T4,M.gd.b0,M.gd.b1,bn.mono nofun,fun H1 s1=>?_⟩;have hx1:=s1 _ _ hx;have M1:=M.same s1;have D1:=D.same s1;have bu:Bt 386 (UP bm tm n):=yG g.okm M.gd.b0 M.gd.b1 g.fwm bn;obtain⟨d3,f3,e3,l3⟩:=M1.meth;symm;exists Fj (Xd ?_);exists⟨x,Bc,dx,_,_,rfl,hx1,Cg,EY,rfl,?_⟩;exists⟨m,d3,f3,rfl,e3,l3.2.1,?_⟩;refine⟨m,n,_,tm,rfl,M1,bn.mono nofun,fun H2 s2=>?_⟩;have hx2:=s2 _ _ hx1;have D2:=D1.same s2;refine⟨_,rfl,⋯,⋯,?_⟩;refine IK RG (by rw[jp,vc];exact Dz ⋯) (fun E i ys H3=>H3 E=some (.lst ys)/\Az H2 H3/\ys=((List.range i).map fun j:Nat=>AT bd td (UP bm tm n+(j:Int))).map V.int) (fun E hE=>⟨Am,Ar hE _,rfl⟩)
  (fun E i ys H3 _ ⟨h1,_,h3⟩=>⟨h1,by rw[h3,jp,jp,vc];exact qq _,trivial⟩) (fun E i v ys H3 hE hv ⟨h1,h2,h3⟩=>?_) (fun E ys H3 hE ⟨h1,h2,h3⟩=>?_)
 ·rw[xo] at hv;obtain⟨j,hj,rfl⟩:=kq.mp hv;have jl:j<(AT bm tm n).toNat:=jj2.mp (zk hj);obtain rfl:j=i:=by
   have:=qv.mp hj;obtain⟨_,e⟩:=this;rw[List.getElem_range] at e;exact e.symm
  have D3:=D2.same h2;obtain⟨d5,f5,e5,l5⟩:=D3.meth;refine Hn (Fe ?_);rw[jq1];symm;exists⟨x,Bc,dx,_,_,rfl,h2 _ _ hx2,Cg,Ea,rfl,?_⟩;exists⟨d,d5,f5,rfl,e5,l5.2.1,?_⟩;refine⟨d,_,_,td,rfl,D3,(bu.add ((show Bt 64 (j:Int) from CK ⋯ ⋯ nofun).mono (show 64<=386 by decide))).mono (show 387<=400 by decide),fun H4 s4=>?_⟩;refine⟨s4 _ _ h1,Am,Fb hE (h2.trans s4),?_⟩;rw[h3,jm4,vk,vk];rfl
 ·rw[jp,vc] at h3;subst h3;exact q E H3 ((s1.trans s2).free hE) ((s1.trans s2).trans h2) h1
theorem YS:CM0 3 Bc "cycle" ["self"] (nH K Bc Aq):=by
 refine cm' ["self","years","months","times"] XS fun nd H vs Q E hr h=>?_;obtain⟨x,s,bd,bm,td,tm,rfl,S,q⟩:=h;obtain⟨dx,d,m,hx,D,M⟩:=S.ex;obtain⟨d1,f1,e1,l1⟩:=D.meth;obtain⟨d2,f2,e2,l2⟩:=M.meth;obtain⟨d4,p4,e4,T4⟩:=M.ex;have g:=S.gd;obtain⟨Pm0,Pm1,Pmd⟩:=Q0 g.okm g.fwm;obtain⟨Pd0,Pd1,Pdd⟩:=Q0 g.okd g.fwd;have M0:=Yb (base:=bm) g.okm g.fm Pm0;have MA:=rY (b:=bm) g.okm M.gd.b0 M.gd.b1 g.fwm (k:=PER tm) (K:=PER tm) ⋯ ⋯;refine⟨_,(Ac (Aj 1 (Cu Fz Ay (Br (pv 0) (by rfl)))) (Ac (Aj 2 (Ec DW Ay (Br (pv 0) (by rfl)) (Aa (pv 1) Ab))) (Ac (Aj 3 (Af Bg (Cu Fz Ay (Br (pv 0) (by rfl))) (Ag Ol (Aa (Cu Fz Ay (Br (pv 0) (by rfl))) (Aa (pv 2) Ab))))) (Ad (Al (BJ (Aa (Af Ca (pv 1) (pv 3)) (Aa (Ec DW Ay (Br (pv 0) (by rfl)) (Aa (Af Ca (pv 2) (pv 3)) Ab)) Ab)))))))),?_⟩
 symm;exists⟨x,Bc,dx,_,_,rfl,hx,Cg,EY,rfl,?_⟩;exists⟨m,d2,f2,rfl,e2,l2.2.2.2,?_⟩;exists⟨m,_,tm,rfl,M,?_⟩;exists⟨x,Bc,dx,_,_,rfl,hx,Cg,EY,rfl,?_⟩;exists⟨m,d2,f2,rfl,e2,l2.2.2.1,?_⟩;refine⟨m,p4,d4,_,_,tm,_,rfl,e4,rfl,rfl,T4,M.gd.b0,M.gd.b1,CK ⋯ ⋯ nofun,fun H1 s1=>?_⟩;have hx1:=s1 _ _ hx;have D1:=D.same s1;obtain⟨d5,f5,e5,l5⟩:=D1.meth;have eT:moT td bm tm=PER td/(Int.gcd (PER td) (UP bm tm (PER tm)):Int):=rfl;generalize hM:UP bm tm (PER tm)=MM at*
 symm;exists⟨x,Bc,dx,_,_,rfl,hx1,Cg,Ea,rfl,?_⟩;exists⟨d,d5,f5,rfl,e5,l5.2.2.2,?_⟩;exists⟨d,_,td,rfl,D1,?_⟩;exists⟨x,Bc,dx,_,_,rfl,hx1,Cg,Ea,rfl,?_⟩;exists⟨d,d5,f5,rfl,e5,l5.2.2.2,?_⟩;exists⟨d,_,td,rfl,D1,?_⟩;refine⟨_,_,rfl,CK ⋯ ⋯ nofun,(bt_of ⋯ ⋯).mono nofun,fun H2 s2=>?_⟩;have g0:=Ja (b:=MM) Pd0;have g1:=X7 (b:=MM) Pd0;symm;refine Dn (G7 g0 ⋯) ?_;rw[<-eT];have t0:0<=moT td bm tm:=by rw[eT];exact jh0 ⋯ ⋯
 have t1:moT td bm tm<=PER td:=by rw[eT];exact ji5 _ ⋯
 generalize moT td bm tm=T at*
 have D2:=D1.same s2;have hx2:=s2 _ _ hx1;obtain⟨d6,f6,e6,l6⟩:=D2.meth;obtain⟨d7,p7,e7,T7⟩:=D2.ex;have bM:Bt 200 MM:=bt_of ⋯ ⋯;have bT:Bt 64 T:=CK ⋯ ⋯ nofun;symm;exists Dn ⟨64,64,CK ⋯ ⋯ nofun,bT,nofun⟩ ?_;exists⟨x,Bc,dx,_,_,rfl,hx2,Cg,Ea,rfl,?_⟩;exists⟨d,d6,f6,rfl,e6,l6.2.2.1,?_⟩;refine Dn ⟨200,64,bM,bT,nofun⟩ ?_;exists⟨d,p7,d7,_,_,td,_,rfl,e7,rfl,rfl,T7,D.gd.b0,D.gd.b1,(bM.mul bT).mono nofun,fun H3 s3=>?_⟩;refine⟨two,fun c hc=>?_⟩;exact q _ _ ((s1.trans s2).trans (s3.trans (Ar hc _))) Am
theorem Qf:C0 2 "refuse_wanted" ["month","day","step"] tV:=by
 refine co' ["month","day","step"] QH (len:=by intro _ _ _ _ h;obtain⟨m,d,st,rfl,_⟩:=h;cases m<;>cases d<;>rfl) fun nd H vs Q E hr h=>?_;obtain⟨m,d,st,rfl,m0,d0,st1,q⟩:=h;refine⟨_,(Ac (Do (Ax (Ai fu (pv 0) G4 (An _)) (Ad (Bh (Ag CN (Aa (pv 0) Ab)))) Ao)) (Ac (Ax (Ai BW (pv 1) Ae (An _)) (Ad BZ) Ao) (Ad (Bh (Ag CN (Aa (pv 2) Ab)))))),?_⟩
 symm;refine DG (fun Z' H'=>H'=H/\Z'=[some (oI m),some (oI d),some (.int st)]) ?_ ?_
 ·symm;exists⟨rfl,?_⟩;cases m with
  | none=>
   exists Eg ?_;exact⟨rfl,rfl⟩
  | some i=>
   exists Fe ?_;exact⟨i,rfl,m0 i rfl,⟨rfl,rfl⟩⟩
 rintro Z' H' ⟨rfl,rfl⟩;cases d with
 | none=>
  symm;exists CT (fun e=>nomatch e) ?_;exact⟨st,rfl,st1,q⟩
 | some i=>
  symm;exists CT (fun e=>d0 (yk some (V.int.inj e))) ?_;exact⟨st,rfl,st1,q⟩
theorem Qi:C0 1 "days_of_month" ["first","length","day"] uP:=by
 refine co' ["first","length","day","place"] QM (len:=by intro _ _ _ _ h;obtain⟨f,n,d,rfl,_⟩:=h;cases d<;>rfl) fun nd H vs Q E hr h=>?_;obtain⟨f,n,d,rfl,n0,n1,q⟩:=h;refine⟨_,(Ac (Ax (Ai J2 (pv 2) G4 (An _)) (Ad (Al (cL rfl rfl lR rfl G9 (Aa (pv 0) (Aa (Af Bm (pv 0) (pv 1)) Ab))))) Ao) (Ac (Do (Aj 3 (Dv (Ai GD (pv 2) Ae (An _)) (Af Dh (pv 2) Ae) (Af Bm (pv 1) (pv 2))))) (Ac (Ax (PW.pt (Hh (Ai FT (pv 3) Ae (An _)) (GK (Ai xV (pv 3) (pv 1) (An _))))) (Ad (Al (Du Ab))) Ao) (Ad (Al (Du (Aa (Af Bm (pv 0) (pv 3)) Ab))))))),?_⟩
 cases d with
 | none=>
  symm;exists⟨rfl,?_⟩;exists Fe ?_;refine⟨f,f+n,rfl,⋯,⋯,fun l hl=>?_⟩;refine q l _ hl (Ar hl _) ?_;rw[Am,show f+n-f=n by lia];unfold YD;rw[va];rfl
 | some i=>
  rw[show oI (some i)=V.int i from rfl];symm;exists⟨rfl,?_⟩;exists Eg ?_;refine DG (fun Z' H'=>H'=H/\Z'=[some (.int f),some (.int n),some (.int i),some (.int (plD n i))]) ?_ ?_
  ·symm;refine Cd (fun h=>?_) (fun h=>?_)
   ·rw[show plD n i=i-1 from xy h];symm;exact⟨rfl,rfl⟩
   ·rw[show plD n i=n+i from xp h];symm;exact⟨rfl,rfl⟩
  rintro Z' H' ⟨rfl,rfl⟩;simp only[YD] at q;generalize plD n i=pl at*
  symm;refine Cd (fun h1=>Fe ?_) (fun h1=>?_)
  ·rw[xy (.inl h1)] at q;symm;refine⟨ke _,fun l hl=>?_⟩;exact q l _ hl (Ar hl _) Am
  symm;refine Cd (fun h2=>?_) (fun h2=>?_)
  ·rw[xy (.inr h2)] at q;symm;refine⟨ke _,fun l hl=>?_⟩;exact q l _ hl (Ar hl _) Am
  ·rw[xp (fun z=>z.elim h1 h2)] at q;symm;refine⟨(by show 1<=sizeLine;decide),fun l hl=>?_⟩;exact q l _ hl (Ar hl _) Am
theorem UV:C0 4 "days_of_year" ["calendar","year","month","day"] (uO K Bl Bc Aq):=by
 refine co' ["calendar","year","month","day","told","first","number","length"] Rj (len:=by intro _ _ _ _ h;obtain⟨x,d,y,m,i,rfl,_⟩:=h;cases m<;>cases i<;>rfl) fun nd H vs Q E hr h=>?_;obtain⟨x,d,y,m,i,rfl,S,by',q⟩:=h;have g:=FQ.good S;have ln:=Bq.len g y;have lm:=Bq.mem g y;have nn:∀n∈d.L y,0<=n:=fun n hn=>(lm n hn).1;refine⟨_,(Ac (Aj 4 (Du Ab)) (Ac (Aj 5 (SX (k:=3) (Ie.cons Ci Ot nofun (Ie.cons Cg Mx nofun Ie.nil)) (hr.mono nofun) (pv 0) (Aa (pv 1) Ab))) (Ac (Aj 6 Ae) (Ac (Hu PassesOwn.never rfl (Gu (SX (k:=3) (Ie.cons Ci Vb nofun (Ie.cons Cg Uh nofun Ie.nil)) (hr.mono nofun) (pv 0) (Aa (pv 1) Ab))) (CQ (i:=7) nd rfl (by walk_at"o")) (Ac (Do (Ax (PW.pt (Hh (Ai J2 (pv 2) G4 (An _)) (GK (Ai BW (pv 2) (pv 6) (An _))))) (Ad (Bh (GQ Jn jd9 je0 JD (pv 4) (Aa (Ag Qi (Aa (pv 5) (Aa (pv 7) (Aa (pv 3) Ab)))) Ab)))) Ao)) (Ac (Aj 5 (Af Bm (pv 5) (pv 7))) (Ad (Aj 6 (Af Bm (pv 6) Ae)))))) (Ad (Al (pv 4))))))),?_⟩
 symm;refine⟨ke _,fun t0 ht0=>?_⟩;have s1:=Ar ht0 (.lst []);have e1:upd H t0 (.lst []) t0=some (.lst []):=Am;have S1:=FQ.same S s1;generalize upd H t0 (.lst [])=H1 at s1 e1 S1 ⊢;symm;obtain⟨C,dx,fs,sp,mem,e,lk,use⟩:=S1.ys;exists⟨x,C,dx,fs,sp,mem,rfl,e,lk,?_⟩;refine use S1 by' fun H2 s2=>?_
 have S2:=FQ.same S1 s2;have e2:=s2 _ _ e1;have s12:=s1.trans s2;symm;exists R0 (Lz ?_);obtain⟨C',dx',fs',sp',mem',e',lk',use'⟩:=S2.le;exists⟨x,C',dx',fs',sp',mem',rfl,e',lk',?_⟩;refine use' S2 by' fun l H3 hl s3 t3=>?_
 have e3:=s3 _ _ e2;have s13:=s12.trans s3;have lt:l≠t0:=fun z=>by rw[z,e2] at hl;cases hl
 generalize d.L y=L at*
 generalize d.Y y=Y0 at*
 refine⟨l,rfl,⟨_,SqL.of t3⟩,JF (xs:=L.map V.int) (fun k Z' H'=>An4 (Az H H') (H' l=some (.lst (L.map V.int))) (k<=L.length) (∃(v:Option V),H' t0=some (.lst ((yrL (L.take k) Y0 1 m i).map V.int))/\Z'=[some (.ref x),some (.int y),some (oI m),some (oI i),some (.ref t0),some (.int (Y0+PS L k)),some (.int (1+(k:Int))),v])) ⟨s13,t3,ke _,none,e3,by rw[wU,jd6];rfl⟩ ?_ ?_ ?_⟩
 ·rintro k Z' H' hk ⟨_,t,_⟩;exact SqL.of t
 ·rintro k v0 Z' H' hv ⟨sH,tl,k1,v,td,rfl⟩;rw[xo] at hv;obtain⟨n,hn,rfl⟩:=kq.mp hv;have kl:k<L.length:=(qv.mp hn).1;have hnm:=lm n (zk hn);have e5:=lV hn Y0 m i;have eP:PS L (k+1)=PS L k+n:=by
   rw[iJ kl,ja0,hn];rfl
  have l1:=ao (L.take k) Y0 1 m i fun n hn=>nn n (List.mem_of_mem_take hn);have l2:=Wt (M:=1006) lm;have l3:=gY (f:=Y0+PS L k) hnm.1 i;have l4:(L.take k).sum<=L.sum:=by
   have:=iK nn (show k<=L.length by lia) (qq _)
   rwa [ABY] at this
  generalize yrL (L.take k) Y0 1 m i=ds at*
  symm;refine DG (fun Z' H'=>An4 (Az H H') (H' l=some (.lst (L.map V.int))) (H' t0=some (.lst ((yrL (L.take (k+1)) Y0 1 m i).map V.int))) (Z'=[some (.ref x),some (.int y),some (oI m),some (oI i),some (.ref t0),some (.int (Y0+PS L k)),some (.int (1+(k:Int))),some (.int n)])) ?_ ?_
  ·have ext:(m=none\/m=some (1+(k:Int)))->∀(l5:Addr) (H5:Hp) (s5:Az H' H5) (t5:H5 l5=some (.lst ((YD (Y0+PS L k) n i).map V.int))) {Q2:VK},(∀(H4:Hp),Az H H4->H4 l=some (.lst (L.map V.int))->H4 t0=some (.lst ((yrL (L.take (k+1)) Y0 1 m i).map V.int))->Q2 .non H4)->Qy (.ref t0) [.ref l5] H5 Q2:=fun hm l5 H5 s5 t5 {Q2} hQ=>by
    have td5:=s5 _ _ td;have tl5:=s5 _ _ tl;refine⟨t0,l5,_,_,rfl,rfl,td5,t5,?_,?_⟩
    ·rw[jp,jp,sizeLine_eq];lia
    ·rw[<-vk];refine hQ _ (fun r o ho=>?_) ?_ ?_
     ·rw[BK fun z=>by rw[z,ht0] at ho;cases ho];exact s5 _ _ (sH _ _ ho)
     ·rw[BK lt];exact tl5
     ·rw[Am,e5,xy hm]
   have skip:¬(m=none\/m=some (1+(k:Int)))->Az H H'/\H' l=some (.lst (L.map V.int))/\H' t0=some (.lst ((yrL (L.take (k+1)) Y0 1 m i).map V.int)):=fun hm=>⟨sH,tl,by rw[e5,xp hm,yy];exact td⟩;cases m with
   | none=>
    symm;exists⟨rfl,?_⟩;exists Fe (Fe ?_);exists Ny rfl td ?_;refine⟨_,n,i,rfl,hnm.1,⋯,fun l5 H5 h5 s5 t5=>?_⟩;refine GJ ?_;refine ext (.inl rfl) l5 H5 s5 t5 fun H4 a1 a2 a3=>?_;exact⟨a1,a2,a3,rfl⟩
   | some j=>
    symm;exists⟨rfl,?_⟩;exists Eg ?_;refine Cd (fun z=>?_) (fun z=>?_)
    ·have z':some j=some (1+(k:Int)):=yk some (V.int.inj z);symm;exists Ny rfl td ?_;refine⟨_,n,i,rfl,hnm.1,⋯,fun l5 H5 h5 s5 t5=>?_⟩;refine GJ ?_;refine ext (.inr z') l5 H5 s5 t5 fun H4 a1 a2 a3=>?_;exact⟨a1,a2,a3,rfl⟩
    ·symm;obtain⟨a1,a2,a3⟩:=skip (fun w=>by rcases w with w | w;cases w;exact z (yk V.int (ub w)));exact⟨a1,a2,a3,rfl⟩
  rintro Z' H4 ⟨sH,tl,td,rfl⟩;symm;refine⟨sH,tl,⋯,some (.int n),td,?_⟩;rw[show (1:Int)+((k+1:Nat):Int)=1+(k:Int)+1 by lia,eP,<-Int.add_assoc]<;>rfl
 rintro Z' H' ⟨sH,tl,k1,v,td,rfl⟩;symm;rw[jp,ja6] at td;exact q t0 _ ht0 sH td
theorem nq:Cy ["calendar","month","day","step","rest","cycle","years","size","days","year"] ["calendar","month","day","step","rest"] (BX XQ):=by walk_at"s"
theorem pN{ds:Array Value}(F:Kg K "dated" "dated" XQ f fd ds):F0 5 f fd ["calendar","month","day","step","rest"] (Yu K Bl Bc Aq):=by
 refine F.ok (k:=4) nq (fun h=>?_) fun nd H vs Q E hr h=>?_
 ·obtain⟨x,g,m,i,rfl,_⟩:=h;cases m<;>cases i<;>rfl
 obtain⟨x,g,m,i,rfl,S,sm,m0,i0,q⟩:=h;have gd:=FQ.good S;have Y0:=sm.y0;have Y1:=sm.y1;have D0:=sm.d0;have D1:=sm.d1;refine⟨_,(Ac (Bh (Ag Qf (Aa (pv 1) (Aa (pv 2) (Aa (pv 3) Ab))))) (Ac (Aj 5 (CG (k:=3) (Ie.cons Ci aU nofun (Ie.cons Cg YS nofun Ie.nil)) (pv 0))) (Ac (Aj 6 (Ag KQ (Aa (pxT 5) (Aa (pv 3) Ab)))) (Ac (Aj 7 (Af Ca (Af Bg (pv 6) (pxT 5)) (pxT 5))) (Ac (Bh (Ag Fl (Aa (pv 7) Ab))) (Ac (Aj 8 (Du Ab)) (Ac (Hu PassesOwn.never rfl (Vq rfl G9 (Aa (Af Be (pv 4) (pv 3)) (Aa (pv 6) (Aa (pv 3) Ab)))) (CQ (i:=9) nd rfl (by walk_at"o")) (Ad (Bh (GQ Jn jd9 je0 JD (pv 8) (Aa (Ag UV (Aa (pv 0) (Aa (pv 9) (Aa (pv 1) (Aa (pv 2) Ab))))) Ab))))) (Ad (Al (Ag Lb (Aa (pv 7) (Aa (pv 8) Ab)))))))))))),?_⟩
 symm;exists⟨m,i,1,rfl,m0,i0,nofun,?_⟩;obtain⟨C,dx,fs,sp,mem,e,lk,use⟩:=S.cyc;refine⟨x,C,dx,fs,sp,mem,rfl,e,lk,?_⟩;refine use S fun c H1 s1 t1=>?_;clear C dx fs sp mem e lk use;have S1:=FQ.same S s1;generalize hY:g.cy.1=Y at*
 generalize hD:g.cy.2=D at*
 symm;exists Aw (SqT.of t1) at0 ?_;refine⟨_,_,rfl,⋯,⋯,CK ⋯ ⋯ nofun,CK ⋯ ⋯ nofun,fun H2 s2=>?_⟩;have lc:Bj Y 1=Y:=by rw[Vx ⋯ nofun];exact Xy nofun ⋯ (Int.one_dvd Y)
 rw[lc];symm;exists Aw (SqT.of (s2 _ _ t1)) at0 ?_;exists Dn (G7 ⋯ ⋯) ?_;exists Aw (SqT.of (s2 _ _ t1)) at1 ?_;rw[Int.ediv_self ⋯];exists K8 ?_;rw[jg7];exists⟨_,rfl,⋯,?_⟩;refine⟨ke _,fun l hl=>?_⟩;have hlH:H l=none:=(s1.trans s2).free hl;refine fresh hl fun H3 s3 t3=>?_;have S3:=FQ.same (FQ.same S1 s2) s3;symm;exists R0 (fO ?_);obtain⟨n,hn⟩:∃n:Nat,(n:Int)=Y:=⟨Y.toNat,⋯⟩;refine⟨0,Y,1,rfl,⋯,⋯,RW ⋯ ⋯ ⋯ ⋯ ⋯ ⋯,n,by rw[MF nofun,xy ⋯];lia,Tc (fun k Z' H'=>An3 (Az H H') (k<=n) (∃(v:Option V),An4 ((dtL g m i k).length<=30000*k) (H' l=some (.lst ((dtL g m i k).map V.int))) (FQ K Bl Bc Aq H' x g) (Z'=[some (.ref x),some (oI m),some (oI i),some (.int 1),some (.int 0),some (.ref c),some (.int Y),some (.int D),some (.ref l),v]))) ⟨s1.trans (s2.trans s3),⋯,none,qq _,t3,S3,rfl⟩ ?_ ?_⟩
 ·rintro k Z' H' hk ⟨sH,k1,v,dl,tl,SH,rfl⟩;have ek:(0:Int)+(k:Int)*1=(k:Int):=⋯
  have ln:=Bq.len gd (k:Int);have lm:=Bq.mem gd (k:Int);have le:=ao (g.L (k:Int)) (g.Y (k:Int)) 1 m i fun n hn=>(lm n hn).1;have l2:=Wt (M:=1006) lm;have lN:(dtL g m i (k+1)).length<=30000*(k+1):=by
   show(dtL g m i k++_).length<=_;rw[zh];lia
  symm;exists Ny rfl tl ?_;rw[ek];refine⟨x,g,_,m,i,rfl,SH,CK ⋯ ⋯ nofun,fun l5 H5 h5 s5 t5=>?_⟩;refine GJ ?_;have tl5:=s5 _ _ tl;refine⟨l,l5,_,_,rfl,rfl,tl5,t5,?_,?_⟩
  ·rw[jp,jp,sizeLine_eq,<-zh];exact zv lN ⋯
  ·rw[<-vk];refine⟨fun u o ho=>?_,⋯,_,lN,Am,FQ.but (FQ.same SH s5) tl5 But.upd,rfl⟩;rw[BK fun z=>by rw[z,hlH] at ho;cases ho];exact s5 _ _ (sH _ _ ho)
 ·rintro Z' H' ⟨sH,_,v,dl,tl,SH,rfl⟩;symm;refine⟨l,_,D,rfl,SqL.of tl,⋯,⋯,fun p b H6 s6 t6 B=>?_⟩;exact q p b H6 (sH.trans s6) t6 (by rw[show Y.toNat=n by lia];exact B)
theorem wF:C0 5 "dated" ["calendar","month","day","step","rest"] (Yu K Bl Bc Aq):=wA (st:=XQ) (ds:= #[.none,.none,(.int 1 Yl),(.int 0 Yk)]) gX gG (by walk_at"dg") (fun _ _ _ _ _ _ _ us hl=>by obtain⟨_,_,_,_,_,rfl⟩:=AAf hl;exact⟨_,rfl,rfl⟩) pN
theorem ACT:Cy ["turn","day"] ["turn","day"] (BX zV):=by walk_at"s"
theorem ACo(F:Fun K "on" "on" zV f fd):F0 1 f fd ["turn","day"] (ABz K):=by
 refine F.ok (k:=0) ACT (fun h=>?_) fun nd H vs Q E hr h=>?_
 ·obtain⟨a,n,d,b,rfl,_⟩:=h;rfl
 obtain⟨a,n,d,b,rfl,hS,h0,q⟩:=h;exists⟨_,(Ad (Al (Ed BW (Af Hv (Af LC (pxT 0) (Af Be (pv 1) (pxT 0))) Ae) Ae (An _)))),?_⟩;exists Aw hS at1 ?_;refine Aw hS at0 ?_;exists Dn h0 ?_;exists Dn (show (0:Int)<=d%n from qg d ⋯) ?_;rw[wL];exact q
theorem aJ:C0 1 "on_rounds" ["turn","day"] (ABz K):=co (st:=zV) (by walk_at"g") (by walk_at"b") fun F=>ACo F
theorem Ng:Cy ["self","kept","made_of","words"] ["self","kept","made_of","words"] (BX Hc):=by walk_at"s"
theorem OD{ds:Array Value}(F:Kg K "__init__" "Rule.__init__" Hc f fd ds):F0 1 f fd ["self","kept","made_of","words"] (W2 K Ba):=by
 refine F.ok (k:=0) Ng (fun h=>?_) fun nd H vs Q E hr h=>?_
 ·obtain⟨x,p,pm,pw,C,dx,rfl,_⟩:=h;rfl
 obtain⟨x,p,pm,pw,C,dx,rfl,hx,R,q⟩:=h;refine⟨_,(Ac (FW (pv 0) (Dv (Ai J2 (pv 1) G4 (An _)) (BJ (Aa Ae (Aa Ae Ab))) (pv 1)) (by rfl)) (Ac (FW (pv 0) (Dv (Ai J2 (pv 2) G4 (An _)) (BJ Ab) (pv 2)) (by rfl)) (Ad (FW (pv 0) (Dv (Ai J2 (pv 3) G4 (An _)) (BJ (Aa Ah Ab)) (pv 3)) (by rfl))))),?_⟩
 symm;symm;exists⟨rfl,fQ (CT (fun e=>nomatch e) ?_)⟩;exists⟨x,C,dx,[],rfl,hx,R.cl,R.k,nofun,?_⟩;symm;exists⟨rfl,fQ (CT (fun e=>nomatch e) ?_)⟩;exists⟨x,C,dx,_,rfl,Am,R.cl,R.m,(show 1<1000 by decide),?_⟩;symm;exists⟨rfl,fQ (CT (fun e=>nomatch e) ?_)⟩;exists⟨x,C,dx,_,rfl,Am,R.cl,R.w,(show 2<1000 by decide),?_⟩;refine q _ (fun y o ne e=>?_) Am;rw[BK ne,BK ne,BK ne];exact e
theorem Bv:ABc P w K mg base 1 "Rule" ["self","kept","made_of","words"] (W2 K Ba):=rA (st:=Hc) (ds:= #[.none,.none,.none]) gX gG (by walk_at"k") (by walk_at"k") (by walk_at"k") (by walk_at"db") (fun _ _ _ _ _ _ _ us hl=>by obtain⟨_,_,_,_,rfl⟩:=ACv hl;exact⟨_,rfl,rfl⟩) OD
theorem XC:Cy ["self"] ["self"] (BX Jy):=by walk_at"s"
theorem Xo{k d:Nat}(F:Fun K "turn" "Rule.turn" Jy f fd)(cr:Ie P w K mg base CX0 k "turn" ["self"] (CL.map fun C=>(C,(spR (Kl K Ba CL)) d)))(hk:1<=k):F0 (k+1) f fd ["self"] ((spR (Kl K Ba CL)) (d+1)):=by
 refine F.ok (k:=k) XC (fun h=>?_) fun nd H vs Q E hr h=>?_
 ·obtain⟨_,x,n,b,rfl,_⟩:=h;rfl
 obtain⟨_,x,n,b,rfl,R,q⟩:=h;obtain⟨C,dx,p,pm,pw,hC,rc,hx,hp⟩:=R.ex;exists⟨_,(Ad (Al (Br (pv 0) (by rfl)))),?_⟩;exact⟨x,C,dx,_,_,rfl,hx,rc.cl,rc.k,rfl,q p hp⟩
theorem Bx:Ie P w K mg base CX0 2 "turn" ["self"] (CL.map fun C=>(C,(spR (Kl K Ba CL)) 1)):=Rx (k0:=1) (Cs:=CL) (sp:=(spR (Kl K Ba CL))) (st:=Jy) (all_cons ⟨WL,by walk_at"h"⟩ (all_cons ⟨Zw,by walk_at"h"⟩ (all_cons ⟨Tn,by walk_at"h"⟩ (all_cons ⟨Pb,by walk_at"h"⟩ (all_cons ⟨WD,by walk_at"h"⟩ (all_cons ⟨Tp,by walk_at"h"⟩ (all_cons ⟨Mq,by walk_at"h"⟩ (all_cons ⟨WK,by walk_at"h"⟩ (all_cons ⟨Mp,by walk_at"h"⟩ (all_cons ⟨PX,by walk_at"h"⟩ (all_cons ⟨Th,by walk_at"h"⟩ (all_cons ⟨PQ,by walk_at"h"⟩ (all_cons ⟨Tj,by walk_at"h"⟩ (all_cons ⟨Ti,by walk_at"h"⟩ (all_cons ⟨WF,by walk_at"h"⟩ (all_cons ⟨Pa,by walk_at"h"⟩ all_nil)))))))))))))))) (by walk_at"b") (fun _ _ _ _ h=>Yq h) (fun d _ _ CL F=>Xo F CL (jc1 _ _)) 1
theorem bL:Cy ["self","day"] ["self","day"] (BX Nm):=by walk_at"s"
theorem cR{k d:Nat}(F:Fun K "on" "Rule.on" Nm f fd)(cr:Ie P w K mg base CX0 k "on" ["self","day"] (CL.map fun C=>(C,(spR (eZ K Ba CL)) d)))(hk:2<=k):F0 (k+1) f fd ["self","day"] ((spR (eZ K Ba CL)) (d+1)):=by
 refine F.ok (k:=k) bL (fun h=>?_) fun nd H vs Q E hr h=>?_
 ·obtain⟨_,x,n,d,b,rfl,_⟩:=h;rfl
 obtain⟨_,x,n,d,b,rfl,R,q⟩:=h;obtain⟨C,dx,p,pm,pw,hC,rc,hx,hp⟩:=R.ex;exists⟨_,(Ad (Al (Ag aJ (Aa (Br (pv 0) (by rfl)) (Aa (pv 1) Ab))))),?_⟩;exists⟨x,C,dx,_,_,rfl,hx,rc.cl,rc.k,rfl,?_⟩;exact⟨p,n,d,b,rfl,SqT.of hp,R.n0,q⟩
theorem rD:Ie P w K mg base CX0 3 "on" ["self","day"] (CL.map fun C=>(C,(spR (eZ K Ba CL)) 1)):=Rx (k0:=2) (Cs:=CL) (sp:=(spR (eZ K Ba CL))) (st:=Nm) (all_cons ⟨WL,by walk_at"h"⟩ (all_cons ⟨Zw,by walk_at"h"⟩ (all_cons ⟨Tn,by walk_at"h"⟩ (all_cons ⟨Pb,by walk_at"h"⟩ (all_cons ⟨WD,by walk_at"h"⟩ (all_cons ⟨Tp,by walk_at"h"⟩ (all_cons ⟨Mq,by walk_at"h"⟩ (all_cons ⟨WK,by walk_at"h"⟩ (all_cons ⟨Mp,by walk_at"h"⟩ (all_cons ⟨PX,by walk_at"h"⟩ (all_cons ⟨Th,by walk_at"h"⟩ (all_cons ⟨PQ,by walk_at"h"⟩ (all_cons ⟨Tj,by walk_at"h"⟩ (all_cons ⟨Ti,by walk_at"h"⟩ (all_cons ⟨WF,by walk_at"h"⟩ (all_cons ⟨Pa,by walk_at"h"⟩ all_nil)))))))))))))))) (by walk_at"b") (fun _ _ _ _ h=>Yq h) (fun d _ _ CL F=>cR F CL (jc1 _ _)) 1
theorem Ul:CI0 3 "All" Wb ["self"] (ACN K Ba CL Wb 1):=by
 refine ci' ["self"] Ru fun nd H vs Q E hr h=>?_;obtain⟨x,rfl,⟨dx,hx⟩,q⟩:=h;exists⟨_,(Ad (Bh (Dw Bv (Aa (pv 0) (Aa (BJ (Aa Ae (Aa Ae Ab))) (Aa (BJ Ab) (Aa (BJ (Aa Ah Ab)) Ab))))))),?_⟩;refine⟨DY,fun p hp=>?_⟩;refine fresh hp fun H1 s1 t1=>?_;have t1:H1 p=some (.tup [.int 1,.int ((1:Nat):Int)]):=t1;symm;refine⟨(by show 0<=sizeLine;decide),fun pm hpm=>?_⟩;exists fresh hpm fun H2 s2 t2=>?_;refine⟨(by show 1<=sizeLine;decide),fun pw hpw=>?_⟩;refine fresh hpw fun H3 s3 t3=>?_;have s3:=s2.trans s3;have hx3:=(s1.trans s3) _ _ hx;symm;exact⟨x,p,pm,pw,Wb,dx,rfl,hx3,V9,fun H' k e=>q _ H' (k.pre (s1.trans s3)) (Gg (zk (i:=0) rfl) V9 hx3 (s3 _ _ t1) k e nofun nofun nofun) rfl⟩
theorem Vc:CI0 3 "No" lJ ["self"] (ACN K Ba CL lJ 0):=by
 refine ci' ["self"] VL fun nd H vs Q E hr h=>?_;obtain⟨x,rfl,⟨dx,hx⟩,q⟩:=h;exists⟨_,(Ad (Bh (Dw Bv (Aa (pv 0) (Aa (BJ (Aa Ae (Aa Ae Ab))) (Aa (BJ Ab) (Aa (BJ (Aa Ah Ab)) Ab))))))),?_⟩;refine⟨DY,fun p hp=>?_⟩;refine fresh hp fun H1 s1 t1=>?_;have t1:H1 p=some (.tup [.int 1,.int ((0:Nat):Int)]):=t1;symm;refine⟨(by show 0<=sizeLine;decide),fun pm hpm=>?_⟩;exists fresh hpm fun H2 s2 t2=>?_;refine⟨(by show 1<=sizeLine;decide),fun pw hpw=>?_⟩;refine fresh hpw fun H3 s3 t3=>?_;have s3:=s2.trans s3;have hx3:=(s1.trans s3) _ _ hx;symm;exact⟨x,p,pm,pw,lJ,dx,rfl,hx3,Zv,fun H' k e=>q _ H' (k.pre (s1.trans s3)) (Gg (zk (i:=1) rfl) Zv hx3 (s3 _ _ t1) k e nofun nofun nofun) rfl⟩
theorem Ph:C0 1 "each_text" ["step","rest"] ACP:=by
 refine co' ["step","rest","least_rest"] ZR fun nd H vs Q E hr h=>?_;obtain⟨n,r,rfl,n0,n1,q⟩:=h;refine⟨_,(Ac (Aj 2 (Af Be (pv 1) (pv 0))) (Ad (Al (Q4 (Fx Ah (Fx (N5 hr.toN (pv 0)) (Fx Ah (Fx (N5 hr.toN (pv 2)) Xh)))))))),?_⟩
 symm;have m0:=qg r (show n≠0 by lia);have m1:=jv r (show 0<n by lia);have g1:n.natAbs.log2<1920:=ACt ⋯ ⋯;have g2:(r%n).natAbs.log2<1920:=ACt ⋯ ⋯;refine Ry 0 nofun nofun fun l1=>ZX _ l1 nofun rfl g1 fun l2=>Ry _ l2 nofun fun l3=>ZX _ l3 nofun rfl g2 fun l4=>Qx (fits l4 nofun) ?_;refine q _ ?_;rw[J7,J7,J7,J7];have e0:Str.empty.length=0:=∅;have e1:(Str.ofString "each ").length=5:=∅;have e2:(Str.ofString " from ").length=6:=∅;have e3:=J9 g1;have e4:=J9 g2;lia
theorem Qo:CI0 3 "Each" Ow ["self","size","rest"] (ACL K Ba CL Ow):=by
 refine ci' ["self","size","rest","kept"] QV fun nd H vs Q E hr h=>?_;obtain⟨x,n,r,rfl,n0,n1,⟨dx,hx⟩,q⟩:=h;refine⟨_,(Ac (Aj 3 (Ag Lb (Aa (pv 1) (Aa (Du (Aa (pv 2) Ab)) Ab)))) (Ad (Bh (Dw Bv (Aa (pv 0) (Aa (pv 3) (Aa (BJ Ab) (Aa (BJ (Aa (Ag Ph (Aa (pv 1) (Aa (pv 2) Ab))) Ab)) Ab)))))))),?_⟩
 symm;refine⟨(by show 1<=sizeLine;decide),fun l hl=>?_⟩;refine fresh hl fun H0 s0 t0=>?_;have t0:H0 l=some (.lst ([r].map V.int)):=t0;symm;refine⟨l,[r],n,rfl,SqL.of t0,⋯,⋯,fun p b H1 s1 t1 B=>?_⟩;have s1:=s0.trans s1;symm;refine⟨(by show 0<=sizeLine;decide),fun pm hpm=>?_⟩;exists fresh hpm fun H2 s2 t2=>?_;exists⟨n,r,rfl,n0,n1,fun z hz=>?_⟩;refine⟨(by show 1<=sizeLine;decide),fun pw hpw=>?_⟩;refine fresh hpw fun H3 s3 t3=>?_;have s3:=s2.trans s3;have hx3:=(s1.trans s3) _ _ hx;symm;exact⟨x,p,pm,pw,Ow,dx,rfl,hx3,Tg,fun H' k e=>q _ H' (k.pre (s1.trans s3)) (Gg (zk (i:=2) rfl) Tg hx3 (s3 _ _ t1) k e ⋯ ⋯ B.lt) B⟩
theorem K3:C0 1 "wanted_text" ["number"] ABt:=by
 refine co' ["number"] U3 fun nd H vs Q E hr h=>?_;obtain⟨m,rfl,hm,q⟩:=h;refine⟨_,(Ad (Al (Dv (Ai J2 (pv 0) G4 (An _)) Ah (BP BL rfl Cv qh (Aa (pv 0) Ab))))),?_⟩;cases m with
 | none=>
  symm
  try refine Nv ?_
  symm;exists⟨rfl,?_⟩;exists Fe ?_;exact q _ ∅
 | some j=>
  rw[show oI (some j)=V.int j from rfl];symm
  try refine Nv ?_
  symm;exists⟨rfl,?_⟩;exists Eg ?_;exact⟨_,rfl,hm j rfl,q _ (J9 (hm j rfl))⟩
theorem YJ:C0 2 "dated_text" ["name","month","day","step","rest"] ACQ:=by
 refine co' ["name","month","day","step","rest","words"] XN (len:=by intro _ _ _ _ h;obtain⟨z,m,d,rfl,_⟩:=h;cases m<;>cases d<;>rfl) fun nd H vs Q E hr h=>?_;obtain⟨z,m,d,rfl,tzl,hm,hd,q⟩:=h;refine⟨_,(Ac (Aj 5 (Du (Aa Ah (Aa (pv 0) (Aa (Ag K3 (Aa (pv 1) Ab)) (Aa (Ag K3 (Aa (pv 2) Ab)) Ab)))))) (Ac (Do (Ax (Ai GD (pv 3) Ae (An _)) (Ad (Bh (GQ Jn PySem.F.slot_list_append PySem.F.type_list_append Oa (pv 5) (Aa (Ag Ph (Aa (pv 3) (Aa (pv 4) Ab))) Ab)))) Ao)) (Ad (Al (GQ uu PySem.F.slot_str_join PySem.F.type_str_join gC Ah (Aa (pv 5) Ab)))))),?_⟩
 symm;exists⟨m,rfl,hm,fun z1 t1l=>?_⟩;exists⟨d,rfl,hd,fun z2 t2l=>?_⟩;refine⟨four,fun l hl=>?_⟩;refine fresh hl fun H1 s1 e1=>?_;have e1:H1 l=some (.lst (([Str.ofString "date",z,z1,z2]:List Str).map V.str)):=e1;symm;have eb:(Str.ofString " ").length=1:=∅;have e4:(Str.ofString "date").length=4:=∅;refine DG (fun Z' H'=>H'=H1/\Ex5 fun(w0 w1 w2 w3 w4:V)=>Z'=[some w0,some w1,some w2,some w3,some w4,some (.ref l)]) ?_ ?_
 ·symm;exists CT nofun ?_;exact⟨rfl,_,_,_,_,_,rfl⟩
 rintro Z' H2 ⟨rfl,w0,w1,w2,w3,w4,rfl⟩;symm;exists JB ?_;exists⟨rfl,?_⟩;refine⟨_,l,_,rfl,rfl,SqL.of e1,?_,q _ _ s1⟩;rw[eb];show((Str.ofString "date").length+(z.length+(z1.length+(z2.length+0))))+4*1<=_;lia
theorem Lp:Cy ["self","name","calendar","month","day","step","rest","kept"] ["self","name","calendar","month","day","step","rest"] (BX Gz):=by walk_at"s"
theorem Mh{ds:Array Value}(F:Kg K "__init__" "Dated.__init__" Gz f fd ds):F0 6 f fd ["self","name","calendar","month","day","step","rest"] (xM K Ba CL Ji Bl Bc Aq):=by
 refine F.ok (k:=5) Lp (fun h=>?_) fun nd H vs Q E hr h=>?_
 ·obtain⟨x,y,z,g,m,d,rfl,_⟩:=h;cases m<;>cases d<;>rfl
 obtain⟨x,y,z,g,m,d,rfl,tz,S,sm,m0,hm,d0,hd,⟨dx,hx⟩,q⟩:=h;refine⟨_,(Ac (Aj 7 (Ag wF (Aa (pv 2) (Aa (pv 3) (Aa (pv 4) (Aa (pv 5) (Aa (pv 6) Ab))))))) (Ad (Bh (Dw Bv (Aa (pv 0) (Aa (pv 7) (Aa (BJ Ab) (Aa (BJ (Aa (Ag YJ (Aa (pv 1) (Aa (pv 3) (Aa (pv 4) (Aa (pv 5) (Aa (pv 6) Ab)))))) Ab)) Ab)))))))),?_⟩
 symm;exists⟨y,g,m,d,rfl,S,sm,m0,d0,fun p c H1 s1 t1 B=>?_⟩;refine⟨(by show 0<=sizeLine;decide),fun pm hpm=>?_⟩;exists fresh hpm fun H2 s2 t2=>?_;exists⟨z,m,d,rfl,tz,hm,hd,fun zt Hy sy=>?_⟩;refine⟨(by show 1<=sizeLine;decide),fun pw hpw=>?_⟩;refine fresh hpw fun H3 s3 t3=>?_;have s3:=sy.trans s3;have s3:=s2.trans s3;have hx3:=(s1.trans s3) _ _ hx;symm;exact⟨x,p,pm,pw,Ji,dx,rfl,hx3,PP,fun H' k e=>q _ H' (k.pre (s1.trans s3)) (Gg (zk (i:=3) rfl) PP hx3 (s3 _ _ t1) k e (by have:=sm.d0;lia) (by have:=sm.d1;lia) B.lt) B⟩
theorem Ox:CI0 6 "Dated" Ji ["self","name","calendar","month","day","step","rest"] (xM K Ba CL Ji Bl Bc Aq):=Tv (st:=Gz) (ds:= #[.none,.none,(.int 1 Ju),(.int 0 Jt)]) gX gG (by walk_at"k") (by walk_at"k") (by walk_at"k") (by walk_at"dm") (fun _ _ _ _ _ _ _ us hl=>by obtain⟨_,_,_,_,_,_,_,rfl⟩:=ACu hl;exact⟨_,rfl,rfl⟩) Mh
theorem Ue:CI0 3 "Not" WY ["self","R"] (ACM K Ba CL WY):=by
 refine ci' ["self","R"] Rm fun nd H vs Q E hr h=>?_;obtain⟨x,r,n,b,rfl,R,⟨dx,hx⟩,q⟩:=h;exists⟨_,(Ad (Bh (Dw Bv (Aa (pv 0) (Aa (Ag Hr (Aa (CG Bx (pv 1)) Ab)) (Aa (BJ (Aa (pv 1) Ab)) (Aa (BJ (Aa Ah (Aa Ah Ab))) Ab))))))),?_⟩;obtain⟨C,dr,fs,m,hr,l1,_⟩:=R.mt;exists⟨r,C,dr,fs,_,m _,rfl,hr,l1,?_⟩;exists⟨jf3,r,n,b,rfl,R,fun p hp=>?_⟩;refine⟨p,n,b,rfl,SqT.of hp,R.n0,R.n1,R.lt,fun p2 c hp2 hc hbit=>?_⟩;exists fresh hp2 fun H1 s1 t1=>?_;refine⟨(by show 1<=sizeLine;decide),fun pm hpm=>?_⟩;exists fresh hpm fun H2 s2 t2=>?_;refine⟨DY,fun pw hpw=>?_⟩;refine fresh hpw fun H3 s3 t3=>?_;have s3:=s2.trans s3;have hx3:=(s1.trans s3) _ _ hx;symm;exact⟨x,p2,pm,pw,WY,dx,rfl,hx3,V7,fun H' k e=>q _ H' (k.pre (s1.trans s3)) (Gg (zk (i:=4) rfl) V7 hx3 (s3 _ _ t1) k e R.n0 R.n1 hc) ⟨hc,hbit⟩⟩
theorem Qq:CI0 6 "Both" Uk ["self","R","S"] (Lk K Ba CL Uk (Bo and)):=by
 refine ci' ["self","R","S"] QX fun nd H vs Q E hr h=>?_;obtain⟨x,r,t,n1,n2,b1,b2,rfl,R1,R2,lz,⟨dx,hx⟩,q⟩:=h;refine⟨_,(Ad (Bh (Dw Bv (Aa (pv 0) (Aa (Ag Jg (Aa (CG Bx (pv 1)) (Aa (CG Bx (pv 2)) Ab))) (Aa (BJ (Aa (pv 1) (Aa (pv 2) Ab))) (Aa (BJ (Aa Ah (Aa Ah (Aa Ah Ab)))) Ab))))))),?_⟩;exact in2 (by walk_at"mm") R1 R2 lz q hx dI
theorem My:CI0 6 "Either" KZ ["self","R","S"] (Lk K Ba CL KZ (Bo or)):=by
 refine ci' ["self","R","S"] Lx fun nd H vs Q E hr h=>?_;obtain⟨x,r,t,n1,n2,b1,b2,rfl,R1,R2,lz,⟨dx,hx⟩,q⟩:=h;refine⟨_,(Ad (Bh (Dw Bv (Aa (pv 0) (Aa (Ag UT (Aa (CG Bx (pv 1)) (Aa (CG Bx (pv 2)) Ab))) (Aa (BJ (Aa (pv 1) (Aa (pv 2) Ab))) (Aa (BJ (Aa Ah (Aa Ah (Aa Ah Ab)))) Ab))))))),?_⟩;exact in2 (by walk_at"mm") R1 R2 lz q hx YC
theorem Uj:CI0 7 "But" aV ["self","R","S"] (Lk K Ba CL aV (Bo bn)):=by
 refine ci' ["self","R","S"] Rt fun nd H vs Q E hr h=>?_;obtain⟨x,r,t,n1,n2,b1,b2,rfl,R1,R2,lz,⟨dx,hx⟩,q⟩:=h;refine⟨_,(Ad (Bh (Dw Bv (Aa (pv 0) (Aa (Ag Oh (Aa (CG Bx (pv 1)) (Aa (CG Bx (pv 2)) Ab))) (Aa (BJ (Aa (pv 1) (Aa (pv 2) Ab))) (Aa (BJ (Aa Ah (Aa Ah (Aa Ah Ab)))) Ab))))))),?_⟩;exact in2 (by walk_at"mm") R1 R2 lz q hx j7
theorem Mu:CI0 6 "Unlike" KY ["self","R","S"] (Lk K Ba CL KY (Bo xor)):=by
 refine ci' ["self","R","S"] Lr fun nd H vs Q E hr h=>?_;obtain⟨x,r,t,n1,n2,b1,b2,rfl,R1,R2,lz,⟨dx,hx⟩,q⟩:=h;refine⟨_,(Ad (Bh (Dw Bv (Aa (pv 0) (Aa (Ag Z8 (Aa (CG Bx (pv 1)) (Aa (CG Bx (pv 2)) Ab))) (Aa (BJ (Aa (pv 1) (Aa (pv 2) Ab))) (Aa (BJ (Aa Ah (Aa Ah (Aa Ah Ab)))) Ab))))))),?_⟩;exact in2 (by walk_at"mm") R1 R2 lz q hx YB
theorem Qk:CI0 8 "Upon" Ub ["self","R","S"] (Lk K Ba CL Ub (WR (UpJ 1))):=by
 refine ci' ["self","R","S"] QQ fun nd H vs Q E hr h=>?_;obtain⟨x,r,t,n1,n2,b1,b2,rfl,R1,R2,lz,⟨dx,hx⟩,q⟩:=h;refine⟨_,(Ad (Bh (Dw Bv (Aa (pv 0) (Aa (Ag dW (Aa (CG Bx (pv 1)) (Aa (CG Bx (pv 2)) Ab))) (Aa (BJ (Aa (pv 1) (Aa (pv 2) Ab))) (Aa (BJ (Aa Ah (Aa Ah (Aa Ah Ab)))) Ab))))))),?_⟩;exact in2 (by walk_at"mm") R1 R2 lz q hx dF
theorem Oq:CI0 8 "Until" Mt ["self","R","S"] (Lk K Ba CL Mt (WR (UpJ (-1)))):=by
 refine ci' ["self","R","S"] Nj fun nd H vs Q E hr h=>?_;obtain⟨x,r,t,n1,n2,b1,b2,rfl,R1,R2,lz,⟨dx,hx⟩,q⟩:=h;refine⟨_,(Ad (Bh (Dw Bv (Aa (pv 0) (Aa (Ag YG (Aa (CG Bx (pv 1)) (Aa (CG Bx (pv 2)) Ab))) (Aa (BJ (Aa (pv 1) (Aa (pv 2) Ab))) (Aa (BJ (Aa Ah (Aa Ah (Aa Ah Ab)))) Ab))))))),?_⟩;exact in2 (by walk_at"mm") R1 R2 lz q hx Zu
theorem Qm:CI0 10 "Near" Ug ["self","R","S"] (Lk K Ba CL Ug (WR NrU)):=by
 refine ci' ["self","R","S"] QS fun nd H vs Q E hr h=>?_;obtain⟨x,r,t,n1,n2,b1,b2,rfl,R1,R2,lz,⟨dx,hx⟩,q⟩:=h;refine⟨_,(Ad (Bh (Dw Bv (Aa (pv 0) (Aa (Ag ABJ (Aa (CG Bx (pv 1)) (Aa (CG Bx (pv 2)) Ab))) (Aa (BJ (Aa (pv 1) (Aa (pv 2) Ab))) (Aa (BJ (Aa Ah (Aa Ah (Aa Ah Ab)))) Ab))))))),?_⟩;exact in2 (by walk_at"mm") R1 R2 lz q hx dH
theorem Ql:CI0 8 "Till" Uc ["self","R","S"] (Lk K Ba CL Uc (WR TiU)):=by
 refine ci' ["self","R","S"] QR fun nd H vs Q E hr h=>?_;obtain⟨x,r,t,n1,n2,b1,b2,rfl,R1,R2,lz,⟨dx,hx⟩,q⟩:=h;refine⟨_,(Ad (Bh (Dw Bv (Aa (pv 0) (Aa (Ag rC (Aa (CG Bx (pv 1)) (Aa (CG Bx (pv 2)) Ab))) (Aa (BJ (Aa (pv 1) (Aa (pv 2) Ab))) (Aa (BJ (Aa Ah (Aa Ah (Aa Ah Ab)))) Ab))))))),?_⟩;exact in2 (by walk_at"mm") R1 R2 lz q hx dG
theorem Ou:CI0 3 "Later" Kr ["self","number","R"] (ACI K Ba CL Kr):=by
 refine ci' ["self","number","R"] Nq fun nd H vs Q E hr h=>?_;obtain⟨x,r,num,n,b,rfl,lg,R,⟨dx,hx⟩,q⟩:=h;exists⟨_,(Ad (Bh (Dw Bv (Aa (pv 0) (Aa (Ag Je (Aa (CG Bx (pv 2)) (Aa (pv 1) Ab))) (Aa (BJ (Aa (pv 2) Ab)) (Aa (BJ (Aa (Q4 (Fx Ah (Fx (N5 hr.toN (pv 1)) (Fx Ah Xh)))) (Aa Ah Ab))) Ab))))))),?_⟩;obtain⟨C,dr,fs,m,hr,l1,_⟩:=R.mt;exists⟨r,C,dr,fs,_,m _,rfl,hr,l1,?_⟩;exists⟨jf3,r,n,b,rfl,R,fun p hp=>?_⟩;refine⟨p,n,num,b,rfl,SqT.of hp,R.n0,R.n1,R.lt,fun p2 hp2=>?_⟩;exists fresh hp2 fun H1 s1 t1=>?_;refine⟨(by show 1<=sizeLine;decide),fun pm hpm=>?_⟩;exists fresh hpm fun H2 s2 t2=>?_;refine Ry 0 nofun nofun fun l1=>ZX _ l1 nofun rfl lg fun l2=>Ry _ l2 nofun fun l3=>Qx (fits l3 nofun) ?_;generalize (Str.empty++Str.ofString "("++Dj num++Str.ofString " later ")=zt at*
 symm;refine⟨DY,fun pw hpw=>?_⟩;refine fresh hpw fun H3 s3 t3=>?_;have s3:=s2.trans s3;have hx3:=(s1.trans s3) _ _ hx;symm;exact⟨x,p2,pm,pw,Kr,dx,rfl,hx3,PN,fun H' k e=>q _ H' (k.pre (s1.trans s3)) (Gg (zk (i:=9) rfl) PN hx3 (s3 _ _ t1) k e R.n0 R.n1 (Ob _ _ _)) rfl⟩
theorem Ui:CI0 9 "Kth" Wa ["self","number","R","S"] (ACJ K Ba CL Wa):=by
 refine ci' ["self","number","R","S","kept"] Rq fun nd H vs Q E hr h=>?_;obtain⟨x,r,t,num,n1,n2,b1,b2,rfl,k0,lg,R1,R2,lz,⟨dx,hx⟩,q⟩:=h;have fl:=BV R1.n0 R2.n0;refine⟨_,(Ac (Aj 4 (Ag ADQ (Aa (pv 1) (Aa (CG Bx (pv 2)) (Aa (CG Bx (pv 3)) Ab))))) (Ad (Bh (Dw Bv (Aa (pv 0) (Aa (pv 4) (Aa (BJ (Aa (pv 2) (Aa (pv 3) Ab))) (Aa (BJ (Aa (Q4 (Fx Ah (Fx (N5 hr.toN (pv 1)) (Fx Ah Xh)))) (Aa Ah (Aa Ah Ab)))) Ab)))))))),?_⟩
 symm;obtain⟨C,dr,fs,m,hr,l1,_⟩:=R1.mt;exists⟨r,C,dr,fs,_,m _,rfl,hr,l1,?_⟩;exists⟨jf3,r,n1,b1,rfl,R1,fun p hp=>?_⟩;obtain⟨C',dr',fs',m',hr',l1',_⟩:=R2.mt;exists⟨t,C',dr',fs',_,m' _,rfl,hr',l1',?_⟩;exists⟨jf3,t,n2,b2,rfl,R2,fun p' hp'=>?_⟩;exists⟨num,p,p',n1,n2,b1,b2,rfl,⟨SqT.of hp,SqT.of hp',R1.n0,R2.n0,R1.n1,R2.n1,R1.lt,R2.lt⟩,k0,lz,fun p2 c H1 s1 t1 lt Rr=>?_⟩;refine⟨DY,fun pm hpm=>?_⟩;exists fresh hpm fun H2 s2 t2=>?_;refine Ry 0 nofun nofun fun l1=>ZX _ l1 nofun rfl lg fun l2=>Ry _ l2 nofun fun l3=>Qx (fits l3 nofun) ?_;generalize (Str.empty++Str.ofString "("++Dj num++Str.ofString " of ")=zt at*
 symm;refine⟨(by show 3<=sizeLine;decide),fun pw hpw=>?_⟩;refine fresh hpw fun H3 s3 t3=>?_;have s3:=s2.trans s3;have hx3:=(s1.trans s3) _ _ hx;symm;exact⟨x,p2,pm,pw,Wa,dx,rfl,hx3,V8,fun H' k e=>q _ H' (k.pre (s1.trans s3)) (Gg (zk (i:=14) rfl) V8 hx3 (s3 _ _ t1) k e fl.1 lz lt) Rr⟩
theorem Ov:CI0 1 "Every" YT ["self","number","R","day"] yw:=ci (st:=Nt) (by walk_at"k") (by walk_at"k") (by walk_at"k") (by walk_at"h") (by walk_at"b") fun _=>⟨fun _ _ _ _ h=>h.elim,fun _ _ _ _ _ _ _ _ _ _ _ _ _ h=>h.elim⟩
theorem Mw:CI0 1 "Reader" Bf ["self","words"] (uL Bf):=by
 refine ci' ["self","words"] Ls fun nd H vs Q E hr h=>?_;obtain⟨x,dx,l,ws,rfl,hx,hl,wl,wo,q⟩:=h;have lx:l≠x:=Hj hl hx (by intro z;cases z);refine⟨_,(Ac (FW (pv 0) (BP Ir rfl Wr jm6 (Aa (pv 1) Ab)) (by rfl)) (Ad (FW (pv 0) Ae (by rfl)))),?_⟩
 symm;refine⟨l,_,rfl,.inl ⟨SqL.of hl,fun p hp=>?_⟩⟩;have px:x≠p:=Bu hx hp;exists fresh hp fun H1 s1 t1=>?_;refine⟨x,Bf,dx,[],rfl,s1 _ _ hx,Bk,Gb,nofun,?_⟩;exists zr fun H2 k2 x2=>?_;refine⟨x,Bf,dx,_,rfl,x2,Bk,Dy,(by show 1<1000;decide),?_⟩;exists zr fun H3 k3 x3=>?_;exact q H3 (fun y o hy e=>k3 y o hy (k2 y o hy (s1 _ _ e))) ⟨p,ws,0,⟨⟨dx,x3⟩,k3 _ _ (Ne.symm px) (k2 _ _ (Ne.symm px) t1),wl,wo⟩,rfl⟩
theorem GR:CM0 1 Bf "peek" ["self"] (yq Bf):=by
 refine cm' ["self"] VJ fun nd H vs Q E hr h=>?_;obtain⟨x,_,rfl,⟨p,ws,k,R,rfl⟩,q⟩:=h;obtain⟨dx,hx⟩:=R.ex;exists⟨_,(Ad (Al (Dv (Ai FT (Br (pv 0) (by rfl)) (Bd Bs rfl Ep xz (Aa (Br (pv 0) (by rfl)) Ab)) (An _)) (Dr J8 (Br (pv 0) (by rfl)) (Br (pv 0) (by rfl)) (fun _ _=>rfl)) Ah))),?_⟩;exists⟨x,Bf,dx,_,_,rfl,hx,Bk,Dy,rfl,?_⟩;exists⟨x,Bf,dx,_,_,rfl,hx,Bk,Gb,rfl,?_⟩;refine⟨p,_,rfl,.inr (SqT.of R.tp),?_⟩;rw[jp];symm;refine Cd (fun c=>?_) (fun c=>?_)
 ·symm;exists⟨x,Bf,dx,_,_,rfl,hx,Bk,Gb,rfl,?_⟩;exists⟨x,Bf,dx,_,_,rfl,hx,Bk,Dy,rfl,?_⟩;have kl:k<ws.length:=⋯
  rw[jb6 kl] at q;exact Aw (SqT.of R.tp) (Ej (by rw[xo,qm kl];rfl)) q
 ·rw[uj ⋯] at q;symm;exact q
theorem Cr:CM0 2 Bf "take" ["self"] (yh Bf):=by
 refine cm' ["self","word"] VH fun nd H vs Q E hr h=>?_;obtain⟨x,r,rfl,R,q⟩:=h;obtain⟨p,ws,k,S,e⟩:=id R;obtain⟨dx,hx⟩:=S.ex;refine⟨_,(Ac (Aj 1 (Cu GR Bk (pv 0))) (Ac (FW (pv 0) (Af Bm (Br (pv 0) (by rfl)) Ae) (by rfl)) (Ad (Al (pv 1))))),?_⟩
 symm;exists⟨x,dx,_,rfl,hx,rfl,?_⟩;exists⟨x,r,rfl,R,?_⟩;exists⟨x,Bf,dx,_,_,rfl,hx,Bk,Dy,rfl,?_⟩;refine⟨x,Bf,dx,_,rfl,hx,Bk,Dy,(by show 2<1000;decide),?_⟩;exists zr fun H2 k2 x2=>?_;exact q H2 k2 ⟨p,ws,k+1,⟨⟨dx,x2⟩,k2 _ _ (Hj S.tp hx (by intro z;cases z)) S.tp,S.ln,S.ok⟩,by rw[<-e,List.tail_drop]⟩
theorem WW:C0 1 "is_name" ["text"] zH:=by
 refine co' ["text"] jP fun nd H vs Q E hr h=>?_;obtain⟨z,rfl,hz,q⟩:=h;refine⟨_,(Ad (Al (Sg (MK J1 J1 Ae (Bd Eh rfl Ep xz (Aa (pv 0) Ab)) (CP rfl S7 (Cq _ _))) (SN (Bd (Tu rfl) rfl lU jo0 (Aa (Fy rfl (Gd ["text"] rfl ∅ rfl ∅ rfl ∅ ∅) (oh (pv 0)) (fun _ _ _ _=>Ds) (fun _ _ _ _=>(Ed Vt (pv 0) (CP rfl jh (fK _ _)) (by rfl)))) Ab)))))),?_⟩;have zl:(cpl z).length=z.length:=Eu _;symm;exists⟨z,rfl,hz.fit,?_⟩;have no:¬Iu (cpl z)->∀H',Az H H'->Q (.bl false) H':=fun n H' s'=>q false H' s' ⟨fun z=>(nomatch z),fun z=>absurd z n⟩;by_cases c1:1<=((z.length:Nat):Int)
 rotate_left
 ·refine CT c1 ?_;refine⟨_,rfl,Eg ?_⟩;exact no (fun N=>by have:=N.lo;lia) _ (Az.refl _)
 exists Gy c1 ?_;by_cases c2:((z.length:Nat):Int)<=8
 rotate_left
 ·rw[decide_eq_false c2];refine Eg ?_;exact no (fun N=>by have:=N.hi;lia) _ (Az.refl _)
 rw[decide_eq_true c2];exists Fe ?_;exists Fj (oO ?_);refine⟨_,rfl,hz.asc,?_⟩;refine Jb aq ?_ (fun _ _ _=>trivial) (fun _=>true) (fun v=>match v with | .str y=>.bl (decide (97<=(cpl y).headD 0/\(cpl y).headD 0<=122)) | _=>.non) (fun x hx D ys Q' hD h=>h) (fun x hx _ D ys Q' hD h=>?_) (fun D hD=>?_)
 ·rw[jp];exact Dz (by have:z.cps.toList.length=z.length:=zl;lia)
 ·obtain⟨c,hc,rfl⟩:=ui.mp hx;symm;refine⟨_,_,rfl,rfl,?_⟩;rw[AAr];exact h
 have e:((z.cps.toList.map Vm).filter fun _=>true).map (fun v=>match v with | .str y=>V.bl (decide (97<=(cpl y).headD 0/\(cpl y).headD 0<=122)) | _=>.non)=((cpl z).map fun c=>decide (97<=c/\c<=122)).map V.bl:=by
  rw[jf2.mpr (fun _ _=>rfl),va,va];rfl
 rw[e];exists fresh hD fun H1 s1 t1=>?_;refine⟨D,_,rfl,SqL.of t1,?_⟩;refine q _ _ s1 ?_;rw[List.all_map,jb9];exact⟨fun h=>⟨⋯,⋯,fun c hc=>by simpa using h c hc⟩,fun N c hc=>by simpa using N.ch c hc⟩
theorem K6:C0 1 "is_readable" ["text"] W0:=by
 refine co' ["text"] VD fun nd H vs Q E hr h=>?_;obtain⟨z,rfl,hz,zl,q⟩:=h;exists⟨_,(Ad (Al (Sg (Bd Tr rfl JM jj5 (Aa (pv 0) (Aa (Xj rfl Cv qh (cB _)) Ab))) (SN (Ed J1 (Bd Eh rfl Ep xz (Aa (pv 0) Ab)) (CP rfl Xu (Cq _ _)) (An _)))))),?_⟩;exists cD (.txt z hz) ?_;exists Fe ?_;exists⟨z,rfl,hz.fit,?_⟩;have:decide ((z.length:Int)<=4000)=true:=by
  rw[decide_eq_true_eq];lia
 rw[this];exact q
theorem KN:C0 1 "is_number" ["text"] uK:=by
 refine co' ["text","figures"] ZM fun nd H vs Q E hr h=>?_;obtain⟨z,rfl,hz,q⟩:=h;refine⟨_,(Ac (Aj 1 (Dv (El (GQ uu PySem.F.slot_str_startswith PySem.F.type_str_startswith VP (pv 0) (Aa Ah Ab))) (Cz W7 (pv 0) (Dp Ae) Eb) (pv 0)))
  (Ac (Ax (PW.pt (Hh (Ai FT (Bd Eh rfl Ep xz (Aa (pv 1) Ab)) Ae (An _)) (GK (Ai GD (Bd Eh rfl Ep xz (Aa (pv 1) Ab)) (CP rfl S8 (Cq _ _)) (An _)))))
   (Ad (Al Ky))
   Ao)
  (Ac (Ax (Ai BW (Dr qK (pv 1) Ae) Ah (An _))
   (Ad (Al (Ed BW (pv 0) Ah (An _))))
   Ao)
  (Ad (Al (Bd (Tu rfl) rfl lU jo0 (Aa (Fy rfl (Gd ["text","figures"] rfl ∅ rfl ∅ rfl ∅ ∅) (oh (pv 1)) (fun _ _ _ _=>Ds) (fun _ _ _ _=>(Ed Vt (pv 0) (CP rfl ji (fK _ _)) (by rfl)))) Ab))))))),?_⟩
 symm;exists⟨rfl,?_⟩;refine⟨z,_,rfl,rfl,?_⟩;rw[Ww (.inr trivial)];symm;refine Cd (fun hm=>?_) (fun hm=>?_)
 ·symm;have l1:1<=z.length:=by
   rw[<-Eu];cases h:cpl z with
   | nil=>rw[h] at hm;cases hm
   | cons a r=>simp
  refine⟨z,rfl,hz.fit,?_⟩;have hy:TOk (Txt.slice z (some 1) none):=hz.slice _ _;have ey:cpl (Txt.slice z (some 1) none)=HS (cpl z):=by
   rw[O3 l1];unfold HS;rw[xy hm]
  generalize Txt.slice z (some 1) none=y at hy ey ⊢;symm;have fy:=hy.fit;have yl:(cpl y).length=y.length:=Eu _;exists⟨_,rfl,fy,?_⟩;refine Cd (fun l1=>Fe ?_) (fun l1=>?_)
  ·symm;refine q _ _ (Az.refl _) ⟨(fun e=>nomatch e),fun N=>?_⟩;have:=N.lo;rw[<-ey] at this;lia
  symm;exists⟨_,rfl,fy,?_⟩;refine Cd (fun l2=>?_) (fun l2=>?_)
  ·symm;refine q _ _ (Az.refl _) ⟨(fun e=>nomatch e),fun N=>?_⟩;have:=N.hi;rw[<-ey] at this;lia
  symm;obtain⟨c0,r0,ec⟩:∃c r,cpl y=c::r:=by
   cases h:cpl y with
   | nil=>rw[h] at yl;simp at yl;lia
   | cons c r=>exact⟨c,r,rfl⟩
  refine⟨_,0,c0,rfl,rfl,fy,by rw[show y.cps.toList=c0::r0 from ec];exact Ej (j:=0) rfl,?_⟩;symm;refine Cd (fun e0=>?_) (fun e0=>?_)
  ·symm;have c48:c0=48:=by
    have e1:(⟨#[c0]⟩:Str)=Str.ofString "0":=V.str.inj e0;have e2:cpl (⟨#[c0]⟩:Str)=cpl "0":=yk cpl e1;have e3:cpl "0"=[48]:=∅;rw[e3] at e2;injection e2
   refine q _ _ (Az.refl _) ?_;rw[decide_eq_true_eq];have e3:cpl "0"=[48]:=∅;constructor
   ·intro e;have ez:cpl z=[48]:=by rw[V.str.inj e,e3]
    refine⟨?_,?_,?_,?_⟩<;>rw[ez]<;>simp[HS]
   ·intro N;have:=N.z0 (by rw[<-ey,ec,c48];rfl);exact yk V.str (Hm (by rw[this,e3]))
  symm;exists Fj (oO ?_);refine⟨_,rfl,hy.asc,?_⟩;refine Jb aq ?_ (fun _ _ _=>trivial) (fun _=>true) (fun v=>match v with | .str y=>.bl (decide (48<=(cpl y).headD 0/\(cpl y).headD 0<=57)) | _=>.non) (fun x hx D ys Q' hD h=>h) (fun x hx _ D ys Q' hD h=>?_) (fun D hD=>?_)
  ·rw[jp];exact Dz (by have:y.cps.toList.length=y.length:=yl;lia)
  ·obtain⟨c,hc,rfl⟩:=ui.mp hx;symm;refine⟨_,_,rfl,rfl,?_⟩;rw[qP];exact h
  have e:((y.cps.toList.map Vm).filter fun _=>true).map (fun v=>match v with | .str y=>V.bl (decide (48<=(cpl y).headD 0/\(cpl y).headD 0<=57)) | _=>.non)=((cpl y).map fun c=>decide (48<=c/\c<=57)).map V.bl:=by
   rw[jf2.mpr (fun _ _=>rfl),va,va];rfl
  rw[e];symm;refine⟨D,_,rfl,SqL.of Am,?_⟩;refine q _ _ (Ar hD _) ?_;rw[List.all_map,jb9];constructor
  ·intro h;refine⟨by rw[<-ey];lia,by rw[<-ey];lia,fun c hc=>?_,fun h0=>?_⟩
   ·rw[<-ey] at hc;simpa using h c hc
   ·rw[<-ey,ec] at h0;injection h0 with h0;subst h0;exact absurd (by congr) e0
  ·intro N c hc;have:=N.dg c (by rw[<-ey];exact hc);simpa using this
 ·symm;have hy:=hz;have ey:cpl z=HS (cpl z):=by
   unfold HS;rw[xp hm]
  have fy:=hy.fit;have yl:(cpl z).length=z.length:=Eu _;exists⟨_,rfl,fy,?_⟩;refine Cd (fun l1=>Fe ?_) (fun l1=>?_)
  ·symm;refine q _ _ (Az.refl _) ⟨(fun e=>nomatch e),fun N=>?_⟩;have:=N.lo;rw[<-ey] at this;lia
  symm;exists⟨_,rfl,fy,?_⟩;refine Cd (fun l2=>?_) (fun l2=>?_)
  ·symm;refine q _ _ (Az.refl _) ⟨(fun e=>nomatch e),fun N=>?_⟩;have:=N.hi;rw[<-ey] at this;lia
  symm;obtain⟨c0,r0,ec⟩:∃c r,cpl z=c::r:=by
   cases h:cpl z with
   | nil=>rw[h] at yl;simp at yl;lia
   | cons c r=>exact⟨c,r,rfl⟩
  refine⟨_,0,c0,rfl,rfl,fy,by rw[show z.cps.toList=c0::r0 from ec];exact Ej (j:=0) rfl,?_⟩;symm;refine Cd (fun e0=>?_) (fun e0=>?_)
  ·symm;have c48:c0=48:=by
    have e1:(⟨#[c0]⟩:Str)=Str.ofString "0":=V.str.inj e0;have e2:cpl (⟨#[c0]⟩:Str)=cpl "0":=yk cpl e1;have e3:cpl "0"=[48]:=∅;rw[e3] at e2;injection e2
   refine q _ _ (Az.refl _) ?_;rw[decide_eq_true_eq];have e3:cpl "0"=[48]:=∅;constructor
   ·intro e;have ez:cpl z=[48]:=by rw[V.str.inj e,e3]
    refine⟨?_,?_,?_,?_⟩<;>rw[ez]<;>simp[HS]
   ·intro N;have:=N.z0 (by rw[<-ey,ec,c48];rfl);exact yk V.str (Hm (by rw[this,e3]))
  symm;exists Fj (oO ?_);refine⟨_,rfl,hy.asc,?_⟩;refine Jb aq ?_ (fun _ _ _=>trivial) (fun _=>true) (fun v=>match v with | .str y=>.bl (decide (48<=(cpl y).headD 0/\(cpl y).headD 0<=57)) | _=>.non) (fun x hx D ys Q' hD h=>h) (fun x hx _ D ys Q' hD h=>?_) (fun D hD=>?_)
  ·rw[jp];exact Dz (by have:z.cps.toList.length=z.length:=yl;lia)
  ·obtain⟨c,hc,rfl⟩:=ui.mp hx;symm;refine⟨_,_,rfl,rfl,?_⟩;rw[qP];exact h
  have e:((z.cps.toList.map Vm).filter fun _=>true).map (fun v=>match v with | .str y=>V.bl (decide (48<=(cpl y).headD 0/\(cpl y).headD 0<=57)) | _=>.non)=((cpl z).map fun c=>decide (48<=c/\c<=57)).map V.bl:=by
   rw[jf2.mpr (fun _ _=>rfl),va,va];rfl
  rw[e];symm;refine⟨D,_,rfl,SqL.of Am,?_⟩;refine q _ _ (Ar hD _) ?_;rw[List.all_map,jb9];constructor
  ·intro h;refine⟨by rw[<-ey];lia,by rw[<-ey];lia,fun c hc=>?_,fun h0=>?_⟩
   ·rw[<-ey] at hc;simpa using h c hc
   ·rw[<-ey,ec] at h0;injection h0 with h0;subst h0;exact absurd (by congr) e0
  ·intro N c hc;have:=N.dg c (by rw[<-ey];exact hc);simpa using this
theorem KH:C0 3 "take_word" ["reader","word"] (ye Bf):=by
 refine co' ["reader","word"] Yx fun nd H vs Q E hr h=>?_;obtain⟨x,z,r,rfl,R,q⟩:=h;obtain⟨dx,fs,hx,l1,_⟩:=R.ob;refine⟨_,(Ad (Ax (Ai Gf (Cu Cr Bk (pv 0)) (pv 1) (An _)) (Ad BZ) Ao)),?_⟩
 symm;exists⟨x,dx,_,rfl,hx,l1,?_⟩;exists⟨x,_,rfl,R,fun H1 k1 R1=>?_⟩;exists Gh (yk V.str (Jz z)) ?_;exact q H1 k1 R1
theorem HH:C0 3 "take_number" ["reader"] (yu Bf):=by
 refine co' ["reader","word"] U6 fun nd H vs Q E hr h=>?_;obtain⟨x,n,r,rfl,R,sn,q⟩:=h;obtain⟨dx,fs,hx,l1,_⟩:=R.ob;have N:=JS sn;refine⟨_,(Ac (Aj 1 (Cu Cr Bk (pv 0))) (Ac (Ax (G3 (El (Ag KN (Aa (pv 1) Ab)))) (Ad BZ) Ao) (Ad (Al (BP Ff rfl Ld Xs (Aa (pv 1) Ab)))))),?_⟩
 symm;exists⟨x,dx,_,rfl,hx,l1,?_⟩;exists⟨x,_,rfl,R,fun H1 k1 R1=>?_⟩;refine⟨_,rfl,R.tk,fun v H2 s2 iv=>?_⟩;obtain rfl:=iv.mpr (show M7 (cpl (sW (nW n))) by rw[Bp];exact N.1);symm;exists Eg ?_;refine⟨_,_,rfl,?_,Od (show M7 (cpl (sW (nW n))) by rw[Bp];exact N.1),?_⟩
 ·show(sW (nW n)).length<=_;rw[DQ];have:=Es sn;lia
 ·show Q (.int (J3 (cpl (sW (nW n))))) H2;rw[Bp,N.2];exact q H2 (k1.tr (.sm s2)) (R1.same s2)
theorem K4:C0 4 "take_wanted" ["reader"] (tU Bf):=by
 refine co' ["reader"] U5 fun nd H vs Q E hr h=>?_;obtain⟨x,m,r,rfl,R,sm,q⟩:=h;obtain⟨dx,fs,hx,l1,l2⟩:=R.ob;refine⟨_,(Ac (Ax (Ai BW (Cu GR Bk (pv 0)) Ah (An _)) (Ac (Bh (Cu Cr Bk (pv 0))) (Ad (Al G4))) Ao) (Ad (Al (Ag HH (Aa (pv 0) Ab))))),?_⟩
 symm;exists⟨x,dx,_,rfl,hx,l2,?_⟩;exists⟨x,_,rfl,R,?_⟩;cases m with
 | none=>
  walk_at"ew";exists⟨x,dx,_,rfl,hx,l1,?_⟩;exists⟨x,_,rfl,R,fun H1 k1 R1=>?_⟩;exact q H1 k1 R1
 | some n=>
  exists CT (Sx (sm n rfl) ⟨_,_,rfl,nofun⟩) ?_;exact⟨x,n,r,rfl,R,sm n rfl,q⟩
theorem Pg:C0 4 "take_each" ["reader"] (uN Bf):=by
 refine co' ["reader","size"] Yy fun nd H vs Q E hr h=>?_;obtain⟨x,n,m,r,rfl,R,sn,sm,q⟩:=h;refine⟨_,(Ac (Aj 1 (Ag HH (Aa (pv 0) Ab))) (Ac (Bh (Ag KH (Aa (pv 0) (Aa Ah Ab)))) (Ad (Al (BJ (Aa (pv 1) (Aa (Ag HH (Aa (pv 0) Ab)) Ab))))))),?_⟩
 symm;exists⟨x,n,_,rfl,R,sn,fun H1 k1 R1=>?_⟩;exists⟨x,_,_,rfl,R1,fun H2 k2 R2=>?_⟩;exists⟨x,m,r,rfl,R2,sm,fun H3 k3 R3=>?_⟩;refine⟨DY,fun a ha=>?_⟩;refine fresh ha fun H4 s4 t4=>?_;exact q a H4 (((k1.tr k2).tr k3).tr (.sm s4)) (R3.same s4) t4
theorem aB:C0 5 "take_date" ["reader"] (uQ Bf):=by
 refine co' ["reader","name","month","day","years"] Yz fun nd H vs Q E hr h=>?_;obtain⟨x,nm,m,d,y,r,rfl,R,⟨on,om,od,oy,_⟩,hh,q⟩:=h;obtain⟨dx,fs,hx,l1,_⟩:=R.ob;refine⟨_,(Ac (Aj 1 (Cu Cr Bk (pv 0))) (Ac (Ax (G3 (El (Ag WW (Aa (pv 1) Ab)))) (Ad BZ) Ao) (Ac (Aj 2 (Ag K4 (Aa (pv 0) Ab))) (Ac (Aj 3 (Ag K4 (Aa (pv 0) Ab))) (Ac (Aj 4 (BJ (Aa Ae (Aa Ae Ab)))) (Ac (Do (Ax (Ai BW (Cu GR Bk (pv 0)) Ah (An _)) (Ac (Bh (Cu Cr Bk (pv 0))) (Ad (Aj 4 (Ag Pg (Aa (pv 0) Ab))))) Ao)) (Ad (Al (BJ (Aa Ah (Aa (pv 1) (Aa (pv 2) (Aa (pv 3) (Aa (pxT 4) (Aa (pxT 4) Ab))))))))))))))),?_⟩
 symm;exists⟨x,dx,_,rfl,hx,l1,?_⟩;exists⟨x,_,rfl,R,fun H1 k1 R1=>?_⟩;refine⟨_,rfl,R.tk,fun v H2 s2 iv=>?_⟩;obtain rfl:=iv.mpr (show Iu (cpl (sW nm)) by rw[Bp];exact on);have k2:=k1.tr (.sm s2);symm;exists Eg ?_;exists⟨x,m,_,rfl,R1.same s2,om,fun H3 k3 R3=>?_⟩;exists⟨x,d,_,rfl,R3,od,fun H4 k4 R4=>?_⟩;refine⟨DY,fun q0 hq0=>?_⟩;refine fresh hq0 fun H5 s5 t5=>?_;have k5:=((k2.tr k3).tr k4).tr (.sm s5);have R5:=R4.same s5;symm;refine DG (fun Z' H'=>∃a:Addr,An4 (KB x H H') (Rd Bf H' x r) (H' a=some (.tup [.int (yr y).1,.int (yr y).2])) (Z'=[some (.ref x),some (.str (sW nm)),some (oI m),some (oI d),some (.ref a)])) ?_ ?_
 ·symm;obtain⟨dx,fs,hx,l1,l2⟩:=R5.ob;exists⟨x,dx,_,rfl,hx,l2,?_⟩;exists⟨x,_,rfl,R5,?_⟩;cases y with
  | none=>
   exists CT (fun z=>hh (xO.mp (z.trans (Hg "each").symm))) ?_;exact⟨q0,k5,R5,t5,rfl⟩
  | some y=>
   walk_at"ew";exists⟨x,dx,_,rfl,hx,l1,?_⟩;exists⟨x,_,rfl,R5,fun H6 k6 R6=>?_⟩;exists⟨x,y.1,y.2,r,rfl,R6,(oy y rfl).1,(oy y rfl).2.1,fun a H7 k7 R7 t7=>?_⟩;exact⟨a,(k5.tr k6).tr k7,R7,t7,rfl⟩
 rintro Z' H6 ⟨a,k6,R6,t6,rfl⟩;symm;exists Aw (SqT.of t6) at0 ?_;exists Aw (SqT.of t6) at1 ?_;refine⟨(by show 6<=sizeLine;decide),fun b hb=>?_⟩;refine fresh hb fun H7 s7 t7=>?_;exact q _ H7 (k6.tr (.sm s7)) (R6.same s7) ⟨b,rfl,t7⟩
theorem dU:C0 1 "words_of" ["text"] tQ:=by
 refine co' ["text","told","depth","whole","opened","word","opening","closing"] bN fun nd H vs Q E hr h=>?_;obtain⟨z,rfl,hz,zl,hc,ho,q⟩:=h;refine⟨_,(Ac (Aj 1 (Du Ab)) (Ac (Aj 2 Ae) (Ac (Hu PassesOwn.never rfl (Gu (GQ uu jb4 jb5 JC (pv 0) (Aa Ah Ab))) (CQ (i:=3) nd rfl (by walk_at"o")) (Ac (Aj 4 (GQ uu PySem.F.slot_str_lstrip PySem.F.type_str_lstrip je (pv 3) (Aa Ah Ab))) (Ac (Aj 5 (GQ uu PySem.F.slot_str_rstrip PySem.F.type_str_rstrip jd (pv 4) (Aa Ah Ab))) (Ac (Ax (Ai BW (pv 5) Ah (An _)) (Ad BZ) Ao) (Ac (Aj 6 (Af Dh (Bd Eh rfl Ep xz (Aa (pv 3) Ab)) (Bd Eh rfl Ep xz (Aa (pv 4) Ab)))) (Ac (Aj 7 (Af Dh (Bd Eh rfl Ep xz (Aa (pv 4) Ab)) (Bd Eh rfl Ep xz (Aa (pv 5) Ab)))) (Ac (Aj 2 (Af Bm (pv 2) (pv 6))) (Ac (Ax (Ai GD (pv 2) (CP rfl QZ (Cq _ _)) (An _)) (Ad BZ) Ao) (Ac (Aj 2 (Af Dh (pv 2) (pv 7))) (Ad (Bh (GQ Jn jd9 je0 JD (pv 1) (Aa (Af cO (Af cO (Af cN (Du (Aa Ah Ab)) (pv 6)) (Du (Aa (pv 5) Ab))) (Af cN (Du (Aa Ah Ab)) (pv 7))) Ab))))))))))))) (Ad (Al (pv 1)))))),?_⟩
 symm;refine⟨ke _,fun l hl=>?_⟩;exists fresh hl fun H1 s1 t1=>?_;exists R0 (Lz ?_);exists JB ?_;exists⟨rfl,?_⟩;refine⟨z,32,rfl,by rw[show Str.ofString " "=⟨#[32]⟩ from by ac_rfl],nofun,hz.len,fun l2 hl2=>?_⟩;exists fresh hl2 fun H2 s2 t2=>?_;have ll:l2≠l:=fun z=>by rw[z,t1] at hl2;cases hl2
 have wt:=mZ 32 (cpl z);generalize hps:spl 32 (cpl z)=ps at*
 unfold tks at q;have t2:H2 l2=some (.lst (ps.map fun w=>V.str (sW w))):=by rw[t2,bJ,hps,va];rfl
 have fl:=Zt ps;have plen:∀(i:Nat) (w:Wd),ps[i]?=some w->w.length<=4000/\i<ps.length:=fun i w hw=>by
  have h1:(w.length+1)<=(ps.map fun w=>w.length+1).sum:=gF (ui.mpr ⟨w,zk hw,rfl⟩);exact⟨⋯,(qv.mp hw).1⟩
 refine⟨l2,rfl,⟨_,SqL.of t2⟩,JF (xs:=ps.map fun w=>V.str (sW w)) (fun i Z' H'=>An3 (Az H H') (H' l2=some (.lst (ps.map fun w=>V.str (sW w)))) (Ex6 fun(d:Int) (v3 v4 v5 v6 v7:Option V)=>An3 (H' l=some (.lst (((ps.take i).flatMap Hq).map fun w=>V.str (sW w)))) (Dok d (ps.drop i)) (Z'=[some (.str z),some (.ref l),some (.int d),v3,v4,v5,v6,v7]))) ⟨s1.trans s2,t2,0,none,none,none,none,none,s2 _ _ t1,by rw[jl1];exact ho,rfl⟩ ?_ ?_ ?_⟩
 ·rintro i Z' H' _ ⟨_,t,_⟩;exact SqL.of t
 ·rintro i x Z' H' hx ⟨sH,tp,d,v3,v4,v5,v6,v7,tl,ew,rfl⟩;rw[xo] at hx;obtain⟨w,hw,rfl⟩:=kq.mp hx;obtain⟨wl,il⟩:=plen i w hw;have ol:=N7 w;have cl:=Q7 w;have ed:ps.drop i=w::ps.drop (i+1):=by
   rw[jb6 il]
   congr 1
   rw[qm il] at hw;injection hw
  rw[ed] at ew;obtain⟨ew,ew2⟩:=ew;unfold opn at ew ew2;unfold cls at ew2;have cw:=hc w (zk hw);have fit:w.length<=sizeLine:=zv wl nofun;symm;exists JB ?_;exists⟨rfl,?_⟩;refine⟨sW w,_,rfl,rfl,by rw[DQ];exact fit,?_⟩;rw[show (if stripSame (Str.ofString "(").cps.contains true false (sW w) then sW w else stripped (Str.ofString "(").cps.contains true false (sW w))=sW (opd w) from ACs w];symm;exists JB ?_;exists⟨rfl,?_⟩;refine⟨sW (opd w),_,rfl,rfl,by rw[DQ];lia,?_⟩;rw[show (if stripSame (Str.ofString ")").cps.contains false true (sW (opd w)) then sW (opd w) else stripped (Str.ofString ")").cps.contains false true (sW (opd w)))=sW (core w) from ACX w];symm;rw[nj];exists CT (fun z=>cw (xO.mp z)) ?_;refine⟨_,rfl,by rw[DQ];exact fit,?_⟩;symm;refine⟨_,rfl,by rw[DQ];lia,?_⟩;symm;refine⟨_,rfl,by rw[DQ];lia,?_⟩;symm;refine⟨_,rfl,by rw[DQ];lia,?_⟩;rw[DQ,DQ,DQ];symm;exists CT ⋯ ?_;exists Ny rfl tl ?_;have sz:∀n:Nat,n<=100000->n<=sizeLine:=fun n h=>zv h nofun;refine⟨(by show 1<=sizeLine;decide),fun m1 hm1=>?_⟩;refine fresh hm1 fun H3 s3 t3=>?_;rw[ADo] at t3;symm;refine cC t3 ⋯ ⋯ (sz _ (by simp;lia)) fun m2 hm2=>?_;refine fresh hm2 fun H4 s4 t4=>?_;rw[Rv] at t4;symm;refine⟨(by show 1<=sizeLine;decide),fun m3 hm3=>?_⟩;exists fresh hm3 fun H5 s5 t5=>?_;refine⟨m2,m3,_,_,rfl,rfl,s5 _ _ t4,t5,sz _ (by simp;lia),fun m4 hm4=>?_⟩;exists fresh hm4 fun H6 s6 t6=>?_;refine⟨(by show 1<=sizeLine;decide),fun m5 hm5=>?_⟩;refine fresh hm5 fun H7 s7 t7=>?_;rw[ADn] at t7;symm;refine cC t7 ⋯ ⋯ (sz _ (by simp;lia)) fun m6 hm6=>?_;refine fresh hm6 fun H8 s8 t8=>?_;rw[Rv] at t8;symm;refine⟨m4,m6,_,_,rfl,rfl,(s7.trans s8) _ _ t6,t8,sz _ (by simp;lia),fun m7 hm7=>?_⟩;refine fresh hm7 fun H9 s9 t9=>?_;have sA:=s3.trans (s4.trans (s5.trans (s6.trans (s7.trans (s8.trans s9)))));rw[show ((w.length:Int)-((opd w).length:Int)).toNat=w.length-(opd w).length by lia,show(((opd w).length:Int)-((core w).length:Int)).toNat=(opd w).length-(core w).length by lia,<-zu] at t9;have tk:(ps.take (i+1)).flatMap Hq=(ps.take i).flatMap Hq++Hq w:=by
   rw[kx,hw,jd3,jh9,je7,List.flatMap_nil,yy]
  have tle:=tK (ps:=ps) i;have ple:=Zb w;refine GJ ?_;refine⟨l,m7,_,_,rfl,rfl,sA _ _ tl,t9,?_,?_⟩
  ·rw[jp,jp];have b1:((ps.take i).flatMap Hq).length<=4001:=zv tle (zv fl (by rw[wt];lia));exact sz _ (zv (Nat.add_le_add b1 ple) ⋯)
  ·rw[<-vk,<-tk];refine⟨fun r o ho=>?_,?_,_,_,_,_,_,_,Am,?_,rfl⟩
   ·rw[BK fun z=>by rw[z,hl] at ho;cases ho];exact sA _ _ (sH _ _ ho)
   ·rw[BK ll];exact sA _ _ tp
   ·rwa [show d+((w.length:Int)-((opd w).length:Int))-(((opd w).length:Int)-((core w).length:Int))=d+((w.length-(opd w).length:Nat):Int)-(((opd w).length-(core w).length:Nat):Int) by lia]
 ·rintro Z' H' ⟨sH,_,d,v3,v4,v5,v6,v7,tl,ew,rfl⟩;rw[jp,ja6] at tl;symm;exact q l H' sH tl
theorem Nf:Cy ["reader","number","word","plan"] ["reader"] (BX HY):=by walk_at"s"
theorem N8{k d:Nat}(F:Fun K "take_numbered" "take_numbered" HY f fd)(DR:C0 k "take_plan" ["reader"] ((Jv Bf) d))(hk:8<=k):F0 (k+1) f fd ["reader"] ((W4 Bf) d):=by
 refine F.ok (k:=k+0) Nf (fun h=>?_) fun nd H vs Q E hr h=>?_
 ·obtain⟨x,p,r,rfl,_⟩:=h;rfl
 obtain⟨x,p,r,rfl,R,okp,cp,dp,hh,q⟩:=h;refine⟨_,(Ac (Aj 1 (Ag HH (Aa (pv 0) Ab))) (Ac (Aj 2 (Cu Cr Bk (pv 0))) (Ac (Ax (Ai BW (pv 2) Ah (An _)) (Ad (Al (BJ (Aa (pv 2) (Aa (pv 1) (Aa (Ag DR (Aa (pv 0) Ab)) Ab)))))) Ao) (Ac (Ax (Ai Gf (pv 2) Ah (An _)) (Ad BZ) Ao) (Ac (Aj 3 (Ag DR (Aa (pv 0) Ab))) (Ac (Bh (Ag KH (Aa (pv 0) (Aa Ah Ab)))) (Ad (Al (BJ (Aa (pv 2) (Aa (pv 1) (Aa (pv 3) (Aa (Ag DR (Aa (pv 0) Ab)) Ab))))))))))))),?_⟩
 cases p with
 | la n p=>
  symm;exists⟨x,n,_,rfl,R,okp.1,fun H1 k1 R1=>?_⟩;obtain⟨dx,fs,hx,l1,_⟩:=R1.ob;exists⟨x,dx,_,rfl,hx,l1,?_⟩;exists⟨x,_,rfl,R1,fun H2 k2 R2=>?_⟩;walk_at"ew";exists⟨x,p,r,rfl,R2,okp.2,trivial,jj3 dp,hh,fun v H3 k3 R3 P3=>?_⟩;refine⟨(by show 3<=sizeLine;decide),fun a ha=>?_⟩;refine fresh ha fun H4 s4 t4=>?_;exact q _ H4 (((k1.tr k2).tr k3).tr (.sm s4)) (R3.same s4) ⟨a,v,rfl,by rw[t4];exact yk (fun z=>some (HO.tup [z,_,_])) (Hg _),P3.same s4⟩
 | nt n p p'=>
  have dp:max p.deep p'.deep+1<d+1:=dp;symm;exists⟨x,n,_,rfl,R,okp.1,fun H1 k1 R1=>?_⟩;obtain⟨dx,fs,hx,l1,_⟩:=R1.ob;exists⟨x,dx,_,rfl,hx,l1,?_⟩;exists⟨x,_,rfl,R1,fun H2 k2 R2=>?_⟩;walk_at"nw";exists Gh (Hg _) ?_;exists⟨x,p,_,rfl,R2,okp.2.1,trivial,⋯,hdn ∅,fun v H3 k3 R3 P3=>?_⟩;exists⟨x,_,_,rfl,R3,fun H4 k4 R4=>?_⟩;exists⟨x,p',r,rfl,R4,okp.2.2.1,trivial,⋯,hh,fun u H5 k5 R5 P5=>?_⟩;refine⟨(by show 4<=sizeLine;decide),fun a ha=>?_⟩;refine fresh ha fun H6 s6 t6=>?_;exact q _ H6 (((((k1.tr k2).tr k3).tr k4).tr k5).tr (.sm s6)) (R5.same s6) ⟨a,v,u,rfl,by rw[t6];exact yk (fun z=>some (HO.tup [z,_,_,_])) (Hg _),(PlH.kb R4 k5 (PlH.kb R3 k4 P3)).same s6,P5.same s6⟩
 | _=>exact cp.elim
theorem U0:Cy ["reader","number","plan"] ["reader"] (BX JQ):=by walk_at"s"
theorem VN{k d:Nat}(F:Fun K "take_every" "take_every" JQ f fd)(DR:C0 k "take_plan" ["reader"] ((Jv Bf) d))(hk:8<=k):F0 (k+1) f fd ["reader"] ((RV Bf) d):=by
 refine F.ok (k:=k+0) U0 (fun h=>?_) fun nd H vs Q E hr h=>?_
 ·obtain⟨x,p,r,rfl,_⟩:=h;rfl
 obtain⟨x,p,r,rfl,R,okp,cp,dp,hh,q⟩:=h;exact cp.elim
theorem W9:Cy ["reader","plan","word"] ["reader"] (BX Jx):=by walk_at"s"
theorem Xn{k d:Nat}(F:Fun K "take_pair" "take_pair" Jx f fd)(DR:C0 k "take_plan" ["reader"] ((Jv Bf) d))(hk:8<=k):F0 (k+1) f fd ["reader"] ((W3 Bf) d):=by
 refine F.ok (k:=k+0) W9 (fun h=>?_) fun nd H vs Q E hr h=>?_
 ·obtain⟨x,p,r,rfl,_⟩:=h;rfl
 obtain⟨x,p,r,rfl,R,okp,cp,dp,hh,q⟩:=h;refine⟨_,(Ac (Aj 1 (Ag DR (Aa (pv 0) Ab))) (Ac (Aj 2 (Cu Cr Bk (pv 0))) (Ac (Ax (Ai Xl (pv 2) (CP rfl Xq (HD _)) (by rfl)) (Ad BZ) Ao) (Ad (Al (BJ (Aa (pv 2) (Aa (pv 1) (Aa (Ag DR (Aa (pv 0) Ab)) Ab))))))))),?_⟩
 cases p with
 | pr w p p'=>
  have dp:max p.deep p'.deep+1<d+1:=dp;symm;refine⟨x,p,_,rfl,R,okp.1,trivial,⋯,hdn (by cases w<;>ac_rfl),fun v H1 k1 R1 P1=>?_⟩;symm;obtain⟨dx,fs,hx,l1,_⟩:=R1.ob;exists⟨x,dx,_,rfl,hx,l1,?_⟩;exists⟨x,_,rfl,R1,fun H2 k2 R2=>?_⟩;refine⟨HB,_,rfl,.inr (XR _),rfl,rfl,?_⟩;have e:V.str (sW ((sg w.s::(p'.tok++r)).headD []))=V.str (Str.ofString w.s):=Hg _;rw[e,ACj w];symm;exists Eg ?_;exists⟨x,p',r,rfl,R2,okp.2,trivial,⋯,hh,fun u H3 k3 R3 P3=>?_⟩;refine⟨(by show 3<=sizeLine;decide),fun a ha=>?_⟩;refine fresh ha fun H4 s4 t4=>?_;exact q _ H4 (((k1.tr k2).tr k3).tr (.sm s4)) (R3.same s4) ⟨a,v,u,rfl,t4,(PlH.kb R2 k3 (PlH.kb R1 k2 P1)).same s4,P3.same s4⟩
 | _=>exact cp.elim
theorem RZ:Cy ["reader","word"] ["reader"] (BX Ik):=by walk_at"s"
theorem Sw{k d:Nat}(F:Fun K "take_within" "take_within" Ik f fd)(DR:C0 k "take_plan" ["reader"] ((Jv Bf) d))(ab:C0 (k+1) "take_every" ["reader"] ((RV Bf) d))(ac:C0 (k+1) "take_numbered" ["reader"] ((W4 Bf) d))(ad:C0 (k+1) "take_pair" ["reader"] ((W3 Bf) d))(hk:8<=k):F0 (k+2) f fd ["reader"] ((RQ Bf) d):=by
 refine F.ok (k:=k+1) RZ (fun h=>?_) fun nd H vs Q E hr h=>?_
 ·obtain⟨x,p,r,rfl,_⟩:=h;rfl
 obtain⟨x,p,r,rfl,R,okp,cp,dp,hh,q⟩:=h;obtain⟨dx,fs,hx,l1,l2⟩:=R.ob;refine⟨_,(Ac (Aj 1 (Cu GR Bk (pv 0))) (Ac (Ax (Ai BW (pv 1) Ah (An _)) (Ac (Bh (Cu Cr Bk (pv 0))) (Ad (Al (BJ (Aa (pv 1) (Aa (Ag DR (Aa (pv 0) Ab)) Ab)))))) Ao) (Ac (Ax (Ai BW (pv 1) Ah (An _)) (Ac (Bh (Cu Cr Bk (pv 0))) (Ad (Al (Ag ab (Aa (pv 0) Ab))))) Ao) (Ac (Ax (El (Ag KN (Aa (pv 1) Ab))) (Ad (Al (Ag ac (Aa (pv 0) Ab)))) Ao) (Ad (Al (Ag ad (Aa (pv 0) Ab)))))))),?_⟩
 symm;exists⟨x,dx,_,rfl,hx,l2,?_⟩;exists⟨x,_,rfl,R,?_⟩;have num:∀n:Int,Sm n->(inn p r).headD []=nW n->cLN p->TOk (sW ((inn p r).headD [])):=fun n sn e _=>by
  rw[e];exact⟨GC.mpr fun c hc=>by rw[Bp] at hc;have:=Hw sn c hc;lia,by rw[DQ];have:=Es sn;lia⟩
 cases p with
 | no p=>
  walk_at"ew";exists⟨x,dx,_,rfl,hx,l1,?_⟩;exists⟨x,_,rfl,R,fun H1 k1 R1=>?_⟩;exists⟨x,p,r,rfl,R1,okp,trivial,jj3 dp,hh,fun v H2 k2 R2 P2=>?_⟩;refine⟨DY,fun a ha=>?_⟩;refine fresh ha fun H4 s4 t4=>?_;exact q _ H4 ((k1.tr k2).tr (.sm s4)) (R2.same s4) ⟨a,v,rfl,by rw[t4];exact yk (fun z=>some (HO.tup [z,_])) (Hg _),P2.same s4⟩
 | la n p=>
  exists CT (Sx okp.1 ⟨_,_,rfl,nofun⟩) ?_;exists CT (Sx okp.1 ⟨_,_,rfl,nofun⟩) ?_;refine⟨_,rfl,R.tk,fun v H2 s2 iv=>?_⟩;obtain rfl:=iv.mpr (show M7 (cpl (sW (nW n))) by rw[Bp];exact(JS okp.1).1);symm;exists Fe ?_;exact⟨x,.la n p,r,rfl,R.same s2,okp,trivial,dp,hh,q.on (.sm s2)⟩
 | nt n p p'=>
  exists CT (Sx okp.1 ⟨_,_,rfl,nofun⟩) ?_;exists CT (Sx okp.1 ⟨_,_,rfl,nofun⟩) ?_;refine⟨_,rfl,R.tk,fun v H2 s2 iv=>?_⟩;obtain rfl:=iv.mpr (show M7 (cpl (sW (nW n))) by rw[Bp];exact(JS okp.1).1);symm;exists Fe ?_;exact⟨x,.nt n p p',r,rfl,R.same s2,okp,trivial,dp,hh,q.on (.sm s2)⟩
 | pr w p p'=>
  obtain⟨z,t,e,hz⟩:=p.hd;have e1:inn (.pr w p p') r=z::(t++sg w.s::(p'.tok++r)):=by
   show p.tok++_=_;rw[e];rfl
  have R':=R;rw[e1] at R' ⊢;obtain⟨n1,n2,n3⟩:V.str (sW z)≠V.str "not"/\V.str (sW z)≠V.str "every"/\∃c u,z=c::u/\¬(c=45\/48<=c/\c<=57):=by
   have g:∀{y:String} {c:Nat} {u:Wd},z=sg y->sg y=c::u->¬(c=45\/48<=c/\c<=57)->Str.ofString y≠Str.ofString "not"->Str.ofString y≠Str.ofString "every"->V.str (sW z)≠V.str "not"/\V.str (sW z)≠V.str "every"/\∃c u,z=c::u/\¬(c=45\/48<=c/\c<=57):=fun a b c d e=>by
    rw[a];exact⟨Yd d,Yd e,_,_,b,c⟩
   rcases zo.mp hz with h | hz
   ·exact g h rfl nofun ∅ ∅
   rcases zo.mp hz with h | hz
   ·exact g h rfl nofun ∅ ∅
   rcases zo.mp hz with h | hz
   ·exact g h rfl nofun ∅ ∅
   rcases zo.mp hz with h | hz
   ·exact g h rfl nofun ∅ ∅
   ·exact g (y:="(") ((xc.mp hz).trans ∅) rfl nofun ∅ ∅
  exists CT n1 ?_;exists CT n2 ?_;refine⟨_,rfl,R'.tk,fun v H2 s2 iv=>?_⟩;obtain rfl:v=false:=by
   cases v with
   | false=>rfl
   | true=>
    have:=iv.mp rfl;rw[show (z::(t++sg w.s::(p'.tok++r))).headD []=z from rfl,Bp] at this;obtain⟨c,u,rfl,n⟩:=n3;exact absurd (qL this) n
  symm;exists Eg ?_;exact⟨x,.pr w p p',r,rfl,R.same s2,okp,trivial,dp,hh,q.on (.sm s2)⟩
 | _=>exact(cp.elim id fun z=>z.elim id id).elim
theorem W8:Cy ["reader","word","plan","numbers"] ["reader"] (BX Jw):=by walk_at"s"
theorem Xm{k d:Nat}(F:Fun K "take_plan" "take_plan" Jw f fd)(ab:C0 (k+2) "take_within" ["reader"] ((RQ Bf) d))(hk:8<=k):F0 (k+3) f fd ["reader"] ((Jv Bf) (d+1)):=by
 refine F.ok (k:=k+2) W8 (fun h=>?_) fun nd H vs Q E hr h=>?_
 ·obtain⟨x,p,r,rfl,_⟩:=h;rfl
 obtain⟨x,p,r,rfl,R,okp,_,dp,hh,q⟩:=h;obtain⟨dx,fs,hx,l1,_⟩:=R.ob;refine⟨_,(Ac (Aj 1 (Cu Cr Bk (pv 0))) (Ac (Ax (PW.pt (Hh (Ai BW (pv 1) Ah (An _)) (GK (Ai BW (pv 1) Ah (An _))))) (Ad (Al (BJ (Aa (pv 1) Ab)))) Ao) (Ac (Ax (Ai BW (pv 1) Ah (An _)) (Ac (Aj 3 (Ag Pg (Aa (pv 0) Ab))) (Ad (Al (BJ (Aa (pv 1) (Aa (pxT 3) (Aa (pxT 3) Ab))))))) Ao) (Ac (Ax (Ai BW (pv 1) Ah (An _)) (Ad (Al (Ag aB (Aa (pv 0) Ab)))) Ao) (Ac (Ax (Ai Gf (pv 1) Ah (An _)) (Ad BZ) Ao) (Ac (Aj 2 (Ag ab (Aa (pv 0) Ab))) (Ac (Bh (Ag KH (Aa (pv 0) (Aa Ah Ab)))) (Ad (Al (pv 2)))))))))),?_⟩
 symm;exists⟨x,dx,_,rfl,hx,l1,?_⟩;exists⟨x,_,rfl,R,fun H1 k1 R1=>?_⟩;cases p with
 | lf b=>
  cases b with
  | true=>
   refine Gy (Hg "all") ?_;exists Fe ?_;refine⟨(by show 1<=sizeLine;decide),fun a ha=>?_⟩;refine fresh ha fun H4 s4 t4=>?_;exact q _ H4 (k1.tr (.sm s4)) (R1.same s4) ⟨a,rfl,by rw[t4];exact yk (fun z=>some (HO.tup [z])) (Hg "all")⟩
  | false=>
   walk_at"nw";exists Gy (Hg "none") ?_;refine⟨(by show 1<=sizeLine;decide),fun a ha=>?_⟩;refine fresh ha fun H4 s4 t4=>?_;exact q _ H4 (k1.tr (.sm s4)) (R1.same s4) ⟨a,rfl,by rw[t4];exact yk (fun z=>some (HO.tup [z])) (Hg "none")⟩
 | each n m=>
  walk_at"nw";walk_at"nw";walk_at"ew";exists⟨x,n,m,r,rfl,R1,okp.1,okp.2.1,fun a H2 k2 R2 t2=>?_⟩;exists Aw (SqT.of t2) at0 ?_;exists Aw (SqT.of t2) at1 ?_;refine⟨(by show 3<=sizeLine;decide),fun b hb=>?_⟩;refine fresh hb fun H4 s4 t4=>?_;exact q _ H4 ((k1.tr k2).tr (.sm s4)) (R2.same s4) ⟨b,rfl,by rw[t4];exact yk (fun z=>some (HO.tup [z,_,_])) (Hg _)⟩
 | date nm m e y=>
  walk_at"nw";walk_at"nw";walk_at"nw";walk_at"ew";exact⟨x,nm,m,e,y,r,rfl,R1,okp,hh,q.on k1⟩
 | _=>
  walk_at"nw";walk_at"nw";walk_at"nw";walk_at"nw";refine Gh (by show V.str (sW kL)=_;rw[xf];exact Hg _) ?_;symm;refine⟨x,_,kR::r,rfl,by simp only[PT.tok,ji6,jc4,jk2] at R1;exact R1,okp,by first | exact trivial | exact .inl trivial | exact .inr (.inl trivial) | exact .inr (.inr trivial),dp,(show kR≠sg "each" by ac_rfl),fun v H2 k2 R2 P2=>?_⟩
  symm;refine⟨x,_,r,rfl,by rw[show cpl ")"=kR by ac_rfl];exact R2,fun H3 k3 R3=>?_⟩;symm;exact q _ H3 ((k1.tr k2).tr k3) R3 (PlH.kb R2 k3 P2)
theorem DR:C0 131 "take_plan" ["reader"] ((Jv Bf) 41):=Xb (k0:=8) (J:=3) (sp:=(Jv Bf)) (st:=Jw) gX gG (by walk_at"g") (by walk_at"b") (fun _ _ _ _ h=>Yr h) (fun d _ _ R F=>by
 have hk:8<=8+3*d:=jc1 _ _;have ab:C0 ((8+3*d)+1) "take_numbered" ["reader"] ((W4 Bf) d):=co (st:=HY) (by walk_at"g") (by walk_at"b") fun F=>N8 F R hk;have ac:C0 ((8+3*d)+1) "take_every" ["reader"] ((RV Bf) d):=co (st:=JQ) (by walk_at"g") (by walk_at"b") fun F=>VN F R hk;have ad:C0 ((8+3*d)+1) "take_pair" ["reader"] ((W3 Bf) d):=co (st:=Jx) (by walk_at"g") (by walk_at"b") fun F=>Xn F R hk;have ae:C0 ((8+3*d)+2) "take_within" ["reader"] ((RQ Bf) d):=co (st:=Ik) (by walk_at"g") (by walk_at"b") fun F=>Sw F R ac ab ad hk;exact Xm F ae hk) 41
theorem aL:C0 8 "made_date" ["plan","calendars"] (uF K Ba CL Bl Bc Aq):=by
 refine co' ["plan","calendars","name"] ZD fun nd H vs Q E hr h=>?_;obtain⟨v,a,m,d,g,rfl,⟨q0,rfl,hq⟩,ok,sm,⟨kv,z,hk,ez,C⟩,q⟩:=h;have dg:Qs H a (.str (sW (sg "c"))) (some (.ref z)):=.inl ⟨_,.inr (sW (sg "c")),.inl hk,rfl,ez.symm⟩;refine⟨_,(Ac (Aj 2 (pxT 0))
  (Ac (Ax (Xe (Vr (gP hr) (pv 2) (pv 1)))
   (Ad BZ)
   Ao)
  (Ad (Al (GP Ox (Aa (pv 2) (Aa (fY (gP hr) (pv 1) (pv 2) (fun _ _=>rfl)) (Aa (pxT 0) (Aa (pxT 0) (Aa (pxT 0) (Aa (pxT 0) Ab))))))))))),?_⟩
 symm;exists Aw (SqT.of hq) Hf ?_;unfold Ws;symm;refine⟨a,some (.ref z),rfl,dg,?_⟩;refine⟨_,rfl,?_⟩;exists Eg ?_;unfold mQ;symm;exists⟨a,.ref z,rfl,dg,?_⟩;exists Aw (SqT.of hq) Ur ?_;exists Aw (SqT.of hq) rO ?_;exists Aw (SqT.of hq) AEJ ?_;exists Aw (SqT.of hq) AEI ?_;exact fun x dx hx hdx ne=>⟨x,z,_,g,m,d,rfl,∅,FQ.same C (Ii hx hdx ne),sm,ok.2.2.2.2.1,fun i e=>CZ (ok.2.1 i e),ok.2.2.2.2.2,fun i e=>CZ (ok.2.2.1 i e),.go hx hdx ne fun b H' s N r=>⟨rfl,q.go s N r⟩⟩
theorem aK:C0 12 "made_pair" ["word","one","other"] (uE K Ba CL):=by
 refine co' ["word","one","other"] ZC fun nd H vs Q E hr h=>?_;obtain⟨w,x,y,n1,n2,b1,b2,rfl,R1,R2,lz,q⟩:=h;refine⟨_,(Ac (Ax (Ai BW (pv 0) Ah (An _)) (Ad (Al (GP Qq (Aa (pv 1) (Aa (pv 2) Ab))))) Ao) (Ac (Ax (Ai BW (pv 0) Ah (An _)) (Ad (Al (GP My (Aa (pv 1) (Aa (pv 2) Ab))))) Ao) (Ac (Ax (Ai BW (pv 0) Ah (An _)) (Ad (Al (GP Uj (Aa (pv 1) (Aa (pv 2) Ab))))) Ao) (Ac (Ax (Ai BW (pv 0) Ah (An _)) (Ad (Al (GP Mu (Aa (pv 1) (Aa (pv 2) Ab))))) Ao) (Ac (Ax (Ai BW (pv 0) Ah (An _)) (Ad (Al (GP Qk (Aa (pv 1) (Aa (pv 2) Ab))))) Ao) (Ac (Ax (Ai BW (pv 0) Ah (An _)) (Ad (Al (GP Oq (Aa (pv 1) (Aa (pv 2) Ab))))) Ao) (Ac (Ax (Ai BW (pv 0) Ah (An _)) (Ad (Al (GP Qm (Aa (pv 1) (Aa (pv 2) Ab))))) Ao) (Ad (Al (GP Ql (Aa (pv 1) (Aa (pv 2) Ab)))))))))))),?_⟩
 symm;cases w<;>(repeat walk_at"nw")<;>(try walk_at"ew")<;>exact fun y dy hy hdy ne=>ADv R1 R2 lz hy hdy ne fun b H' s N R=>⟨rfl,q _ b H' s N R⟩
theorem uU:Cy ["plan","calendars","word","one"] ["plan","calendars"] (BX bV):=by walk_at"s"
theorem uz{k d:Nat}(F:Fun K "made" "made" bV f fd)(Jd:C0 k "made" ["plan","calendars"] ((RT K Ba CL Bl Bc Aq) d))(hk:12<=k):F0 (k+1) f fd ["plan","calendars"] ((RT K Ba CL Bl Bc Aq) (d+1)):=by
 refine F.ok (k:=k+0) uU (fun h=>?_) fun nd H vs Q E hr h=>?_
 ·obtain⟨v,a,p,g,rfl,_⟩:=h;rfl
 obtain⟨v,a,p,g,rfl,P,ok,kn,dp,D0,Di,lz,q⟩:=h;refine⟨_,(Ac (Aj 2 (pxT 0)) (Ac (Ax (Ai BW (pv 2) Ah (An _)) (Ad (Al (cJ Ul (hr.mono ⋯) rfl))) Ao) (Ac (Ax (Ai BW (pv 2) Ah (An _)) (Ad (Al (cJ Vc (hr.mono ⋯) rfl))) Ao) (Ac (Ax (Ai BW (pv 2) Ah (An _)) (Ad (Al (GP Qo (Aa (pxT 0) (Aa (pxT 0) Ab))))) Ao) (Ac (Ax (Ai BW (pv 2) Ah (An _)) (Ad (Al (Ag aL (Aa (pv 0) (Aa (pv 1) Ab))))) Ao) (Ac (Ax (Ai BW (pv 2) Ah (An _)) (Ad (Al (GP Ue (Aa (Ag Jd (Aa (pxT 0) (Aa (pv 1) Ab))) Ab)))) Ao) (Ac (Ax (Ai BW (pv 2) Ah (An _)) (Ad (Al (GP Ou (Aa (pxT 0) (Aa (Ag Jd (Aa (pxT 0) (Aa (pv 1) Ab))) Ab))))) Ao) (Ac (Ax (Ai BW (pv 2) Ah (An _)) (Ad (Al (GP Ov (Aa (pxT 0) (Aa (Ag Jd (Aa (pxT 0) (Aa (pv 1) Ab))) (Aa (pxT 0) Ab)))))) Ao) (Ac (Ax (Ai BW (pv 2) Ah (An _)) (Ac (Aj 3 (Ag Jd (Aa (pxT 0) (Aa (pv 1) Ab)))) (Ad (Al (GP Ui (Aa (pxT 0) (Aa (pv 3) (Aa (Ag Jd (Aa (pxT 0) (Aa (pv 1) Ab))) Ab))))))) Ao) (Ac (Aj 3 (Ag Jd (Aa (pxT 0) (Aa (pv 1) Ab)))) (Ad (Al (Ag aK (Aa (pv 2) (Aa (pv 3) (Aa (Ag Jd (Aa (pxT 0) (Aa (pv 1) Ab))) Ab)))))))))))))))),?_⟩
 cases p with
 | lf b=>
  obtain⟨q0,rfl,hq⟩:=P;symm;exists Aw (SqT.of hq) Ez ?_;cases b with
  | true=>
   walk_at"ew";exact fun x dx hx hdx ne=>⟨x,rfl,.go hx hdx ne fun b H' s N eb=>⟨rfl,q.go s N eb⟩⟩
  | false=>
   walk_at"nw";walk_at"ew";exact fun x dx hx hdx ne=>⟨x,rfl,.go hx hdx ne fun b H' s N eb=>⟨rfl,q.go s N eb⟩⟩
 | each n r=>
  obtain⟨q0,rfl,hq⟩:=P;symm;exists Aw (SqT.of hq) Ez ?_;walk_at"nw";walk_at"nw";walk_at"ew";exists Aw (SqT.of hq) Hf ?_;exists Aw (SqT.of hq) Ur ?_;exact fun x dx hx hdx ne=>⟨x,n,r,rfl,ok.2.2.1,by have:=ok.2.2.2;lia,.go hx hdx ne fun b H' s N B=>⟨rfl,q.go s N B⟩⟩
 | date nm m e y=>
  obtain⟨q0,rfl,hq⟩:=P;symm;exists Aw (SqT.of hq) Ez ?_;walk_at"nw";walk_at"nw";walk_at"nw";walk_at"ew";obtain⟨rfl,rfl⟩:=kn;exact⟨_,a,m,e,g,rfl,⟨q0,rfl,hq⟩,ok,D0,Di,q⟩
 | no p=>
  obtain⟨q0,u,rfl,hq,P⟩:=P;symm;exists Aw (SqT.of hq) Ez ?_;walk_at"nw";walk_at"nw";walk_at"nw";walk_at"nw";walk_at"ew";exists Aw (SqT.of hq) Hf ?_;exists⟨u,a,p,g,rfl,P,ok,kn,jj3 dp,D0,Di,lz,fun t H1 s1 T F=>?_⟩;exact fun x dx hx hdx ne=>⟨x,t,_,_,rfl,T.same (Ii hx hdx ne),.go hx hdx ne fun b H' s N r=>⟨rfl,q.go (s1.trans s) N ⟨r,T.lt,F⟩⟩⟩
 | la k p=>
  obtain⟨q0,u,rfl,hq,P⟩:=P;symm;exists Aw (SqT.of hq) Ez ?_;walk_at"nw";walk_at"nw";walk_at"nw";walk_at"nw";walk_at"nw";walk_at"ew";exists Aw (SqT.of hq) Hf ?_;exists Aw (SqT.of hq) Ur ?_;exists⟨u,a,p,g,rfl,P,ok.2,kn,jj3 dp,D0,Di,lz,fun t H1 s1 T F=>?_⟩;exact fun x dx hx hdx ne=>⟨x,t,k,_,_,rfl,CZ ok.1,T.same (Ii hx hdx ne),.go hx hdx ne fun b H' s N r=>⟨rfl,q.go (s1.trans s) N ⟨r,T.lt,F⟩⟩⟩
 | nt k p p'=>
  obtain⟨q0,u,u',rfl,hq,P,P'⟩:=P;have dp:max p.deep p'.deep+1<d+1:=dp;have lz:Bj (p.sz g) (p'.sz g)<=150000:=lz;have ll:=qC (PT.sz_pos D0 ok.2.1) (PT.sz_pos D0 ok.2.2.1);symm;exists Aw (SqT.of hq) Ez ?_;walk_at"nw";walk_at"nw";walk_at"nw";walk_at"nw";walk_at"nw";walk_at"nw";walk_at"nw";walk_at"ew";exists Aw (SqT.of hq) Ur ?_;exists⟨u,a,p,g,rfl,P,ok.2.1,kn.1,⋯,D0,Di,⋯,fun t H1 s1 T F=>?_⟩;exists Aw (SqT.of (s1 _ _ hq)) Hf ?_;exists Aw (SqT.of (s1 _ _ hq)) rO ?_;exists⟨u',a,p',g,rfl,P'.same s1,ok.2.2.1,kn.2,⋯,D0,Di.same s1,⋯,fun t' H2 s2 T' F'=>?_⟩;exact fun x dx hx hdx ne=>⟨x,t,t',k,_,_,_,_,rfl,ok.2.2.2,CZ ok.1,(T.same s2).same (Ii hx hdx ne),T'.same (Ii hx hdx ne),lz,.go hx hdx ne fun b H' s N r=>⟨rfl,q.go ((s1.trans s2).trans s) N ⟨r,⟨T.lt,F⟩,T'.lt,F'⟩⟩⟩
 | pr w p p'=>
  obtain⟨q0,u,u',rfl,hq,P,P'⟩:=P;have dp:max p.deep p'.deep+1<d+1:=dp;have lz:Bj (p.sz g) (p'.sz g)<=150000:=lz;have ll:=qC (PT.sz_pos D0 ok.1) (PT.sz_pos D0 ok.2);have no:∀{z:String},z∈["all","none","each","date","not","later","every","of"]->V.str (Str.ofString w.s)≠V.str (Str.ofString z):=fun h z=>ACi w _ h (V.str.inj z);symm;exists Aw (SqT.of hq) Ez ?_;exists CT (no nofun) ?_;exists CT (no nofun) ?_;exists CT (no nofun) ?_;exists CT (no nofun) ?_;exists CT (no nofun) ?_;exists CT (no nofun) ?_;exists CT (no nofun) ?_;exists CT (no nofun) ?_;exists Aw (SqT.of hq) Hf ?_;exists⟨u,a,p,g,rfl,P,ok.1,kn.1,⋯,D0,Di,⋯,fun t H1 s1 T F=>?_⟩;exists Aw (SqT.of (s1 _ _ hq)) Ur ?_;exists⟨u',a,p',g,rfl,P'.same s1,ok.2,kn.2,⋯,D0,Di.same s1,⋯,fun t' H2 s2 T' F'=>?_⟩;refine⟨w,t,t',_,_,_,_,rfl,T.same s2,T',lz,fun z b H' s N B=>q.go ((s1.trans s2).trans s) N ⟨B,⟨T.lt,F⟩,T'.lt,F'⟩⟩
theorem Jd:C0 53 "made" ["plan","calendars"] ((RT K Ba CL Bl Bc Aq) 41):=Xb (k0:=12) (J:=1) (sp:=(RT K Ba CL Bl Bc Aq)) (st:=bV) gX gG (by walk_at"g") (by walk_at"b") (fun _ _ _ _ h=>Ys h) (fun d _ _ R F=>by
 have hk:12<=12+1*d:=jc1 _ _;exact uz F R hk) 41
theorem aD:C0 132 "read_rule" ["text","calendars"] (yo K Ba CL Bl Bc Aq):=by
 refine co' ["text","calendars","reader","plan"] Y6 fun nd H vs Q E hr h=>?_;obtain⟨a,p,g,rfl,ok,kn,tl,dl,mn,D0,Di,lz,q⟩:=h;obtain⟨es,tk,dk,co⟩:=PT.rdy ok tl dl;have W:=PT.wf ok;refine⟨_,(Ac (Ax (G3 (El (Ag K6 (Aa (pv 0) Ab)))) (Ad BZ) Ao) (Ac (Aj 2 (GP Mw (Aa (Ag dU (Aa (pv 0) Ab)) Ab))) (Ac (Aj 3 (Ag DR (Aa (pv 2) Ab))) (Ac (Ax (Ai Gf (Cu GR Bk (pv 2)) Ah (An _)) (Ad BZ) Ao) (Ad (Al (Ag Jd (Aa (pv 3) (Aa (pv 1) Ab))))))))),?_⟩
 symm;refine⟨_,rfl,tk,by rw[DQ];exact tl,?_⟩;symm;exists Eg ?_;refine⟨_,rfl,tk,by rw[Bp];exact tl,by rw[Bp,es];exact co,by rw[Bp,es];exact dk,fun l H1 s1 t1=>?_⟩;rw[Bp,es,W.tk] at t1;symm;refine fun x dx hx hdx ne=>⟨x,dx,l,p.tok,rfl,Am,Ii hx hdx ne _ _ t1,?_,PT.tok_ok ok,fun H2 k2 R2=>⟨rfl,?_⟩⟩
 ·have:=PT.tok_len p;lia
 have s2:=Vu hx hdx ne k2;have hxH:H x=none:=s1.free hx;have kbS:∀{H':Hp},KB x H2 H'->Az H H':=fun{H'} kb y o e=>kb y o (Bu e hxH) ((s1.trans s2) _ _ e);symm;refine⟨x,p,[],rfl,by show Rd _ _ _ (p.tok++[]);rw[yy];exact R2,ok,trivial,⋯,∅,fun v H3 k3 R3 P3=>?_⟩;symm;obtain⟨d3,fs,hx3,_,l3⟩:=R3.ob;exists⟨x,d3,_,rfl,hx3,l3,?_⟩;exists⟨x,_,rfl,R3,?_⟩;refine Gh (by rw[nj];rfl) ?_;symm;have s3:=kbS k3;exact⟨v,a,p,g,rfl,P3,ok,kn,⋯,D0,Di.same s3,lz,fun t H' s T F=>q t H' (s3.trans s) T F⟩
theorem aN:C0 2 "folded" ["turn","size"] (nO K):=by
 refine co' ["turn","size","bits","shift"] oG fun nd H vs Q E hr h=>?_;obtain⟨a,n,z,b,rfl,hS,n0,n1,hb,z0,hd,q⟩:=h;have zn:z<=n:=jk6 n0 hd;refine⟨_,(Ac (Bh (Ag CN (Aa (pv 1) Ab))) (Ac (Ax (Ai Gf (Af Be (pxT 0) (pv 1)) Ae (An _)) (Ad BZ) Ao) (Ac (Aj 2 (pxT 0)) (Ac (Aj 3 (pv 1)) (Ac (Ht PassesOwn.never (Ai FT (pv 3) (pxT 0) (An _)) (Ac (Aj 2 (Af Vs (pv 2) (Af LC (pv 2) (pv 3)))) (Ad (Aj 3 (Af Ca (pv 3) Ae))))) (Ad (Al (BJ (Aa (pv 1) (Aa (Af Hv (pv 2) (Ag Gj (Aa (pv 1) Ab))) Ab)))))))))),?_⟩
 symm;exists⟨z,rfl,⋯,?_⟩;exists Aw hS at0 ?_;rw[vj hd];exists Gh rfl ?_;exists Aw hS at1 ?_;refine⟨fun m Z' H'=>H'=H/\∃wd c:Nat,Z'=[some (.ref a),some (.int z),some (.int (c:Int)),some (.int ((wd*z.toNat:Nat):Int))]/\0<wd/\wd*z.toNat<=300000/\Fold z.toNat b wd c/\m=n.toNat-wd*z.toNat,
  ⟨_,rfl,1,b,?_,⋯,⋯,Fold.start _ _,rfl⟩,?_⟩
 ·have e:(((1*z.toNat:Nat)):Int)=z:=⋯
  rw[e]<;>rfl
 rintro m Z' H' ⟨rfl,wd,c,rfl,w0,w1,F,rfl⟩;have wz:0<wd*z.toNat:=Nat.mul_pos w0 ⋯;symm;exists Aw hS at0 ?_;refine Cd (fun cc=>?_) (fun cc=>?_)
 ·exists⟨_,fun Z' H' hh=>hh,?_⟩;exists Dn (show (0:Int)<=((wd*z.toNat:Nat):Int) by lia) ?_;refine Dn ⟨64,64,by unfold Bt;lia,(by unfold Bt;decide),nofun⟩ ?_;symm;rw[xa,HN,Gm];have e2:wd*2*z.toNat=wd*z.toNat*2:=by rw[Nat.mul_right_comm]
  refine⟨n.toNat-wd*2*z.toNat,⋯,rfl,wd*2,c ||| (c >>> (wd*z.toNat)),?_,⋯,⋯,F.dbl,rfl⟩;rw[e2]<;>rfl
 ·symm;exists⟨z,rfl,⋯,⋯,?_⟩;rw[Dm];exact⟨DY,fun p hp=>q p _ hp ⟨Ke _ _,fun r hr=>F.done hb ⋯ ⋯ hr⟩⟩
theorem UG:C0 3 "next_day" ["turn","day"] (yz K):=by
 refine co' ["turn","day","bits"] bU fun nd H vs Q E hr h=>?_;obtain⟨a,n,d,b,rfl,hS,h0,h1,hb,_,qN,q⟩:=h;refine⟨_,(Ac (Aj 2 (Dr J8 (Ag Je (Aa (pv 0) (Aa (HQ Ft (pv 1)) Ab))) Ae (fun _ _=>rfl)))
  (Ac (Ax (Ai BW (pv 2) Ae (An _))
   (Ad (Al G4))
   Ao)
  (Ad (Al (Af Dh (Af Bm (pv 1) (pD PySem.F.plainAttrs_int PySem.F.slot_int_bit_length PySem.F.type_int_bit_length gD (Af Hv (pv 2) (HQ Ft (pv 2))))) Ae))))),?_⟩
 symm;refine⟨a,n,-d,b,rfl,hS,h0,h1,hb,fun p hp=>?_⟩;have s1:=Ar hp (.tup [.int n,.int ((lat n.toNat b ((-d)%n).toNat:Nat):Int)]);generalize hc:lat n.toNat b ((-d)%n).toNat=c at*
 have bit:∀i:Nat,i<n.toNat->c.testBit i=On n b ((i:Int)+d):=fun i hi=>by
  have:=TF (num:= -d) (d:=(i:Int)) h0 hb;rw[hc] at this;rw[show (i:Int)+d=(i:Int)- -d by lia,<-this];unfold On;rw[Zl ⋯ ⋯,xa]
 have cl:c<2^n.toNat:=by rw[<-hc];exact Ob _ _ _
 symm;exists Aw (SqT.of Am) at1 ?_;by_cases c0:c=0
 ·refine Gy (by rw[c0];rfl) ?_;symm;refine qN (fun e=>?_) _ s1;have e1:=qg (e-d) (show n≠0 by lia);have e2:=jv (e-d) h0;have:=bit ((e-d)%n).toNat ⋯;rw[c0,jd5,jc2 e1] at this;rw[this];unfold On
  congr 2
  rw[Int.emod_add_emod]
  congr 1
  lia
 refine CT (fun z=>c0 (by injection z with z;lia)) ?_;symm;obtain⟨k,hk,hlow⟩:=AAe c0;have kn:k<n.toNat:=by
  refine ji9 fun z=>?_;rw[high cl z] at hk;cases hk
 have la:=gH k c hk hlow;have eb:Builtin.bitAnd (c:Int) (-(c:Int))=((2^k:Nat):Int):=by
  rw[dY c0];lia
 rw[eb,PB (by have:=Zp k;lia),pY];symm;refine q _ _ s1 ⋯ ?_ (fun e he1 he2=>?_)
 ·have:=bit k kn;rw[hk] at this;rw[this]
  congr 1
  lia
 ·have:=bit (e-d).toNat ⋯;rw[hlow (e-d).toNat ⋯,jc2 ⋯] at this;rw[this]
  congr 1
  lia
theorem Oj:C0 5 "first_of_pairs" ["one","other","day"] nP:=by
 refine co' ["one","other","day","told","rests","other_rests","rest","other_rest","alike"] Ni fun nd H vs Q E hr h=>?_;obtain⟨a1,a2,n,b,m,c,d,rfl,R1,R2,hfew,hM,q⟩:=h;refine⟨_,(Ac (Aj 3 (Du Ab)) (Ac (Aj 4 (Ag Om (Aa (pv 0) Ab))) (Ac (Aj 5 (Ag Om (Aa (pv 1) Ab))) (Ac (Hu PassesOwn.never rfl (Gu (pv 4)) (CQ (i:=6) nd rfl (by walk_at"o")) (Ad (Hu PassesOwn.never rfl (Gu (pv 5)) (CQ (i:=7) nd rfl (by walk_at"o")) (Ac (Aj 8 (Ag ADP (Aa (pv 6) (Aa (pxT 0) (Aa (pv 7) (Aa (pxT 1) Ab)))))) (Ad (Do (Ax (Ai fu (pv 8) G4 (An _)) (Ad (Bh (GQ Jn PySem.F.slot_list_append PySem.F.type_list_append Oa (pv 3) (Aa (Ag wG (Aa (pxT 8) (Aa (pxT 8) (Aa (pv 2) Ab)))) Ab)))) Ao))))))) (Ad (Al (Bd (WP rfl) rfl wZ PyProof.Rows.boot_min (Aa (pv 3) Ab)))))))),?_⟩
 have n1:=R1.2.1;have m1:=R2.2.1;have n0:=R1.1;have m0:=R2.1;symm;refine⟨(by show 0<=sizeLine;decide),fun lt hlt=>?_⟩;refine fresh hlt fun H1 s1 t1=>?_;have t1:H1 lt=some (.lst (([]:List Int).map V.int)):=t1;symm;refine⟨a1,_,b,rfl,(R1.keep s1).sq,R1.n0,⋯,R1.lt,fun l1 H2 hl1 s2 u1=>?_⟩;have ne1:l1≠lt:=fun z=>by rw[z,t1] at hl1;cases hl1
 have t2:=s2 _ _ t1;symm;refine⟨a2,_,c,rfl,(R2.keep (s1.trans s2)).sq,R2.n0,⋯,R2.lt,fun l2 H3 hl2 s3 u2=>?_⟩;have ne2:l2≠lt:=fun z=>by rw[z,t2] at hl2;cases hl2
 have t3:=s3 _ _ t2;have u1':=s3 _ _ u1;rw[xa] at u1' u2;have s123:=(s1.trans s2).trans s3;symm;walk_at"f";symm;have AAh:(dli b n).length=cnt b n:=by unfold dli;rw[jp,dO]
 have vK:(dli c m).length=cnt c m:=by unfold dli;rw[jp,dO]
 have on1:∀r∈dli b n,0<=r/\r<(n:Int)/\On (n:Int) b r=true:=fun r hr=>by
  obtain⟨h1,h2,h3⟩:=JV.mp hr;refine⟨h1,h2,?_⟩;unfold On;rw[Zl h1 h2];exact h3
 have on2:∀r∈dli c m,0<=r/\r<(m:Int)/\On (m:Int) c r=true:=fun r hr=>by
  obtain⟨h1,h2,h3⟩:=JV.mp hr;refine⟨h1,h2,?_⟩;unfold On;rw[Zl h1 h2];exact h3
 refine⟨l1,rfl,⟨_,SqL.of u1'⟩,JF (xs:=(dli b n).map V.int) (fun i Z' H'=>An4 (Az H H') (H' l1=some (.lst ((dli b n).map V.int))) (H' l2=some (.lst ((dli c m).map V.int))) (Ex4 fun(xs:List Int) (v1 v2 v3:Option V)=>An4 (H' lt=some (.lst (xs.map V.int))) (xs.length<=i*cnt c m) (FP n b m c d xs (fun r s=>r∈(dli b n).take i/\s∈dli c m)) (Z'=[some (.ref a1),some (.ref a2),some (.int d),some (.ref lt),some (.ref l1),some (.ref l2),v1,v2,v3])))
  ⟨s123,u1',u2,[],_,_,_,t3,(by simp),FP.start.imp (fun r s h=>by simp at h),rfl⟩ ?_ ?_ ?_⟩
 ·rintro i Z' H' _ ⟨_,h,_⟩;exact SqL.of h
 ·rintro i x Z' H4 hx ⟨s4,w1,w2,xs,v1,v2,v3,t4,xl,F,rfl⟩;rw[xo] at hx;obtain⟨r,hr,rfl⟩:=kq.mp hx;have hrm:=zk hr;obtain⟨r0,r1,ro⟩:=on1 r hrm;have il:i<cnt b n:=by
   rw[<-AAh];exact(qv.mp hr).1
  symm;walk_at"f";symm;refine⟨l2,rfl,⟨_,SqL.of w2⟩,JF (xs:=(dli c m).map V.int) (fun j Z' H'=>An4 (Az H H') (H' l1=some (.lst ((dli b n).map V.int))) (H' l2=some (.lst ((dli c m).map V.int))) (Ex3 fun(ys:List Int) (v2 v3:Option V)=>An4 (H' lt=some (.lst (ys.map V.int))) (ys.length<=xs.length+j) (FP n b m c d ys (fun x s=>( x∈(dli b n).take i/\s∈dli c m)\/( x=r/\s∈(dli c m).take j))) (Z'=[some (.ref a1),some (.ref a2),some (.int d),some (.ref lt),some (.ref l1),some (.ref l2),some (.int r),v2,v3])))
   ⟨s4,w1,w2,xs,_,_,t4,⋯,F.imp (fun r s h=>by
    rcases h with h | ⟨_,h⟩
    ·exact h
    ·simp at h),rfl⟩ ?_ ?_ ?_⟩
  ·rintro j Z' H' _ ⟨_,_,h,_⟩;exact SqL.of h
  ·rintro j y Z' H5 hy ⟨s5,z1,z2,ys,v2,v3,t5,yl,G,rfl⟩;rw[xo] at hy;obtain⟨s',hs',rfl⟩:=kq.mp hy;have hsm:=zk hs';obtain⟨q0,q1,qo⟩:=on2 s' hsm;have jl:j<cnt c m:=by
    rw[<-vK];exact(qv.mp hs').1
   have step:∀ ⦃x s:Int⦄,((x∈(dli b n).take i/\s∈dli c m)\/(x=r/\s∈(dli c m).take (j+1)))->((x∈(dli b n).take i/\s∈dli c m)\/(x=r/\s∈(dli c m).take j))\/(x=r/\s=s'):=fun x s h=>by
    rcases h with h | ⟨h1,h2⟩
    ·exact .inl (.inl h)
    ·rw[kx,hs'] at h2;rcases yi.mp h2 with z | z
     ·exact .inl (.inr ⟨h1,z⟩)
     ·exact .inr ⟨h1,by simpa using z⟩
   symm;exists Aw (R1.keep s5).sq at0 ?_;exists Aw (R2.keep s5).sq at0 ?_;refine⟨r,_,s',_,rfl,R1.n0,R2.n0,CK ⋯ ⋯ nofun,CK ⋯ ⋯ nofun,CK ⋯ ⋯ nofun,CK ⋯ ⋯ nofun,fun hn H6 s6=>?_,fun hd p6 e H6 s6 h6 M=>?_⟩
   ·symm;exists DG (fun Z' H'=>An4 (Az H H') (H' l1=some (.lst ((dli b n).map V.int))) (H' l2=some (.lst ((dli c m).map V.int))) (Ex3 fun(ys:List Int) (v2 v3:Option V)=>An4 (H' lt=some (.lst (ys.map V.int))) (ys.length<=xs.length+(j+1)) (FP n b m c d ys (fun x s=>( x∈(dli b n).take i/\s∈dli c m)\/( x=r/\s∈(dli c m).take (j+1)))) (Z'=[some (.ref a1),some (.ref a2),some (.int d),some (.ref lt),some (.ref l1),some (.ref l2),some (.int r),v2,v3]))) ?_ (fun Z' H' h=>h);exists⟨rfl,?_⟩;exists Gh rfl ?_;exact⟨s5.trans s6,s6 _ _ z1,s6 _ _ z2,ys,_,_,s6 _ _ t5,⋯,(G.skip hn).imp (fun x s h=>step h),rfl⟩
   ·have fl:=BV R1.n0 R2.n0;symm;exists DG (fun Z' H'=>An4 (Az H H') (H' l1=some (.lst ((dli b n).map V.int))) (H' l2=some (.lst ((dli c m).map V.int))) (Ex3 fun(ys:List Int) (v2 v3:Option V)=>An4 (H' lt=some (.lst (ys.map V.int))) (ys.length<=xs.length+(j+1)) (FP n b m c d ys (fun x s=>( x∈(dli b n).take i/\s∈dli c m)\/( x=r/\s∈(dli c m).take (j+1)))) (Z'=[some (.ref a1),some (.ref a2),some (.int d),some (.ref lt),some (.ref l1),some (.ref l2),some (.int r),v2,v3]))) ?_ (fun Z' H' h=>h);exists⟨rfl,?_⟩;exists Zq (by simp) ?_;exists jU rfl (s6 _ _ t5) ?_;exists Aw (SqT.of h6) at0 ?_;exists Aw (SqT.of h6) at1 ?_;exists⟨e,_,d,rfl,⋯,?_⟩;have yb:ys.length<200000:=by
     have a:=jg9 (cnt c m) (show i+1<=cnt b n by lia);rw[jl7] at a;lia
    refine zj (s6 _ _ t5) (by rw[jp,sizeLine_eq];lia) ?_;symm;refine⟨Fb hlt (s5.trans s6),by rw[BK ne1];exact s6 _ _ z1,by rw[BK ne2];exact s6 _ _ z2,ys++[_],_,_,?_,by simp;lia,(G.add n0 m0 M ro qo).imp (fun x s h=>step h),rfl⟩;rw[Am,vk];rfl
  ·rintro Z' H5 ⟨s5,z1,z2,ys,v2,v3,t5,yl,G,rfl⟩;rw[jp,vK] at yl;rw[jp,ja6] at G;refine⟨s5,z1,z2,ys,_,_,_,t5,by rw[jl7];lia,G.imp (fun x s h=>?_),rfl⟩;obtain⟨h1,h2⟩:=h;rw[kx,hr] at h1;rcases yi.mp h1 with z | z
   ·exact .inl ⟨z,h2⟩
   ·exact .inr ⟨by simpa using z,h2⟩
 ·rintro Z' H4 ⟨s4,w1,w2,xs,v1,v2,v3,t4,xl,F,rfl⟩;rw[jp,ja6] at F;symm;refine⟨lt,xs,rfl,SqL.of t4,F.ne n0 m0 hM,fun e he hm=>?_⟩;exact q e _ s4 (F.fst n0 m0 he hm)
theorem aO:C0 6 "first_met" ["one","other","day"] zK:=by
 refine co' ["one","other","day","size"] ZQ fun nd H vs Q E hr h=>?_;obtain⟨a1,a2,n,b,m,c,d,rfl,R1,R2,bd,hfew,hM,q⟩:=h;refine⟨_,(Ac (Aj 3 (Ag KQ (Aa (pxT 0) (Aa (pxT 1) Ab)))) (Ac (Ax (Ai J1 (pv 3) (CP rfl Vv (Cq _ _)) (An _)) (Ad (Al (Ag UG (Aa (Ag Jg (Aa (pv 0) (Aa (pv 1) Ab))) (Aa (pv 2) Ab))))) Ao) (Ac (Ax (Ai GD (Af Ca (Ag WQ (Aa (pxT 0) Ab)) (Ag WQ (Aa (pxT 1) Ab))) (CP rfl Xv (Cq _ _)) (An _)) (Ad BZ) Ao) (Ad (Al (Ag Oj (Aa (pv 0) (Aa (pv 1) (Aa (pv 2) Ab))))))))),?_⟩
 have n1:=R1.2.1;have m1:=R2.2.1;have n0:=R1.1;have m0:=R2.1;have fl:=BV R1.n0 R2.n0;symm;exists Aw R1.sq at0 ?_;exists Aw R2.sq at0 ?_;exists⟨_,_,rfl,R1.n0,R2.n0,CK ⋯ ⋯ nofun,CK ⋯ ⋯ nofun,fun H1 s1=>?_⟩;refine Cd (fun hl=>?_) (fun hl=>?_)
 ·symm;refine⟨a1,a2,_,_,b,c,rfl,⟨(R1.keep s1).sq,(R2.keep s1).sq,R1.n0,R2.n0,⋯,⋯,R1.lt,R2.lt⟩,hl,fun p x H2 s2 hp _ B=>?_⟩;have on:=fun e=>B.on R1.n0 R2.n0 fl.1 fl.2.1 fl.2.2.1 e;symm;refine⟨p,_,d,x,rfl,SqT.of hp,fl.1,hl,B.lt,bd,fun none H3 s3=>?_,fun r H3 s3 r1 r2 r3=>?_⟩
  ·exfalso;obtain⟨y,o1,o2⟩:=hM.day n0 m0;have:=on y;rw[none y,o1,o2] at this;cases this
  ·have e1:=on r;rw[r2] at e1;have e2:On (n:Int) b r=true/\On (m:Int) c r=true:=by
    revert e1;cases On (n:Int) b r<;>cases On (m:Int) c r<;>simp
   have no:∀y,d<=y->y<r->¬(On (n:Int) b y=true/\On (m:Int) c y=true):=fun y h1 h2 ⟨o1,o2⟩=>by
    have:=on y;rw[r3 y h1 h2,o1,o2] at this;cases this
   refine q r _ ((s1.trans s2).trans s3) ⟨r1,?_,e2.1,e2.2,no⟩;obtain⟨y,h1,h2,h3,h4⟩:=Wc (d:=d) n0 m0 e2.1 e2.2;refine Int.lt_of_not_ge fun z=>?_;exact no y h1 ⋯ ⟨h3,h4⟩
 ·have hc:cnt b n*cnt c m<=1000:=by
   rcases hfew with h | h
   ·exact absurd h hl
   ·exact h
  symm;exists Aw (R1.keep s1).sq at1 ?_;exists⟨b,n,rfl,R1.2.2.1,⋯,fun H2 s2=>?_⟩;exists Aw (R2.keep (s1.trans s2)).sq at1 ?_;refine⟨c,m,rfl,R2.2.2.1,⋯,fun H3 s3=>?_⟩;have c1:=dN b n;have c2:=dN c m;refine Dn ⟨64,64,by unfold Bt;lia,by unfold Bt;lia,nofun⟩ ?_;symm;rw[<-jh3];exists CT ⋯ ?_;have s4:=(s1.trans s2).trans s3;exact⟨a1,a2,n,b,m,c,d,rfl,R1.keep s4,R2.keep s4,hc,hM,fun e H4 s5 F=>q e _ (s4.trans s5) F⟩
theorem Tz:C0 7 "paper_of" ["words","one","other","day"] iy:=by
 refine co' ["words","one","other","day","size","bits","other_bits"] bR fun nd H vs Q E hr h=>?_;obtain⟨aw,a1,a2,w0,w1,n,b,m,c,d,rfl,hw,R1,R2,bd,hfew,q⟩:=h;refine⟨_,(Ac (Aj 4 (Ag Ol (Aa (pxT 1) (Aa (pxT 2) Ab))))
  (Ac (Aj 5 (Dr J8 (Ag aN (Aa (pv 1) (Aa (pv 4) Ab))) Ae (fun _ _=>rfl)))
  (Ac (Aj 6 (Dr J8 (Ag aN (Aa (pv 2) (Aa (pv 4) Ab))) Ae (fun _ _=>rfl)))
  (Ac (Ax (Ai BW (Af Hv (pv 5) (pv 6)) Ae (An _))
   (Ad (Al (BJ (Aa (pxT 0) (Aa (pv 4) (Aa (pv 5) (Aa (pv 6) Ab)))))))
   Ao)
  (Ad (Al (BJ (Aa (pxT 0) (Aa (Ag aO (Aa (pv 1) (Aa (pv 2) (Aa (pv 3) Ab)))) Ab))))))))),?_⟩
 have n1:=R1.2.1;have m1:=R2.2.1;have n0:=R1.1;have m0:=R2.1;have g0:0<Nat.gcd n m:=ji0 m n0;have eg:Int.gcd (n:Int) (m:Int)=Nat.gcd n m:=by rw[Int.gcd_eq_natAbs_gcd_natAbs,jl9,jl9]
 symm;exists Aw R1.sq at0 ?_;exists Aw R2.sq at0 ?_;refine⟨_,_,rfl,CK ⋯ ⋯ nofun,CK ⋯ ⋯ nofun,fun H1 s1=>?_⟩;rw[eg];symm;refine⟨a1,_,_,b,rfl,(R1.keep s1).sq,R1.n0,⋯,R1.lt,⋯,jd0.mpr (ji8 n m),fun p1 x hp1 F1=>?_⟩;have X1:=F1.rst g0;exists fresh hp1 fun H2 s2 t2=>?_;exists Aw (SqT.of t2) at1 ?_;refine⟨a2,_,_,c,rfl,(R2.keep (s1.trans s2)).sq,R2.n0,⋯,R2.lt,⋯,jd0.mpr (Nat.gcd_dvd_right n m),fun p2 y hp2 F2=>?_⟩;have X2:=F2.rst g0;refine fresh hp2 fun H3 s3 t3=>?_;have s4:=(s1.trans s2).trans s3;symm;exists Aw (SqT.of t3) at1 ?_;rw[Dm,qt];refine Cd (fun e=>?_) (fun e=>?_)
 ·symm;exists Aw (SqT.of (s4 _ _ hw)) at0 ?_;refine⟨four,fun p hp=>?_⟩;exact q p _ (s4.trans (Ar hp _)) (.never x y Am X1 X2 e ((Rst.meets n0 m0 X1 X2).mp e))
 ·have hM:Meets n b m c:=Classical.not_not.mp fun z=>e ((Rst.meets n0 m0 X1 X2).mpr z);symm;exists Aw (SqT.of (s4 _ _ hw)) at1 ?_;exists⟨a1,a2,n,b,m,c,d,rfl,R1.keep s4,R2.keep s4,bd,hfew hM,hM,fun r H4 s5 F=>?_⟩;refine⟨DY,fun p hp=>?_⟩;exact q p _ ((s4.trans s5).trans (Ar hp _)) (.meet r Am F hM)
theorem lF:C0 8 "meeting" ["one","other","day"] iz:=by
 refine co' ["one","other","day"] jK fun nd H vs Q E hr h=>?_;obtain⟨a1,a2,n,b,m,c,d,rfl,R1,R2,bd,hfew,q⟩:=h;exists⟨_,(Ad (Al (Ag Tz (Aa (BJ (Aa Ah (Aa Ah Ab))) (Aa (pv 0) (Aa (pv 1) (Aa (pv 2) Ab))))))),?_⟩;refine⟨DY,fun pw hpw=>?_⟩;have s1:=Ar hpw (.tup [.str "never",.str "meet"]);symm;exact⟨pw,a1,a2,"never","meet",n,b,m,c,d,rfl,Am,R1.keep s1,R2.keep s1,bd,hfew,fun p H' s2 M=>q p H' (s1.trans s2) M⟩
theorem rB:C0 8 "within" ["one","other","day"] iY:=by
 refine co' ["one","other","day"] n6 fun nd H vs Q E hr h=>?_;obtain⟨a1,a2,n,b,m,c,d,rfl,R1,R2,bd,hfew,q⟩:=h;refine⟨_,(Ad (Al (Ag Tz (Aa (BJ (Aa Ah (Aa Ah Ab))) (Aa (pv 0) (Aa (Ag Hr (Aa (pv 1) Ab)) (Aa (pv 2) Ab))))))),?_⟩;have m1:=R2.2.1;symm;refine⟨DY,fun pw hpw=>?_⟩;exists fresh hpw fun H1 s1 t1=>?_;refine⟨a2,_,c,rfl,(R2.keep s1).sq,R2.n0,⋯,R2.lt,fun po co hpo lo bo=>?_⟩;rw[xa] at lo bo;have s2:=Ar hpo (.tup [.int (m:Int),.int (co:Int)]);have Ro:Rnd 150000 (upd H1 po (.tup [.int (m:Int),.int (co:Int)])) po m co:=Rnd.new R2.1 m1 lo;have C:Cmp m c co:=⟨lo,bo⟩;symm;exact⟨pw,a1,po,"within","outside",n,b,m,co,d,rfl,s2 _ _ t1,R1.keep (s1.trans s2),Ro,bd,hfew co C,fun p H' s3 M=>q p co H' ((s1.trans s2).trans s3) C M⟩
theorem En:C0 2 "read_number" ["text"] nA:=by
 refine co' ["text"] U8 fun nd H vs Q E hr h=>?_;obtain⟨i,rfl,hi,q⟩:=h;have N:=JS hi;have tk:=vB hi;refine⟨_,(Ac (Ax (PW.pt (Hh (G3 (El (Bd Tr rfl JM jj5 (Aa (pv 0) (Aa (Xj rfl Cv qh (cB _)) Ab))))) (GK (G3 (El (Ag KN (Aa (pv 0) Ab))))))) (Ad BZ) Ao) (Ad (Al (BP Ff rfl Ld Xs (Aa (pv 0) Ab))))),?_⟩
 symm;exists cD (.txt _ tk) ?_;exists Eg ?_;refine⟨_,rfl,tk,fun b H1 s1 hb=>?_⟩;have eb:b=true:=hb.mpr (by rw[Bp];exact N.1);subst eb;symm;exists Eg ?_;have r:=Od (z:=sW (nW i)) (by rw[Bp];exact N.1);rw[Bp,N.2] at r;refine⟨_,_,rfl,?_,r,q _ s1⟩;have:=Es hi;rw[DQ];exact zv this nofun
theorem KJ:C0 3 "read_numbers" ["word"] iw:=by
 refine co' ["word"] Rf fun nd H vs Q E hr h=>?_;obtain⟨ns,rfl,hn,nl,sm,q⟩:=h;have sp:=cT hn sm;have jl:=Mj sm;exists⟨_,(Ad (Al (Fy rfl (Gd ["word"] rfl ∅ rfl ∅ rfl ∅ ∅) (Gu (GQ uu jb4 jb5 JC (pv 0) (Aa Ah Ab))) (fun _ _ _ _=>Ds) (fun _ _ _ _=>(Ag En (Aa (pv 0) Ab)))))),?_⟩;exists Fj (Lz ?_);exists JB ?_;exists⟨rfl,?_⟩;refine⟨_,44,rfl,by rw[show Str.ofString ","=⟨#[44]⟩ from by ac_rfl],nofun,by rw[DQ];lia,fun l hl=>?_⟩;rw[sp];refine fresh hl fun H1 s1 t1=>?_;refine⟨l,rfl,⟨_,SqL.of t1⟩,?_⟩;refine IK RJ (by rw[jp];exact Dz ⋯) (fun D i ys H2=>H2 D=some (.lst ys)/\Az H1 H2/\ys=(ns.take i).map V.int) (fun D hD=>⟨Am,Ar hD _,rfl⟩)
  (fun D i ys H2 _ ⟨h1,h2,h3⟩=>⟨h1,by rw[h3,jp];exact List.length_take_le _ _,SqL.of (h2 _ _ t1)⟩) (fun D i x ys H2 hD hx ⟨h1,h2,h3⟩=>?_) (fun D ys H2 hD ⟨h1,h2,h3⟩=>?_)
 ·rw[xo] at hx;obtain⟨n,hn,rfl⟩:=kq.mp hx;exists Hn (Fe ?_);refine⟨n,rfl,sm n (zk hn),fun H3 s3=>⟨s3 _ _ h1,Am,Fb hD (h2.trans s3),?_⟩⟩;rw[kx,hn,jd3,vk,h3];rfl
 ·rw[jp,ja6] at h3;subst h3;exact q D H2 (s1.free hD) (s1.trans h2) h1
theorem aC:C0 4 "read_term" ["word"] m9:=by
 refine co' ["word","numbers","sign"] Y5 fun nd H vs Q E hr h=>?_;obtain⟨a,b,n,rfl,sm,q⟩:=h;have jl:=Mj sm;have tl:(tW (1,a,b,n)).length<=200:=by show(Fd 44 ([a,b,n].map nW)).length+1<=_;simp only[qr,jk1] at jl;lia
 have l0:1<=(sW (tW (1,a,b,n))).length:=by rw[DQ];show 1<=_+1;lia
 have eP:Str.ofString "+"=sW [43]:=∅;have e1:Txt.slice (sW (tW (1,a,b,n))) none (some 1)=Str.ofString "+":=by rw[eP];exact Hm (by rw[jC,Bp,Bp];rfl)
 have e2:Txt.slice (sW (tW (1,a,b,n))) (some 1) none=sW (Fd 44 ([a,b,n].map nW)):=Hm (by rw[O3 l0,Bp,Bp];rfl);have fit:(sW (tW (1,a,b,n))).length<=sizeLine:=by rw[DQ];exact zv tl nofun
 refine⟨_,(Ac (Ax (PW.pt (Il (Ai Gf (Cz W7 (pv 0) Eb (Dp Ae)) Ah (An _)) (Ho (Ai Gf (Cz W7 (pv 0) Eb (Dp Ae)) Ah (An _))))) (Ad BZ) Ao) (Ac (Aj 1 (Ag KJ (Aa (Cz W7 (pv 0) (Dp Ae) Eb) Ab))) (Ac (Ax (Ai Gf (Bd Bs rfl Ep xz (Aa (pv 1) Ab)) Ae (An _)) (Ad BZ) Ao) (Ac (Aj 2 (Dv (Ai BW (Dr qK (pv 0) Ae) Ah (An _)) Ae (HQ Ft Ae))) (Ad (Al (BJ (Aa (pv 2) (Aa (pxL 1) (Aa (pxL 1) (Aa (pxL 1) Ab))))))))))),?_⟩
 symm;refine⟨_,rfl,fit,?_⟩;rw[e1];symm;refine Gh rfl ?_;exists Eg ?_;refine⟨_,rfl,fit,?_⟩;rw[e2];refine GJ ?_;refine⟨[a,b,n],rfl,(fun z=>nomatch z),(by show 3<=3;decide),sm,fun l H1 hl u1 t1=>?_⟩;symm;exists⟨l,_,rfl,.inl (SqL.of t1),?_⟩;exists Gh rfl ?_
 try refine Nv ?_
 symm;refine⟨_,0,43,rfl,rfl,fit,(by show atI (cpl (sW (tW (1,a,b,n)))) 0=some 43;rw[Bp];exact Ej (j:=0) rfl),?_⟩;symm;refine Gy (by rw[eP];rfl) ?_;symm;exists BR (SqL.of t1) Ez ?_;exists BR (SqL.of t1) Hf ?_;exists BR (SqL.of t1) Ur ?_;refine⟨(by show 4<=sizeLine;decide),fun p hp=>?_⟩;exact q p _ (u1.trans (Ar hp _)) Am
theorem Jc:C0 5 "read_terms" ["words"] iu:=by
 refine co' ["words"] XF fun nd H vs Q E hr h=>?_;obtain⟨l,a,b,n,rfl,hl,sm,q⟩:=h;exists⟨_,(Ad (Al (Fy rfl (Gd ["words"] rfl ∅ rfl ∅ rfl ∅ ∅) (Gu (pv 0)) (fun _ _ _ _=>Ds) (fun _ _ _ _=>(Ag aC (Aa (pv 0) Ab)))))),?_⟩;exists Fj (Lz ?_);refine⟨l,rfl,⟨_,SqL.of hl⟩,?_⟩;refine IK RJ (Dz (by show 1<=1000;decide)) (fun D i ys H2=>H2 D=some (.lst ys)/\Az H H2/\ys.length<=i/\(i=1->∃p,ys=[.ref p]/\H2 p=some (.tup (tmV (1,a,b,n))))) (fun D hD=>⟨Am,Ar hD _,qq _,fun z=>nomatch z⟩)
  (fun D i ys H2 _ ⟨h1,h2,h3,_⟩=>⟨h1,h3,SqL.of (h2 _ _ hl)⟩) (fun D i x ys H2 hD hx ⟨h1,h2,h3,_⟩=>?_) (fun D ys H2 hD ⟨h1,h2,h3,h4⟩=>?_)
 ·obtain rfl:i=0:=by
   have:=(qv.mp hx).1;simpa [wvS] using this
  obtain rfl:V.str (sW (tW (1,a,b,n)))=x:=by simpa [wvS] using hx
  obtain rfl:ys=[]:=jd1.mp (Nat.le_zero.mp h3);exists Hn (Fe ?_);refine⟨a,b,n,rfl,sm,fun p H3 s3 hp=>⟨s3 _ _ h1,Am,Fb hD (h2.trans s3),qq _,fun _=>⟨p,rfl,?_⟩⟩⟩;rw[BK fun z=>by rw[z,s3 _ _ h1] at hp;cases hp];exact hp
 ·obtain⟨p,rfl,hp⟩:=h4 rfl;exact q D p H2 h2 h1 hp
theorem dX:C0 9 "read_sun" ["words"] (Yp K Bl Bc Aq "sun"):=by
 refine co' ["words","start","lengths","leap"] bQ fun nd H vs Q E hr h=>?_;obtain⟨l,g,rfl,hl,hg,o,q⟩:=h;have gd:=o.good;have bs:=o.bs;cases o with
 | moon=>exact absurd hg (by show ¬"moon"="sun";decide)
 | sun hs l0 l1 hm p0 p1 o=>
 rename_i s' lp a b n ls
 have ms:∀n∈ls,Sm n:=fun n hn=>sm1 (by have:=hm n hn;lia) (by have:=hm n hn;lia);refine⟨_,(Ac (Ax (Ai FT (Bd Bs rfl Ep xz (Aa (pv 0) Ab)) Ae (An _)) (Ad BZ) Ao) (Ac (Aj 1 (Ag En (Aa (pxL 0) Ab))) (Ac (Aj 2 (Ag KJ (Aa (pxL 0) Ab))) (Ac (Ax (Ai BW (Bd Bs rfl Ep xz (Aa (pv 0) Ab)) Ae (An _)) (Ad (Al (AAQ Mv (hr.mono nofun) rfl (Aa (pv 1) (Aa (pv 2) Ab))))) Ao) (Ac (Ax (PW.pt (Hh (Ai Gf (pxL 0) Ah (An _)) (GK (Ai FT (Bd Bs rfl Ep xz (Aa (pv 0) Ab)) Ae (An _))))) (Ad BZ) Ao) (Ac (Aj 3 (Ag En (Aa (pxL 0) Ab))) (Ad (Al (GP Ud (Aa (pv 1) (Aa (pv 2) (Aa (pv 3) (Aa (Ag Jc (Aa (Cz Fi (pv 0) (Dp Ae) Eb) Ab)) Ab))))))))))))),?_⟩
 symm;exists⟨l,_,rfl,.inl (SqL.of hl),?_⟩;refine CT (by show ¬(5:Int)<2;decide) ?_;symm;refine BR (SqL.of hl) Ez ?_;refine GJ ?_;refine⟨s',rfl,hs,fun H1 s1=>?_⟩;have h1:=s1 _ _ hl;symm;refine BR (SqL.of h1) Hf ?_;refine GJ ?_;refine⟨ls,rfl,(fun z=>by rw[z] at l0;exact absurd l0 nofun),l1,ms,fun l2 H2 hl2 s2 t2=>?_⟩;have h2:=s2 _ _ h1;symm;exists⟨l,_,rfl,.inl (SqL.of h2),?_⟩;exists CT (fun z=>nomatch V.int.inj z) ?_;exists BR (SqL.of h2) Ur ?_;exists Gh (Hg _) ?_;exists⟨l,_,rfl,.inl (SqL.of h2),?_⟩;refine CT (by show ¬(5:Int)<5;decide) ?_;symm;refine BR (SqL.of h2) rO ?_;refine GJ ?_;refine⟨lp,rfl,sm1 ⋯ ⋯,fun H3 s3=>?_⟩;have h3:=s3 _ _ h2;symm;refine Gr (SqL.of h3) fun u hu=>?_;rw[show Io (wvS (wC (.sun s' ls lp [(1,a,b,n)]))) (some 4) none=wvS [tW (1,a,b,n)] from Hs _ 4];refine fresh hu fun H4 s4 t4=>?_;refine GJ ?_;exists⟨u,a,b,n,rfl,t4,o.sm,fun l5 p H5 s5 t5 hp=>?_⟩;refine fun x dx hx hdx ne=>qO hx hdx ne (s5 _ _ (s4 _ _ (s3 _ _ t2))) (.cons hp .nil) (.inr ⟨l5,rfl,t5⟩) gd bs fun H6 s6 S6=>⟨rfl,?_⟩;exact q x _ ((s1.trans s2).trans ((s3.trans s4).trans (s5.trans s6))) S6
theorem aF:C0 7 "read_moon" ["words"] (Yp K Bl Bc Aq "moon"):=by
 refine co' ["words","place","days","many","start","days_base","days_terms","many_base","many_terms"] Y7 fun nd H vs Q E hr h=>?_;obtain⟨l,g,rfl,hl,hg,o,q⟩:=h;have gd:=o.good;have bs:=o.bs;cases o with
 | sun=>exact absurd hg (by show ¬"sun"="moon";decide)
 | moon hs d0 d1 o n2 m0 m1 o' y2=>
 rename_i s' bd a b n bm c e y
 have sbd:Sm bd:=sm1 ⋯ ⋯;have sbm:Sm bm:=sm1 ⋯ ⋯;have es:Str.ofString "/"=sW (sg "/"):=∅;have nn:∀{i:Int},Sm i->sW (nW i)≠Str.ofString "/":=fun{i} hi z=>by
  rw[es] at z;have z:=yk cpl z;rw[Bp,Bp] at z;have:=Hw hi 47 (by rw[z];ac_rfl);lia
 have nt:∀{t:Tm},sW (tW t)≠Str.ofString "/":=fun{t} z=>by
  rw[es] at z;have z:=yk cpl z;rw[Bp,Bp,show sg "/"=[47] by ac_rfl] at z;exact absurd (List.cons.inj z).1 nofun
 have eW:wvS (wC (.moon s' bd [(1,a,b,n)] bm [(1,c,e,y)]))=([sW (nW s'),sW (nW bd),sW (tW (1,a,b,n)),Str.ofString "/",sW (nW bm),sW (tW (1,c,e,y))]:List Str).map V.str:=by
  rw[es];rfl
 rw[eW] at hl;refine⟨_,(Ac (Ax (Ai Gf (GQ Jn PySem.F.slot_list_count PySem.F.type_list_count jg (pv 0) (Aa Ah Ab)) Ae (An _)) (Ad BZ) Ao) (Ac (Aj 1 (GQ Jn PySem.F.slot_list_index PySem.F.type_list_index jf (pv 0) (Aa Ah Ab))) (Ac (Aj 2 (Cz Fi (pv 0) (Dp Ae) (Dp (pv 1)))) (Ac (Aj 3 (Cz Fi (pv 0) (Dp (Af Bm (pv 1) Ae)) Eb)) (Ac (Ax (PW.pt (Hh (Ai FT (Bd Bs rfl Ep xz (Aa (pv 2) Ab)) Ae (An _)) (GK (Ai FT (Bd Bs rfl Ep xz (Aa (pv 3) Ab)) Ae (An _))))) (Ad BZ) Ao) (Ac (Aj 4 (Ag En (Aa (pxL 0) Ab))) (Ac (Aj 5 (Ag En (Aa (pxL 2) Ab))) (Ac (Aj 6 (Ag Jc (Aa (Cz Fi (pv 2) (Dp Ae) Eb) Ab))) (Ac (Aj 7 (Ag En (Aa (pxL 3) Ab))) (Ac (Aj 8 (Ag Jc (Aa (Cz Fi (pv 3) (Dp Ae) Eb) Ab))) (Ad (Al (GP Qn (Aa (pv 4) (Aa (GP Ge (Aa (pv 5) (Aa (pv 6) Ab))) (Aa (GP Ge (Aa (pv 7) (Aa (pv 8) Ab))) Ab)))))))))))))))),?_⟩
 symm;exists JB ?_;exists⟨.inl ⟨rfl,_,SqL.of hl⟩,?_⟩;refine⟨l,_,_,rfl,rfl,SqL.of hl,?_⟩;rw[jg2 (nn hs),jg2 (nn sbd),jg2 nt,List.count_cons_self,jg2 (nn sbm),jg2 nt,List.count_nil];symm;exists Gh rfl ?_;exists JB ?_;exists⟨.inl ⟨rfl,_,SqL.of hl⟩,?_⟩;refine⟨l,_,Str.ofString "/",3,rfl,rfl,SqL.of hl,rfl,?_,?_⟩
 ·intro m hm z
  match m,hm,z with
  | 0,_,z=>exact nn hs (ub z)
  | 1,_,z=>exact nn sbd (ub z)
  | 2,_,z=>exact nt (ub z)
 symm;refine Gr (SqL.of hl) fun u1 hu1=>?_;refine fresh hu1 fun H1 s1 t1=>?_;have t1:H1 u1=some (.lst (wvS [nW bd,tW (1,a,b,n)])):=t1;have l1:=s1 _ _ hl;symm;refine Gr (SqL.of l1) fun u2 hu2=>?_;refine fresh hu2 fun H2 s2 t2=>?_;have t2:H2 u2=some (.lst (wvS [nW bm,tW (1,c,e,y)])):=t2;have l2:=s2 _ _ l1;have k2:=s2 _ _ t1;symm;exists⟨u1,_,rfl,.inl (SqL.of k2),?_⟩;refine CT (by show ¬(2:Int)<1;decide) ?_;symm;exists⟨u2,_,rfl,.inl (SqL.of t2),?_⟩;refine CT (by show ¬(2:Int)<1;decide) ?_;symm;refine BR (SqL.of l2) Ez ?_;refine GJ ?_;refine⟨s',rfl,hs,fun H3 s3=>?_⟩;have k3:=s3 _ _ k2;have t3:=s3 _ _ t2;symm;refine BR (SqL.of k3) Ez ?_;refine GJ ?_;refine⟨bd,rfl,sbd,fun H4 s4=>?_⟩;have k4:=s4 _ _ k3;have t4:=s4 _ _ t3;symm;refine Gr (SqL.of k4) fun u5 hu5=>?_;rw[show Io (wvS [nW bd,tW (1,a,b,n)]) (some 1) none=wvS [tW (1,a,b,n)] from Hs _ 1];refine fresh hu5 fun H5 s5 t5=>?_;refine GJ ?_;refine⟨u5,a,b,n,rfl,t5,o.sm,fun ld pd H6 s6 D6 P6=>?_⟩;have t6:=s6 _ _ (s5 _ _ t4);symm;refine BR (SqL.of t6) Ez ?_;refine GJ ?_;refine⟨bm,rfl,sbm,fun H7 s7=>?_⟩;have t7:=s7 _ _ t6;symm;refine Gr (SqL.of t7) fun u8 hu8=>?_;rw[show Io (wvS [nW bm,tW (1,c,e,y)]) (some 1) none=wvS [tW (1,c,e,y)] from Hs _ 1];refine fresh hu8 fun H8 s8 t8=>?_;refine GJ ?_;refine⟨u8,c,e,y,rfl,t8,o'.sm,fun lm pm H9 s9 M9 Q9=>?_⟩;have s69:=s7.trans (s8.trans s9);symm;refine fun y1 dy hy hdy ne=>X4 hy hdy ne (.cons (s69 _ _ P6) .nil) (.inr ⟨ld,rfl,s69 _ _ D6⟩) o.tm (by show 1<=6;decide) (qR gd.fd gd.gd) (Yb o.tm gd.fd (by rw[cI o.n0];have:=o.n0;lia)) fun H10 s10 N10=>⟨rfl,?_⟩;clear hy hdy ne;symm;refine fun y2 dy hy hdy ne=>X4 hy hdy ne (.cons (s10 _ _ Q9) .nil) (.inr ⟨lm,rfl,s10 _ _ M9⟩) o'.tm (by show 1<=6;decide) (qR gd.fm ⋯) (Yb o'.tm gd.fm (by rw[cI o'.n0];have:=o'.n0;lia)) fun H11 s11 O11=>⟨rfl,?_⟩;have N11:=N10.same s11;clear hy hdy ne;symm;refine fun x dx hx hdx ne=>jx hx hdx ne N11 O11 gd bs fun H12 s12 S12=>⟨rfl,?_⟩;exact q x _ (((s1.trans s2).trans (s3.trans s4)).trans (((s5.trans s6).trans s69).trans ((s10.trans s11).trans s12))) S12
theorem Qh:C0 10 "read_calendar" ["text"] (nD K Bl Bc Aq):=by
 refine co' ["text","words"] QK fun nd H vs Q E hr h=>?_;obtain⟨g,rfl,o,q⟩:=h;obtain⟨sp,tl,tk⟩:=o.tx;refine⟨_,(Ac (Ax (G3 (El (Ag K6 (Aa (pv 0) Ab)))) (Ad BZ) Ao) (Ac (Aj 1 (GQ uu jb4 jb5 JC (pv 0) (Aa Ah Ab))) (Ac (Ax (Ai BW (pxL 1) Ah (An _)) (Ad (Al (Ag dX (Aa (Cz Fi (pv 1) (Dp Ae) Eb) Ab)))) Ao) (Ac (Ax (Ai BW (pxL 1) Ah (An _)) (Ad (Al (Ag aF (Aa (Cz Fi (pv 1) (Dp Ae) Eb) Ab)))) Ao) (Ad BZ))))),?_⟩
 symm;refine⟨_,rfl,tk,by rw[DQ];lia,?_⟩;symm;exists Eg ?_;exists JB ?_;exists⟨rfl,?_⟩;refine⟨_,32,rfl,by rw[show Str.ofString " "=⟨#[32]⟩ from by ac_rfl],nofun,tk.len,fun l hl=>?_⟩;refine fresh hl fun H1 s1 t1=>?_;have t1:H1 l=some (.lst (wvS (wdC g))):=by rw[t1,bJ,Bp,sp,va];rfl
 symm;exists BR (SqL.of t1) Ez ?_;have ec:Io (wvS (wdC g)) (some 1) none=wvS (wC g):=Hs _ 1;cases hg:ACz g with
 | true=>
  have hh:hC g="sun":=by cases g with
   | sun=>rfl
   | moon=>cases hg
  rw[hh];exists Gy (Hg _) ?_;refine Gr (SqL.of t1) fun u hu=>?_;rw[ec];refine GJ ?_;exact⟨u,g,rfl,Am,hh,o,fun x H3 s3 C=>q x _ ((s1.trans (Ar hu _)).trans s3) C⟩
 | false=>
  have hh:hC g="moon":=by cases g with
   | sun=>cases hg
   | moon=>rfl
  rw[hh];exists CT (Yd ∅) ?_;exists BR (SqL.of t1) Ez ?_;rw[hh];exists Gy (Hg _) ?_;refine Gr (SqL.of t1) fun u hu=>?_;rw[ec];refine GJ ?_;exact⟨u,g,rfl,Am,hh,o,fun x H3 s3 C=>q x _ ((s1.trans (Ar hu _)).trans s3) C⟩
theorem Tw:C0 1 "words_of_row" ["row"] ym:=by
 refine co' ["row","words","form","wanted"] Rc fun nd H vs Q E hr h=>?_;obtain⟨R,rfl,ok,q⟩:=h;have tok:=R.tok ok;obtain⟨rs,eh⟩:=R.head;have e32:Str.ofString " "=⟨#[32]⟩:=∅;refine⟨_,(Ac (Ax (G3 (El (Bd Tr rfl JM jj5 (Aa (pv 0) (Aa (Xj rfl Cv qh (cB _)) Ab)))))
  (Ad BZ)
  Ao)
  (Ac (Aj 1 (GQ uu jb4 jb5 JC (pv 0) (Aa Ah Ab)))
  (Ac (Ax (Xe (cM (pxL 1) (CP rfl GX.m (HD _))))
   (Ad BZ)
   Ao)
  (Ac (Aj 2 (Sd (CP rfl GX.m (HD _)) (pxL 1) (fun _ _=>rfl)))
  (Ac (Do (Ax (Ai BW (Dr J8 (pv 2) (HQ Ft Ae) (fun _ _=>rfl)) Ah (An _))
   (Ad (Aj 1 (GQ uu jb4 jb5 jc (pv 0) (Aa Ah (Aa (Bd Bs rfl Ep xz (Aa (pv 2) Ab)) Ab)))))
   Ao))
  (Ac (Aj 3 (Af Bm (Bd Bs rfl Ep xz (Aa (pv 2) Ab)) Ae))
  (Ac (Ax (PW.pt (Hh (Ai FT (Bd Bs rfl Ep xz (Aa (pv 1) Ab)) (pv 3) (An _)) (GK (PW.pt (Il (Ai GD (Bd Bs rfl Ep xz (Aa (pv 1) Ab)) (pv 3) (An _)) (Ho (Ai Gf (pxL 1) Ah (An _))))))))
   (Ad BZ)
   Ao)
  (Ad (Al (pv 1)))))))))),?_⟩
 symm;exists cD (.txt _ tok) ?_;exists Eg ?_;exists JB ?_;exists⟨rfl,?_⟩;refine⟨_,32,rfl,by rw[e32],nofun,tok.len,fun l hl=>?_⟩;refine fresh hl fun H1 s1 t1=>?_;rw[bJ,Bp,eh,zw,zw,Jz] at t1;symm;unfold eQ;symm;exists BR (SqL.of t1) Ez ?_;refine⟨_,_,.inr R.hd,rfl,GX.d,rfl,?_⟩;rw[TY];exists⟨_,rfl,Eg ?_⟩;unfold bH;symm;exists BR (SqL.of t1) Ez ?_;exists⟨_,_,.inr R.hd,_,rfl,GX.d,rfl,TY _ R,?_⟩;refine DG (fun Z' H'=>Az H H'/\∃l',An3 (H l'=none) (Z'=[some (.str (sW R.T)),some (.ref l'),some (.ref (Zn R.fi)),none]) (H' l'=some (.lst (.str R.hd::wkV R.ws)))) ?_ ?_
 ·symm;rcases R.kind ok with ⟨nm,w,hn,ew⟩ | ⟨e1,z,hz,e2⟩
  ·have fs:=GX.s R;rw[ew] at fs;exists Aw (fs _) (show _=some (V.str "TEXT") from rfl) ?_;exists Gy rfl ?_;exists JB ?_;exists⟨rfl,?_⟩;exists⟨_,_,rfl,.inr (fs _),?_⟩;refine⟨_,32,cpl R.hd,nm,w,rfl,by rw[e32];rfl,nofun,?_,fun y=>((X6 R).1 32 y).2 rfl,fun y=>by have:=(Iu.wc hn).2 32 y;unfold wch at this;lia,tok.len,fun l2 h2=>fresh h2 fun H2 s2 t2=>?_⟩
   ·show cpl (sW R.T)=_;rw[Bp];unfold Row.T;rw[ew];rfl
   symm;refine⟨s1.trans s2,l2,s1.free h2,rfl,?_⟩;rw[t2,ew];exact yk (fun z=>some (HO.lst (V.str z::_))) (Jz R.hd)
  ·exists Aw (GX.s R _) e2 ?_;exists CT (fun y=>hz (V.str.inj y)) ?_;refine⟨s1,l,hl,rfl,?_⟩;rw[eh] at e1;rw[t1,(List.cons.inj e1).2];unfold wkV;rw[va,va];rfl
 rintro Z' H2 ⟨s2,l',hl',rfl,t2⟩;have ln:((V.str R.hd::wkV R.ws).length:Int)=((R.ws.map fun w=>V.str w.k).length:Int)+1:=by unfold wkV;rw[qr,jp,jp];lia
 symm;exists⟨_,_,rfl,.inr (GX.s R _),?_⟩;exists⟨_,_,rfl,.inl (SqL.of t2),?_⟩;rw[ln];exists CT ⋯ ?_;exists⟨_,_,rfl,.inl (SqL.of t2),?_⟩;rw[ln];refine CT ⋯ ?_;exists Eg ?_;exact q l' H2 hl' s2 t2
theorem WT:C0 1 "kept_by" ["kept","name"] zF:=by
 refine co' ["kept","name"] jN fun nd H vs Q E hr h=>?_;obtain⟨a,kv,nm,v,rfl,ha,hv,q⟩:=h;have dg:Qs H a (.str (sW nm)) (some v):=by rw[<-hv];exact Qs.k (k:=.inr (sW nm)) ha
 refine⟨_,(Ac (Ax (Xe (Vr (gP hr) (pv 1) (pv 0)))
  (Ad BZ)
  Ao)
  (Ad (Al (fY (gP hr) (pv 0) (pv 1) (fun _ _=>rfl))))),?_⟩
 symm;unfold Ws;symm;refine⟨a,_,rfl,dg,?_⟩;refine⟨_,rfl,?_⟩;exists Eg ?_;unfold mQ;symm;exact⟨a,v,rfl,dg,q⟩
theorem aG:C0 1 "read_date" ["text"] yw:=co (st:=Y8) (by walk_at"g") (by walk_at"b") fun _=>⟨fun _ _ _ _ h=>h.elim,fun _ _ _ _ _ _ _ _ _ _ _ _ _ h=>h.elim⟩
theorem aM:C0 3 "looked_up" ["desk","kind","word"] (zE DN):=by
 refine co' ["desk","kind","word"] ZF fun nd H vs Q E hr h=>?_;obtain⟨x,kv,k,rfl,ok,⟨dx,a,r,hx,hr'⟩,hn,q⟩:=h;have ne:∀{a b:String},decide (Str.ofString a=Str.ofString b)=false->V.str (Str.ofString a)≠V.str (Str.ofString b):=fun h z=>of_decide_eq_false h (V.str.inj z);refine⟨_,(Ac (Ax (PW.pt (Il (Ai BW (pv 1) Ah (An _)) (Ho (G3 (El (Ag WW (Aa (pv 2) Ab))))))) (Ad BZ) Ao) (Ac (Ax (Ai BW (pv 1) Ah (An _)) (Ad (Al (Ag WT (Aa (Br (pv 0) (by rfl)) (Aa (pv 2) Ab))))) Ao) (Ac (Ax (Ai BW (pv 1) Ah (An _)) (Ad (Al (Ag WT (Aa (Br (pv 0) (by rfl)) (Aa (pv 2) Ab))))) Ao) (Ac (Ax (Ai BW (pv 1) Ah (An _)) (Ad (Al (Ag En (Aa (pv 2) Ab)))) Ao) (Ac (Ax (Ai BW (pv 1) Ah (An _)) (Ad (Al (Ag aG (Aa (pv 2) Ab)))) Ao) (Ad (Al (pv 2)))))))),?_⟩
 symm;cases k with
 | nm n=>
  exists Gy rfl ?_;refine⟨_,rfl,⟨GC.mpr (by rw[Bp];exact(Wk.box ok).1),by rw[DQ];have:=(Wk.box ok).2.1;lia⟩,fun v H1 s1 hv=>?_⟩;rw[hv.mpr (by rw[Bp];exact ok)];exists⟨_,rfl,Eg ?_⟩;exists CT (ne ∅) ?_;exists CT (ne ∅) ?_;exists CT (ne ∅) ?_;exists CT (ne ∅) ?_;exact q _ _ s1 rfl
 | tx d=>
  refine CT (ne ∅) ?_;exists Eg ?_;exists CT (ne ∅) ?_;exists CT (ne ∅) ?_;exists CT (ne ∅) ?_;exists CT (ne ∅) ?_;exact q _ _ (Az.refl _) rfl
 | ru n=>
  obtain⟨v,hv⟩:=hn n rfl;refine CT (ne ∅) ?_;exists Eg ?_;exists CT (ne ∅) ?_;exists Gy rfl ?_;exists⟨x,DN,dx,_,_,rfl,hx,Dl,G5,rfl,?_⟩;exact⟨r,kv,n,v,rfl,hr',hv,q v _ (Az.refl _) hv⟩
 | nu i=>
  refine CT (ne ∅) ?_;exists Eg ?_;exists CT (ne ∅) ?_;exists CT (ne ∅) ?_;exists Gy rfl ?_;exact⟨i,rfl,ok,fun H1 s1=>q _ _ s1 rfl⟩
theorem Va:C0 2 "named_rules" ["desk","names"] (uC DN):=by
 refine co' ["desk","names"] U9 fun nd H vs Q E hr h=>?_;obtain⟨x,l,rfl,hl,q⟩:=h;exists⟨_,(Ad (Al (Fy rfl (Dq ["desk","names"] ["desk","names"] rfl rfl (by with_unfolding_all rfl) ∅ rfl ∅ rfl ∅ (by walk_at"fm") (by with_unfolding_all rfl) (by with_unfolding_all rfl)) (Gu (pv 1)) (fun _ _ _ _=>Ds) (fun _ _ _ _=>ACl)))),?_⟩;exists Fj (Lz ?_);refine⟨l,rfl,⟨_,SqL.of hl⟩,?_⟩;refine Jb (RJ (xs:=[])) (by show 0<sizeLine;decide) ?_ (fun _=>true) (fun _=>V.non) (fun x hx=>nomatch hx) (fun x hx=>nomatch hx) (fun D hD=>?_)
 ·exact fun D ys hD=>SqL.of (by rw[BK (Bu hl hD)];exact hl)
 ·refine fresh hD fun H1 s1 t1=>?_;exact q D H1 hD s1 t1
theorem lE:C0 20 "tell_on" ["given"] (ABu K Ba CL):=by
 refine co' ["given"] jH fun nd H vs Q E hr h=>?_;obtain⟨l,y,n,d,b,rfl,hl,R,q⟩:=h;exists⟨_,(Ad (Al (Dv (El (SX rD (hr.mono nofun) (pxL 0) (Aa (pxL 0) Ab))) Ah Ah))),?_⟩
 try refine Nv ?_
 symm;exists BR (SqL.of hl) Ez ?_;obtain⟨C,dr,fs,m,hr,_,_,l3⟩:=R.mt;exists⟨y,C,dr,fs,_,m _,rfl,hr,l3,?_⟩;exists BR (SqL.of hl) Hf ?_;exists⟨jf3,y,n,d,b,rfl,R,?_⟩;cases hb:On n b d with
 | true=>
  rw[hb] at q;exists Fe ?_;exact q
 | false=>
  rw[hb] at q;exists Eg ?_;exact q
theorem UW:C0 1 "day_or_never" ["day"] uB:=by
 refine co' ["day"] Rk (len:=by intro _ _ _ _ h;obtain⟨r,rfl,_⟩:=h;cases r<;>rfl) fun nd H vs Q E hr h=>?_;obtain⟨r,rfl,o,q⟩:=h;exists⟨_,(Ad (Al (Dv (Ai J2 (pv 0) G4 (An _)) Ah (BP BL rfl Cv qh (Aa (pv 0) Ab))))),?_⟩
 try refine Nv ?_
 symm;exists⟨rfl,?_⟩;cases r with
 | none=>
  exists Fe ?_;exact q
 | some i=>
  exists Eg ?_;refine⟨_,rfl,o i rfl,?_⟩;have q:Q (.str (sW (nW i))) H:=q
  rwa [show sW (nW i)=Dj i from Jz _] at q
theorem Z9:C0 20 "tell_next" ["given"] (yj K Ba CL lK):=by
 refine co' ["given"] Yv fun nd H vs Q E hr h=>?_;obtain⟨l,y,n,d,b,rfl,hl,R,sd,g⟩:=h;have n1:=R.n1;exists⟨_,(Ad (Al (Ag UW (Aa (Ag UG (Aa (CG Bx (pxL 0)) (Aa (pxL 0) Ab))) Ab)))),?_⟩;exists BR (SqL.of hl) Ez ?_;obtain⟨C,dr,fs,m,hr,l1,_⟩:=R.mt;exists⟨y,C,dr,fs,_,m _,rfl,hr,l1,?_⟩;exists⟨jf3,y,n,b,rfl,R,fun p hp=>?_⟩;exists BR (SqL.of hl) Hf ?_;refine⟨p,n,d,b,rfl,SqT.of hp,R.n0,R.n1,R.lt,ni sd,fun no H1 s1=>?_,fun r H1 s1 r1 r2 r3=>?_⟩
 ·symm;exact⟨none,rfl,(fun _ z=>nomatch z),g.1 no H1 s1⟩
 ·have N:lK (On n b) d r:=⟨r1,r2,r3⟩;have:=OJ R.n0 N;symm;exact⟨some r,rfl,fun _ z=>by cases z;exact vI sd ⋯ ⋯,g.2 r H1 s1 N⟩
theorem Ms:C0 1 "paper_text" ["paper"] ABx:=by
 refine co' ["paper","word","number"] XH fun nd H vs Q E hr h=>?_;obtain⟨p,w,e,r,rfl,hp,wl,lg,q⟩:=h;refine⟨_,(Ac (Aj 1 (pxT 0)) (Ac (Aj 2 (pxT 0)) (Ad (Al (Q4 (Fx (N5 hr.toN (pv 1)) (Fx Ah (Fx (N5 hr.toN (pv 2)) Xh)))))))),?_⟩
 symm;exists Aw (SqT.of hp) Ez ?_;exists Aw (SqT.of hp) Hf ?_;refine ACa 0 10 nofun wl nofun rfl fun l1=>?_;refine Ry _ l1 nofun fun l2=>ZX _ l2 nofun rfl lg fun l3=>Qx (fits l3 nofun) ?_;have e0:(Str.empty++w++Str.ofString " "++Dj e)=sW (cpl w++(sg " "++nW e)):=Hm (by rw[Bp,Q6,Q6,Q6,ADN,jk2,jc4];rfl);symm;have q:=q;rw[<-e0] at q;exact q
theorem aA:C0 20 "tell_meet" ["given"] (ABv K Ba CL aj CMt):=by
 refine co' ["given"] Yw fun nd H vs Q E hr h=>?_;obtain⟨l,y,y',n,b,m,c,d,rfl,hl,R1,R2,sd,cf,g⟩:=h;obtain⟨n0,n1,lt⟩:=R1.rnd;obtain⟨m0,m1,lt'⟩:=R2.rnd;exists⟨_,(Ad (Al (Ag Ms (Aa (Ag lF (Aa (CG Bx (pxL 0)) (Aa (CG Bx (pxL 0)) (Aa (pxL 0) Ab)))) Ab)))),?_⟩;exists BR (SqL.of hl) Ez ?_;obtain⟨C,dr,fs,mm,hr,l1,_⟩:=R1.mt;exists⟨y,C,dr,fs,_,mm _,rfl,hr,l1,?_⟩;exists⟨jf3,y,_,b,rfl,R1,fun p hp=>?_⟩;exists BR (SqL.of hl) Hf ?_;obtain⟨C',dr',fs',mm',hr',l1',_⟩:=R2.mt;exists⟨y',C',dr',fs',_,mm' _,rfl,hr',l1',?_⟩;exists⟨jf3,y',_,c,rfl,R2,fun p' hp'=>?_⟩;exists BR (SqL.of hl) Ur ?_;exists⟨p,p',n,b,m,c,d,rfl,⟨n0,n1,lt,hp⟩,⟨m0,m1,lt',hp'⟩,ni sd,fun _=>cf.1,fun pp H1 s1 S=>?_⟩;cases S with
 | never x y' ht _ _ _ nm=>exact⟨pp,_,_,_,rfl,ht,∅,gJ (zv (Nat.le_of_dvd n0 (ji8 n m)) ⋯),g.1 H1 s1 nm⟩
 | meet e ht F _=>
  have:=F.ge;have:=F.lt;have cf:=cf.2;exact⟨pp,_,e,[],rfl,ht,∅,pX sd ⋯ ⋯,g.2 e H1 s1 F⟩
theorem VV:C0 20 "tell_within" ["given"] (ABv K Ba CL aa CWi):=by
 refine co' ["given"] U4 fun nd H vs Q E hr h=>?_;obtain⟨l,y,y',n,b,m,c,d,rfl,hl,R1,R2,sd,cf,g⟩:=h;obtain⟨n0,n1,lt⟩:=R1.rnd;obtain⟨m0,m1,lt'⟩:=R2.rnd;exists⟨_,(Ad (Al (Ag Ms (Aa (Ag rB (Aa (CG Bx (pxL 0)) (Aa (CG Bx (pxL 0)) (Aa (pxL 0) Ab)))) Ab)))),?_⟩;exists BR (SqL.of hl) Ez ?_;obtain⟨C,dr,fs,mm,hr,l1,_⟩:=R1.mt;exists⟨y,C,dr,fs,_,mm _,rfl,hr,l1,?_⟩;exists⟨jf3,y,_,b,rfl,R1,fun p hp=>?_⟩;exists BR (SqL.of hl) Hf ?_;obtain⟨C',dr',fs',mm',hr',l1',_⟩:=R2.mt;exists⟨y',C',dr',fs',_,mm' _,rfl,hr',l1',?_⟩;exists⟨jf3,y',_,c,rfl,R2,fun p' hp'=>?_⟩;exists BR (SqL.of hl) Ur ?_;exists⟨p,p',n,b,m,c,d,rfl,⟨n0,n1,lt,hp⟩,⟨m0,m1,lt',hp'⟩,ni sd,fun _ _ _=>.inl cf,fun pp co H1 s1 Cm S=>?_⟩;cases S with
 | never x y' ht _ _ _ nm=>exact⟨pp,_,_,_,rfl,ht,∅,gJ (zv (Nat.le_of_dvd n0 (ji8 n m)) ⋯),(g co Cm).1 H1 s1 nm⟩
 | meet e ht F _=>
  have:=F.ge;have:=F.lt;have cf:Bj (n:Int) (m:Int)<=150000:=cf;exact⟨pp,_,e,[],rfl,ht,∅,pX sd ⋯ ⋯,(g co Cm).2 e H1 s1 F⟩
theorem Qp:CI0 1 "Desk" DN ["self"] (zM K ⟨DN,Bl,Bc,Aq,Ba,CL⟩):=by
 refine ci' ["self"] QW fun nd H vs Q E hr h=>?_;obtain⟨H0,x,dx,rfl,hx,hd,ne,rfl,q⟩:=h;refine⟨_,(Ac (FW (pv 0) Ze (by rfl)) (Ad (FW (pv 0) Ze (by rfl)))),?_⟩
 symm;intro d1 n1;symm;have a1:d1≠x:=fun z=>by rw[z,Am] at n1;cases n1
 have a2:d1≠dx:=fun z=>by rw[z,BK ne,Am] at n1;cases n1
 have n1':H0 d1=none:=by rw[BK a1,BK a2] at n1;exact n1
 refine⟨x,DN,dx,[],rfl,by rw[BK a1.symm];exact Am,Dl,Fv,nofun,?_⟩;symm;intro d2 n2;symm;have b1:d2≠x:=fun z=>by rw[z,Am] at n2;cases n2
 have b2:d2≠d1:=fun z=>by rw[z,BK a1,Am] at n2;cases n2
 have b3:d2≠dx:=fun z=>by rw[z,BK ne,BK a2.symm,BK ne,Am] at n2;cases n2
 have n2':H0 d2=none:=by rw[BK b1,BK b2,BK b1,BK b3] at n2;exact n2
 refine⟨x,DN,dx,_,rfl,by rw[BK b1.symm];exact Am,Dl,G5,(by show 1<1000;decide),?_⟩;refine q _ (fun y u e=>?_) ⟨dx,d1,d2,[],Am,?_,?_,qq _,b2,fun _ _ _ z=>nomatch z⟩
 ·have c1:y≠x:=Bu e hx;rw[BK c1,BK (Bu e n2'),BK c1,BK (Bu e n1'),BK c1,BK (Bu e hd)];exact e
 ·show _=_;rw[BK a1,BK b2.symm,BK a1];exact Am
 ·rw[BK b1];exact Am
theorem Mz:CI0 1 "Change" rE ["self","old","new","day"] yw:=ci (st:=Ly) (by walk_at"k") (by walk_at"k") (by walk_at"k") (by walk_at"h") (by walk_at"b") fun _=>⟨fun _ _ _ _ h=>h.elim,fun _ _ _ _ _ _ _ _ _ _ _ _ _ h=>h.elim⟩
theorem ABK:C0 133 "keep" ["desk","word","given"] (zG K ⟨DN,Bl,Bc,Aq,Ba,CL⟩):=by
 refine co' ["desk","word","given","name"] zX (len:=by intro _ _ _ _ h;obtain⟨x,l,c,j,m,D,lb,⟨g,rfl,_⟩ | ⟨nm,p,g,rfl,_⟩⟩:=h<;>rfl) fun nd H vs Q E hr h=>?_;obtain⟨x,l,c,j,m,DK,lb,h⟩:=h;obtain⟨dx,a,r,kv,hx,hc,hk,lk,na,hm⟩:=DK.ex;refine⟨_,(Ac (Aj 3 (pxL 2)) (Ac (Do (Ax (Ai BW (pv 1) Ah (An _)) (Ad (Xf (vb (jl4 (by decide:1<=64) _) hr.units) (Br (pv 0) (by rfl)) (pv 3) (Ag Qh (Aa (pxL 2) Ab)) rfl)) (Ad (Do (Ax (Ai BW (pv 1) Ah (An _)) (Ad (Xf (vb (jl4 (by decide:1<=64) _) hr.units) (Br (pv 0) (by rfl)) (pv 3) (GP Mz (Aa (pxL 2) (Aa (pxL 2) (Aa (pxL 2) Ab)))) rfl)) (Ad (Xf (vb (jl4 (by decide:1<=64) _) hr.units) (Br (pv 0) (by rfl)) (pv 3) (Ag aD (Aa (pxL 2) (Aa (Br (pv 0) (by rfl)) Ab))) rfl))))))) (Ad (Al Ah)))),?_⟩
 rcases h with ⟨g,rfl,hl,o,rfl,q⟩ | ⟨nm,p,g,rfl,hl,rfl,D0,fi,q⟩
 ·symm;exists BR (SqL.of hl) Ez ?_;refine DG (fun _ H'=>Q (.str "ok") H') ?_ (fun Z' H' h=>by symm;exact h);symm;refine Gy rfl ?_;unfold oK;symm;exists BR (SqL.of hl) Hf ?_;exists⟨g,rfl,o,fun y H1 s1 C1=>?_⟩;exists⟨x,DN,dx,_,_,rfl,s1 _ _ hx,Dl,Fv,rfl,?_⟩;have h0:=s1 _ _ hc;have kd:=Kd.put h0 (kv':=putK [] (.inr (sW (sg "c"))) (.ref y));refine⟨a,_,rfl,ak.k (k:=.inr (sW (sg "c"))) h0 nofun,q _ ((Kd.of s1).trans kd) ⟨dx,a,r,kv,kd.ins (s1 _ _ hx),⟨_,y,Am,rfl,FQ.kd kd C1⟩,by rw[BK na];exact s1 _ _ hk,lk,na,fun nm n b e=>?_⟩⟩;obtain⟨y',g1,g2⟩:=hm nm n b e;exact⟨y',g1,(g2.same s1).kd kd⟩
 ·symm;exists BR (SqL.of hl) Ez ?_;refine DG (fun _ H'=>Q (.str "ok") H') ?_ (fun Z' H' h=>by symm;exact h);symm;refine CT (fun z=>absurd (V.str.inj z) ∅) ?_;exists DG (fun _ H'=>Q (.str "ok") H') ?_ (fun Z' H' h=>h);refine CT (fun z=>absurd (V.str.inj z) ∅) ?_;unfold oK;symm;exists BR (SqL.of hl) Hf ?_;exists⟨x,DN,dx,_,_,rfl,hx,Dl,Fv,rfl,?_⟩;exists⟨a,p,g,rfl,fi.ok,fi.kn,fi.tl,fi.dp,fi.mn,D0,hc,fi.sz,fun y H1 s1 R E=>?_⟩;exists⟨x,DN,dx,_,_,rfl,s1 _ _ hx,Dl,G5,rfl,?_⟩;have h0:=s1 _ _ hk;have kd:=Kd.put h0 (kv':=putK kv (.inr (sW nm)) (.ref y));have sp:=PT.sz_pos D0 fi.ok;refine⟨r,_,rfl,ak.k (k:=.inr (sW nm)) h0 (vb lk (vb lb nofun)),q _ ((Kd.of s1).trans kd) ⟨dx,a,r,_,kd.ins (s1 _ _ hx),?_,Am,zv (J6 _ _ _) ⋯,na,fun k n b' e=>?_⟩ E⟩
  ·obtain⟨kv',y',e1,e2,e3⟩:=hc;exact⟨kv',y',by rw[BK (Ne.symm na)];exact s1 _ _ e1,e2,FQ.kd kd (FQ.same e3 s1)⟩
  ·unfold setM at e;rw[lY];split at e
   ·rename_i z
    subst z;cases e;exact⟨y,xy rfl,by rw[jc2 ⋯];exact R.kd kd⟩
   ·rename_i z
    obtain⟨y',g1,g2⟩:=hm k n b' e;exact⟨y',by rw[xp fun w=>z (by have:=yk cpl (Sum.inr.inj w);rwa [Bp,Bp] at this)];exact g1,(g2.same s1).kd kd⟩
theorem G8:CM0 134 DN "say" ["self","row"] (mz K ⟨DN,Bl,Bc,Aq,Ba,CL⟩):=by
 refine cm' ["self","row","words","form","given"] bz fun nd H vs Q E hr h=>?_;obtain⟨x,c,j,m,R,rfl,ok,DK,lb,SQ⟩:=h;obtain⟨dx,a,r,kv,hx,hc,hk,lk,na,hm⟩:=DK.ex;have nn:∀{nm n b},m nm=some (n,b)->∃v,GF kv (.inr (sW nm))=some v:=fun e=>by
  obtain⟨y,h1,_⟩:=hm _ _ _ e;exact⟨_,h1⟩
 have en:∀n,.ru n∈R.ws->∃v,GF kv (.inr (sW n))=some v:=fun n hn=>by
  cases R with
  | cal=>simp[Row.ws] at hn
  | rule=>simp[Row.ws] at hn
  | meet=>
   obtain⟨_,_,_,_,e1,e2,_⟩:=SQ;simp[Row.ws] at hn;rcases hn with z | z
   ·exact z ▸ nn e1
   ·exact z ▸ nn e2
  | within=>
   obtain⟨_,_,_,_,e1,e2,_⟩:=SQ;simp[Row.ws] at hn;rcases hn with z | z
   ·exact z ▸ nn e1
   ·exact z ▸ nn e2
  | _=>
   obtain⟨_,_,e,_⟩:=SQ;simp[Row.ws] at hn;exact hn ▸ nn e
 have dk:DkH DN H x kv:=⟨dx,a,r,hx,hk⟩;refine⟨_,(Ac (Aj 2 (Ag Tw (Aa (pv 1) Ab)))
  (Ac (Aj 3 (Sd (CP rfl GX.m (HD _)) (pxL 2) (fun _ _=>rfl)))
  (Ac (O4 (i:=4) nd rfl (by walk_at"o") (xs:=["kind","word"]) rfl (Ip ["kind","word"] ["self","row","words","form","given"] ["self","row","words","form","given"] rfl rfl (by with_unfolding_all rfl) ∅ rfl ∅ ∅ ∅ (by walk_at"fm") (by with_unfolding_all rfl) (by with_unfolding_all rfl)) (fV (c:=true) rfl wY (Aa (pv 3) (Aa (Cz Fi (pv 2) (Dp Ae) Eb) Ab))) (fun _ _ _ _=>Ds) (fun _ _ _ _=>(Zc (n:=2) rfl (Cp (CQ (i:=0) (show (["kind","word","self","row","words","form","given"]:List Str).Nodup from by ac_rfl) rfl (by walk_at"o")) (Cp (CQ (i:=1) (show (["kind","word","self","row","words","form","given"]:List Str).Nodup from by ac_rfl) rfl (by walk_at"o")) HF)))) (fun _ _ _ _=>(Ag aM (Aa (pv 2) (Aa (pv 0) (Aa (pv 1) Ab))))))
  (Ac (Bh (GQ Jn jd9 je0 JD (pv 4) (Aa (Ag Va (Aa (pv 0) (Aa (Cz Fi (pv 2) (Dp (Af Bm (Bd Bs rfl Ep xz (Aa (pv 3) Ab)) Ae)) Eb) Ab))) Ab)))
  (Ac (Ax (Xe (ux (pxL 2) (CP rfl Ey.m (HD _))))
   (Ad (Al (pC (k:=20) (IW.cons lE (IW.cons Z9 (IW.cons aA (IW.cons VV IW.nil)))) (hr.mono nofun) (Sd (CP rfl Ey.m (HD _)) (pxL 2) (fun _ _=>rfl)) (Aa (pv 4) Ab))))
   Ao)
  (Ad (Al (Ag ABK (Aa (pv 0) (Aa (pxL 2) (Aa (pv 4) Ab))))))))))),?_⟩
 symm;exists⟨R,rfl,ok,fun l H1 hl s1 t1=>?_⟩;unfold bH;symm;exists BR (SqL.of t1) Ez ?_;exists⟨_,_,.inr R.hd,_,rfl,GX.d,rfl,TY _ R,?_⟩;exists ZZ (fL ?_);refine Gr (SqL.of t1) fun u hu=>?_;rw[show Io (V.str R.hd::wkV R.ws) (some 1) none=wkV R.ws from Hs _ 1];exists fresh hu fun H2 s2 t2=>?_;have s02:=s1.trans s2;refine⟨_,u,rfl,⟨_,_,GX.s R _,SqL.of t2⟩,?_⟩;refine kY (kv:=kv) (GX.s R) t2 (vb R.few.2 nofun) (fun k hk' H3 Q3 s3 q3=>?_) (fun D H3 vs hD s3 t3 g=>?_)
 ·symm;exact⟨x,kv,k,rfl,ok k hk',dk.same (s02.trans s3),fun n e=>en n (e ▸ hk'),q3⟩
 symm;have s03:=s02.trans s3;exists Ny rfl t3 ?_;exists⟨_,_,rfl,.inr (GX.s R _),?_⟩;have t1':=s3 _ _ (s2 _ _ t1);refine Gr (SqL.of t1') fun u5 hu5=>?_;have e5:Io (V.str R.hd::wkV R.ws) (some (((R.ws.map fun w=>V.str w.k).length:Int)+1)) none=[]:=by
  have:=Hs (V.str R.hd::wkV R.ws) ((R.ws.map fun w=>V.str w.k).length+1);rw[ko,Int.natCast_one] at this;rw[this,uj (by unfold wkV;simp)]
 rw[e5];exists fresh hu5 fun H5 s5 t5=>?_;have s05:=s03.trans s5;refine⟨x,u5,rfl,t5,fun l6 H6 hl6 s6 t6=>?_⟩;have s06:=s05.trans s6;have tD:=s6 _ _ (s5 _ _ t3);symm;refine⟨D,l6,vs,[],rfl,rfl,tD,t6,by rw[jk1,Nat.add_zero,g.1];exact zv R.few.2 nofun,?_⟩;rw[yy,yO tD];have t16:=s6 _ _ (s5 _ _ t1');have DK6:=DK.same s06;have rl:∀{nm n b v},m nm=some (n,b)->GF kv (.inr (sW nm))=some v->∃y,v=.ref y/\Cw K Ba CL H6 y (n:Int) b:=fun e e'=>by
  obtain⟨y,h1,h2⟩:=hm _ _ _ e;exact⟨y,ub (e'.symm.trans h1),h2.same s06⟩
 symm;unfold eQ;symm;exists BR (SqL.of t16) Ez ?_;refine⟨_,_,.inr R.hd,rfl,Ey.d,rfl,?_⟩;cases R with
 | cal g'=>
  exists⟨_,rfl,Eg ?_⟩;exists BR (SqL.of t16) Ez ?_;obtain⟨v0,ws0,rfl,e0,g1⟩:=GV.cons g;obtain⟨v1,rfl,e1⟩:=GV.one g1;cases e0;cases e1;obtain⟨o,ec,q⟩:=SQ;exact⟨x,D,c,j,m,DK6,lb,.inl ⟨g',rfl,tD,o,ec,fun H' k d=>q H' ((Kd.of s06).trans k) d⟩⟩
 | rule nm p=>
  exists⟨_,rfl,Eg ?_⟩;exists BR (SqL.of t16) Ez ?_;obtain⟨v0,ws0,rfl,e0,g1⟩:=GV.cons g;obtain⟨v1,rfl,e1⟩:=GV.one g1;cases e0;cases e1;obtain⟨D',ec,D0,fi,q⟩:=SQ;exact⟨x,D,c,j,m,DK6,lb,.inr ⟨nm,p,D',rfl,tD,ec,D0,fi,fun H' k d=>q H' ((Kd.of s06).trans k) d⟩⟩
 | on nm d=>
  exists⟨_,rfl,Fe ?_⟩;unfold Lh;dsimp only;symm;exists BR (SqL.of t16) Ez ?_;exists⟨_,_,.inr "on",_,rfl,Ey.d,rfl,rfl,_,_,_,rfl,.head _,Ey.g3,?_⟩;obtain⟨n,b,e,q⟩:=SQ;obtain⟨v0,ws0,rfl,e0,g1⟩:=GV.cons g;obtain⟨v1,rfl,e1⟩:=GV.one g1;cases e1;obtain⟨y,rfl,R⟩:=rl e e0;exact⟨D,y,n,d,b,rfl,tD,R,q H6 s06⟩
 | next nm d=>
  exists⟨_,rfl,Fe ?_⟩;unfold Lh;dsimp only;symm;exists BR (SqL.of t16) Ez ?_;exists⟨_,_,.inr "next",_,rfl,Ey.d,rfl,rfl,_,_,_,rfl,.tail _ (.head _),Ey.g4,?_⟩;obtain⟨n,b,e,q⟩:=SQ;obtain⟨v0,ws0,rfl,e0,g1⟩:=GV.cons g;obtain⟨v1,rfl,e1⟩:=GV.one g1;cases e1;obtain⟨y,rfl,R⟩:=rl e e0;exact⟨D,y,n,d,b,rfl,tD,R,ok (.nu d) (.tail _ (.head _)),q.later s06⟩
 | meet na nb d=>
  exists⟨_,rfl,Fe ?_⟩;unfold Lh;dsimp only;symm;exists BR (SqL.of t16) Ez ?_;exists⟨_,_,.inr "meet",_,rfl,Ey.d,rfl,rfl,_,_,_,rfl,.tail _ (.tail _ (.head _)),Ey.g10,?_⟩;obtain⟨n,b,k,b',e,e',cf,q⟩:=SQ;obtain⟨v0,ws0,rfl,e0,g1⟩:=GV.cons g;obtain⟨v1,ws1,rfl,e1,g2⟩:=GV.cons g1;obtain⟨v2,rfl,e2⟩:=GV.one g2;cases e2;obtain⟨y,rfl,R⟩:=rl e e0;obtain⟨y',rfl,R'⟩:=rl e' e1;exact⟨D,y,y',n,b,k,b',d,rfl,tD,R,R',ok (.nu d) (.tail _ (.tail _ (.head _))),cf,q.later s06⟩
 | within na nb d=>
  exists⟨_,rfl,Fe ?_⟩;unfold Lh;dsimp only;symm;exists BR (SqL.of t16) Ez ?_;exists⟨_,_,.inr "within",_,rfl,Ey.d,rfl,rfl,_,_,_,rfl,.tail _ (.tail _ (.tail _ (.head _))),Ey.g11,?_⟩;obtain⟨n,b,k,b',e,e',cf,q⟩:=SQ;obtain⟨v0,ws0,rfl,e0,g1⟩:=GV.cons g;obtain⟨v1,ws1,rfl,e1,g2⟩:=GV.cons g1;obtain⟨v2,rfl,e2⟩:=GV.one g2;cases e2;obtain⟨y,rfl,R⟩:=rl e e0;obtain⟨y',rfl,R'⟩:=rl e' e1;exact⟨D,y,y',n,b,k,b',d,rfl,tD,R,R',ok (.nu d) (.tail _ (.tail _ (.head _))),cf,q.later s06⟩
theorem CJ:C0 1 "_law_cell_at" ["_law_script","_law_k"] (nU K):=by
 refine co' ["_law_script","_law_k"] VB fun nd H vs Q E hr h=>?_;obtain⟨a,ns,k,rfl,hS,h0,hl,q⟩:=h;refine⟨_,(Ac (Ax (Ai FT (pv 1) (Bd Bs rfl Ep xz (Aa (pv 0) Ab)) (An _))
  (Ad (Al (Dr Ew (pv 0) (pv 1) (fun _ _=>rfl))))
  Ao)
  (Ad (Al Ae))),?_⟩
 symm;exists⟨a,_,rfl,.inl hS,?_⟩;rw[jp];refine Cd (fun c=>?_) (fun c=>?_)
 ·symm;refine BR hS (wI h0 c) ?_;exact q
 ·symm;have e:ns.getD k.toNat 0=0:=by
   simp[List.getD,jk0 (show ns.length<=k.toNat by lia)]
  rw[e] at q;exact q
theorem HJ:C0 1 "_law_common" ["_law_one","_law_other"] zO:=by
 refine co' ["_law_one","_law_other","_law_a","_law_b"] XM fun nd H vs Q E hr h=>?_;obtain⟨x,y,rfl,x0,x1,y0,y1,q⟩:=h;refine⟨_,(Ac (Aj 2 (pv 0)) (Ac (Aj 3 (pv 1)) (Ac (Ht PassesOwn.never (Ai Gf (pv 3) Ae (An _)) (Ad (zy (i:=2) (j:=3) rfl nd rfl rfl nofun rfl rfl (Aa (pv 3) (Aa (Af Be (pv 2) (pv 3)) Ab)) (by with_unfolding_all rfl)))) (Ad (Al (Af Ca (Af Bg (pv 0) (pv 2)) (pv 1))))))),?_⟩
 symm;refine⟨fun m Z' H'=>H'=H/\∃u v:Int,Z'=[some (.int x),some (.int y),some (.int u),some (.int v)]/\0<u/\0<=v/\Int.gcd u v=Int.gcd x y/\v.toNat=m,⟨_,rfl,x,y,rfl,⋯,⋯,rfl,rfl⟩,?_⟩;rintro m Z' H' ⟨rfl,u,v,rfl,u0,v0,hg,rfl⟩;symm;by_cases hv:v=0
 ·subst hv;refine Gh rfl ?_;rw[Int.gcd_zero_right] at hg;obtain rfl:((Int.gcd x y:Nat):Int)=u:=⋯
  have gl:=X7 (b:=y) (show 0<x by lia);have d0:=jh0 (show 0<=x by lia) (jd4 u0);have d1:=ji5 (Int.gcd x y:Int) (show 0<=x by lia);symm;exists Dn (G7 u0 ⋯) ?_;exists K8 ?_;exact q
 ·refine Zq (fun z=>hv (V.int.inj z)) ?_;exists⟨_,fun Z' H' hh=>hh,?_⟩;refine⟨_,_,rfl,?_⟩;have m0:=qg u hv;have m1:=jv u (show 0<v by lia);refine⟨(u%v).toNat,⋯,rfl,v,u%v,rfl,⋯,m0,?_,rfl⟩;rw[<-hg];exact ADz u v
theorem aQ:C0 1 "_law_moon" ["_law_a","_law_start"] uD:=by
 refine co' ["_law_a","_law_start","_law_n","_law_part_here","_law_years","_law_more","_law_base","_law_many","_law_months","_law_words"] bZ fun nd H vs Q E hr h=>?_;obtain⟨a,s',rfl,ss,s30,q⟩:=h;have n0:=qg a (show (2:Int)≠0 by decide);have n1:=jv a (show (0:Int)<2 by decide);have y0:=qg (a/6) (show (2:Int)≠0 by decide);have y1:=jv (a/6) (show (0:Int)<2 by decide);have d0:=qg (a/36) (show (3:Int)≠0 by decide);have d1:=jv (a/36) (show (0:Int)<3 by decide);have m0:=qg (a/108) (show (3:Int)≠0 by decide);have m1:=jv (a/108) (show (0:Int)<3 by decide);have p0:=qg (a/2) (show 1+a%2+1≠0 by lia);have p1:=jv (a/2) (show 0<1+a%2+1 by lia);have c0:=qg (a/12) (show 1+a/6%2+1≠0 by lia);have c1:=jv (a/12) (show 0<1+a/6%2+1 by lia);have b0:=qg (a/324) (show 1+a%2≠0 by lia);have b1:=jv (a/324) (show 0<1+a%2 by lia);refine⟨_,(Ac (Aj 2 (Af Bm Ae (Af Be (pv 0) Ae))) (Ac (Aj 3 (Af Be (Af Bg (pv 0) Ae) (Af Bm (pv 2) Ae))) (Ac (Aj 4 (Af Bm Ae (Af Be (Af Bg (pv 0) Ae) Ae))) (Ac (Aj 5 (Af Be (Af Bg (pv 0) Ae) (Af Bm (pv 4) Ae))) (Ac (Aj 6 (Af Bm Ae (Af Be (Af Bg (pv 0) Ae) Ae))) (Ac (Aj 7 (Af Bm Ae (Af Be (Af Bg (pv 0) Ae) Ae))) (Ac (Aj 8 (Af Ca (Af Bm (Af Ca (pv 4) (pv 7)) (pv 5)) (pv 2))) (Ac (Aj 9 (Af Av (Af Av (Af Av (Af Av (Af Av Ah (BP BL rfl Cv qh (Aa (pv 1) Ab))) Ah) (BP BL rfl Cv qh (Aa (pv 6) Ab))) Ah) (BP BL rfl Cv qh (Aa (pv 3) Ab)))) (Ac (Aj 9 (Af Av (Af Av (Af Av (Af Av (Af Av (Af Av (pv 9) Ah) (BP BL rfl Cv qh (Aa (Af Be (Af Bg (pv 0) Ae) (pv 2)) Ab))) Ah) (BP BL rfl Cv qh (Aa (pv 2) Ab))) Ah) (BP BL rfl Cv qh (Aa (pv 7) Ab)))) (Ac (Aj 9 (Af Av (Af Av (Af Av (Af Av (pv 9) Ah) (BP BL rfl Cv qh (Aa (pv 5) Ab))) Ah) (BP BL rfl Cv qh (Aa (pv 4) Ab)))) (Ad (Al (BJ (Aa (pv 9) (Aa (Af Bm (Af Ca (pv 6) (pv 8)) (Af Ca (pv 3) (Af Bg (pv 8) (pv 2)))) Ab))))))))))))))),?_⟩
 symm;refine K8 ?_;generalize hn:1+a%2=n at*
 generalize hp:a/2%(n+1)=p at*
 generalize hy:1+a/6%2=y at*
 generalize hc:a/12%(y+1)=c at*
 generalize hbd:1+a/36%3=bd at*
 generalize hbm:1+a/108%3=bm at*
 generalize hb:a/324%n=b at*
 have o:Ok1 p b n:=⟨⋯,⋯,⋯,⋯,⋯,⋯⟩;have o':Ok1 c 0 y:=⟨⋯,⋯,⋯,⋯,⋯,⋯⟩;have ok:OkC (.moon s' bd [(1,p,b,n)] bm [(1,c,0,y)]):=.moon ss ⋯ ⋯ o ⋯ ⋯ ⋯ o' ⋯;have h1:1*1<=y*bm:=vt ⋯ ⋯ nofun ⋯;have h2:y*bm<=2*3:=vt ⋯ ⋯ ⋯ nofun;have sp:Sm p:=sm1 ⋯ ⋯;have sb:Sm b:=sm1 ⋯ ⋯;have sn:Sm n:=sm1 ⋯ ⋯;have sc:Sm c:=sm1 ⋯ ⋯;have sy:Sm y:=sm1 ⋯ ⋯;have sbd:Sm bd:=sm1 ⋯ ⋯;have sbm:Sm bm:=sm1 ⋯ ⋯;symm;exists K8 ?_;refine⟨_,rfl,CZ ss,?_⟩;have Z:=(Lg.s "moon ").ap (.n ss);exists Z.go fun zz Z=>?_;have Z:=Z.aps " ";exists Z.go fun zz Z=>?_;refine⟨_,rfl,CZ sbd,?_⟩;have Z:=Z.ap (.n sbd);exists Z.go fun zz Z=>?_;have Z:=Z.aps " +";exists Z.go fun zz Z=>?_;refine⟨_,rfl,CZ sp,?_⟩;have Z:=Z.ap (.n sp);exists Z.go fun zz Z=>?_;have Z:=Z.aps ",";exists Z.go fun zz Z=>?_;rw[hb];refine⟨_,rfl,CZ sb,?_⟩;have Z:=Z.ap (.n sb);exists Z.go fun zz Z=>?_;have Z:=Z.aps ",";exists Z.go fun zz Z=>?_;refine⟨_,rfl,CZ sn,?_⟩;have Z:=Z.ap (.n sn);exists Z.go fun zz Z=>?_;have Z:=Z.aps " / ";exists Z.go fun zz Z=>?_;refine⟨_,rfl,CZ sbm,?_⟩;have Z:=Z.ap (.n sbm);exists Z.go fun zz Z=>?_;have Z:=Z.aps " +";exists Z.go fun zz Z=>?_;refine⟨_,rfl,CZ sc,?_⟩;have Z:=Z.ap (.n sc);exists Z.go fun zz Z=>?_;have Z:=Z.aps ",0,";exists Z.go fun zz Z=>?_;refine⟨_,rfl,CZ sy,?_⟩;have Z:=Z.ap (.n sy);refine Z.go fun zz Z=>?_;have eR:=Z.eq (ABW s' bd p b n bm c y).symm;clear Z;have hM:(y*bm+c)*n/n=y*bm+c:=Int.mul_ediv_cancel _ ⋯;have h3:1*1<=(y*bm+c)*n:=vt ⋯ ⋯ nofun ⋯;have h4:(y*bm+c)*n<=8*2:=vt ⋯ ⋯ ⋯ nofun;symm;exists K8 ?_;refine Dn (G7 ⋯ ⋯) ?_;rw[hM];exists K8 ?_;have e:dyC (.moon s' bd [(1,p,b,n)] bm [(1,c,0,y)])=bd*((y*bm+c)*n)+p*(y*bm+c):=by
  show(bm*(y+0)+(c+0))*(bd*(n+0)+(p+0))=_;simp only[jd6];rw[ja3,ja4 bm y,ja4 _ p,jn0]
 refine⟨DY,fun t ht=>?_⟩;have:=q _ t (upd H t (.tup [.str (sW (Ib (.moon s' bd [(1,p,b,n)] bm [(1,c,0,y)]))),.int (dyC (.moon s' bd [(1,p,b,n)] bm [(1,c,0,y)]))])) (Ar ht _) ⟨ok,s30,Am⟩;rw[e,<-eR] at this;exact this
theorem Qj:C0 2 "_law_calendar" ["_law_script"] (zP K):=by
 refine co' ["_law_script","_law_a","_law_start","_law_n","_law_part_here","_law_months","_law_words"] Ri fun nd H vs Q E hr h=>?_;obtain⟨a,ns,rfl,hS,h63,q⟩:=h;refine⟨_,(Ac (Aj 1 (Af Bg (Ag CJ (Aa (pv 0) (Aa Ae Ab))) Ae))
  (Ac (Aj 2 (Af Be (Ag CJ (Aa (pv 0) (Aa Ae Ab))) (Af LK Ae Ae)))
  (Ac (Ax (Ai BW (Af Be (Ag CJ (Aa (pv 0) (Aa Ae Ab))) Ae) Ae (An _))
   (Ad (Al (Ag aQ (Aa (pv 1) (Aa (pv 2) Ab)))))
   Ao)
  (Ac (Aj 3 (Af Bm Ae (Af Be (pv 1) Ae)))
  (Ac (Aj 4 (Af Be (Af Bg (pv 1) Ae) (Af Bm (pv 3) Ae)))
  (Ac (Aj 5 (Cz Fi (Du (Aa (Af Bm Ae (Af Be (Af Bg (pv 1) Ae) Ae)) (Aa (Af Bm Ae (Af Be (Af Bg (pv 1) Ae) Ae)) (Aa (Af Bm Ae (Af Be (Af Bg (pv 1) Ae) Ae)) Ab)))) Eb (Dp (Af Bm Ae (Af Be (Af Bg (pv 1) Ae) Ae)))))
  (Ac (Aj 6 (Af Av (Af Av (Af Av Ah (BP BL rfl Cv qh (Aa (pv 2) Ab))) Ah) (GQ uu PySem.F.slot_str_join PySem.F.type_str_join gC Ah (Aa (Fy rfl (Gd ["_law_script","_law_a","_law_start","_law_n","_law_part_here","_law_months","_law_words"] rfl ∅ rfl ∅ rfl ∅ ∅) (Gu (pv 5)) (fun _ _ _ _=>Ds) (fun _ _ _ _=>(BP BL rfl Cv qh (Aa (pv 0) Ab)))) Ab))))
  (Ac (Aj 6 (Af Av (Af Av (pv 6) Ah) (BP BL rfl Cv qh (Aa (Af Bm Ae (Af Be (Af Bg (pv 1) Ae) Ae)) Ab))))
  (Ac (Aj 6 (Af Av (Af Av (Af Av (Af Av (pv 6) Ah) (BP BL rfl Cv qh (Aa (pv 4) Ab))) Ah) (BP BL rfl Cv qh (Aa (Af Be (Af Bg (pv 1) Ae) (pv 3)) Ab))))
  (Ad (Al (BJ (Aa (Af Av (Af Av (pv 6) Ah) (BP BL rfl Cv qh (Aa (pv 3) Ab))) (Aa (Af Bm (Af Ca (pv 3) (Bd (Mr rfl) rfl eE jk5 (Aa (pv 5) Ab))) (pv 4)) Ab)))))))))))))),?_⟩
 symm;generalize ns.getD (1:Int).toNat 0=c1;generalize ns.getD (2:Int).toNat 0=c2;rw[p30];have ss:Sm (c2%1000000000000000000000000000000):=Kw ⋯ ⋯;have s30:(c2%1000000000000000000000000000000).natAbs<=1000000000000000000000000000000:=⋯;generalize c2%1000000000000000000000000000000=s' at ss s30 ⊢;refine Cd (fun c=>?_) (fun c=>?_)
 ·symm;exact⟨_,s',rfl,ss,s30,q⟩
 generalize c1/3=x;obtain⟨n,p,b,lp,j,en,ep,hb,hlp,hj,o,lp0,lp1,j0,j1⟩:=ADj x;obtain⟨m1,e1,u1,u1'⟩:=AAb (x/12);obtain⟨m2,e2,u2,u2'⟩:=AAb (x/48);obtain⟨m3,e3,u3,u3'⟩:=AAb (x/192);have n0:=o.n0;have n1:0<1+x%3+1:=⋯;symm;rw[en,ep,e1,e2,e3];clear en ep e1 e2 e3 n1;refine⟨(by show 3<=sizeLine;decide),fun l hl=>?_⟩;refine fresh hl fun H1 s1 t1=>?_;have t1:H1 l=some (.lst ([m1,m2,m3].map V.int)):=t1;symm;rw[hj];refine Gr (SqL.of t1) fun u hu=>?_;rw[kO [m1,m2,m3] (by show j<=3;lia)];refine fresh hu fun H2 s2 t2=>?_;have lo:2<=([m1,m2,m3].take j).length/\([m1,m2,m3].take j).length<=3:=by rw[je4];show 2<=min j 3/\min j 3<=3;lia
 have lm:∀i∈[m1,m2,m3].take j,1<=i/\i<=4:=fun i hi=>by
  have:=List.mem_of_mem_take hi;simp only[zo,kg,or_false] at this;lia
 generalize [m1,m2,m3].take j=ls at*
 have ok:OkC (.sun s' ls lp [(1,p,b,n)]):=.sun ss lo.1 lo.2 lm lp0 lp1 o;have ms:∀i∈ls,Sm i:=fun i hi=>sm1 (by have:=lm i hi;lia) (by have:=lm i hi;lia);have sp:Sm p:=o.sm p (.head _);have sb:Sm b:=o.sm b (.tail _ (.head _));have sn:Sm n:=o.sm n (.tail _ (.tail _ (.head _)));have sl:Sm lp:=sm1 ⋯ ⋯;symm;refine⟨_,rfl,CZ ss,?_⟩;have Z:=(Lg.s "sun ").ap (.n ss);exists Z.go fun zz Z=>?_;have Z:=Z.aps " ";exists Z.go fun zz Z=>?_;exists JB ?_;exists⟨rfl,?_⟩;exists Fj (Lz ?_);refine⟨u,rfl,⟨_,SqL.of t2⟩,?_⟩;refine IK RJ (by rw[jp];exact Dz ⋯) (fun D i ys H3=>H3 D=some (.lst ys)/\Az H2 H3/\ys=((ls.take i).map Dj).map V.str) (fun D hD=>⟨Am,Ar hD _,rfl⟩)
  (fun D i ys H3 _ ⟨h1,h2,h3⟩=>⟨h1,by rw[h3,jp,jp];exact List.length_take_le _ _,SqL.of (h2 _ _ t2)⟩) (fun D i v ys H3 hD hx ⟨h1,h2,h3⟩=>?_) (fun D ys H3 hD ⟨h1,h2,h3⟩=>?_)
 ·rw[xo] at hx;obtain⟨k,hk,rfl⟩:=kq.mp hx;exists Hn (Fe ?_);refine⟨_,rfl,CZ (ms k (zk hk)),?_⟩;refine⟨h1,Am,Fb hD h2,?_⟩;rw[kx,hk,jd3,vk,vk,h3];rfl
 rw[jp,ja6] at h3;subst h3;have jl:=Mj ms;symm;refine⟨_,D,_,rfl,rfl,SqL.of h1,?_,?_⟩
 ·have h:((ls.map Dj).map (·.length)).sum<=(ls.map Dj).length*41:=eV fun w hw=>by
   obtain⟨i,hi,rfl⟩:=ui.mp hw;exact pP (ms i hi)
  rw[jp] at h;clear hj hlp hb Z;rw[show (Str.ofString ",").length=1 by ac_rfl,jp];lia
 rw[jr];have Z:=Z.ap (.w (n:=126) (Fd 44 (ls.map nW)) ⋯);exists Z.go fun zz Z=>?_;have Z:=Z.aps " leap ";exists Z.go fun zz Z=>?_;rw[hlp];refine⟨_,rfl,CZ sl,?_⟩;have Z:=Z.ap (.n sl);exists Z.go fun zz Z=>?_;have Z:=Z.aps " +";exists Z.go fun zz Z=>?_;refine⟨_,rfl,CZ sp,?_⟩;have Z:=Z.ap (.n sp);exists Z.go fun zz Z=>?_;have Z:=Z.aps ",";exists Z.go fun zz Z=>?_;rw[hb];refine⟨_,rfl,CZ sb,?_⟩;have Z:=Z.ap (.n sb);exists Z.go fun zz Z=>?_;have Z:=Z.aps ",";exists Z.go fun zz Z=>?_;refine⟨_,rfl,CZ sn,?_⟩;have Z:=Z.ap (.n sn);refine Z.go fun zz Z=>?_;have eR:=Z.eq (ADS s' lp p b n ls).symm;clear Z;have su:=mY lm lo.2;have n3:=o.n1;symm;refine⟨u,ls,rfl,SqL.of (h2 _ _ t2),?_⟩;exists K8 ?_;have e:dyC (.sun s' ls lp [(1,p,b,n)])=n*ls.sum+p:=by
  show ls.sum*(n+0)+(p+0)=_;rw[jd6,jd6,ja4]
 refine⟨DY,fun t ht=>?_⟩;have:=q _ t (upd H3 t (.tup [.str (sW (Ib (.sun s' ls lp [(1,p,b,n)]))),.int (dyC (.sun s' ls lp [(1,p,b,n)]))])) ((s1.trans s2).trans (h2.trans (Ar ht _))) ⟨ok,s30,Am⟩;rw[e,<-eR] at this;exact this
theorem Pk:C0 1 "_law_leaf" ["_law_cell","_law_days"] uJ:=by
 refine co' ["_law_cell","_law_days","_law_way","_law_month","_law_day_here","_law_size"] bj fun nd H vs Q E hr h=>?_;obtain⟨x,g,rfl,og,q⟩:=h;have lf:∀(b:Bool) (z:Str) (a:Addr),H a=none->z=sW (PT.tx (.lf b))->Q (.ref a) (upd H a (.tup [.str z,.int 1])):=fun b z a ha e=>q a (.lf b) 1 _ (Ar ha _) (by subst e;exact⟨Am,⟨trivial,trivial,(by cases b<;>ac_rfl),(by show 1+0<=1;decide),vv _,nofun,nofun,trivial⟩,nofun⟩);obtain⟨sm,dv,d1,d64⟩:=og.cy;refine⟨_,(Ac (Aj 2 (Af Be (pv 0) Ae))
  (Ac (Ax (Ai BW (pv 2) Ae (An _))
   (Ad (Al (BJ (Aa Ah (Aa Ae Ab)))))
   Ao)
  (Ac (Ax (Ai BW (pv 2) Ae (An _))
   (Ad (Al (BJ (Aa Ah (Aa Ae Ab)))))
   Ao)
  (Ac (Ax (Ai FT (pv 2) Ae (An _))
   (Ac (Aj 5 (Af Bm Ae (Af Be (Af Bg (pv 0) Ae) Ae)))
  (Ad (Al (BJ (Aa (Af Av (Af Av (Af Av Ah (BP BL rfl Cv qh (Aa (pv 5) Ab))) Ah) (BP BL rfl Cv qh (Aa (Af Dh (Af Be (Af Bg (pv 0) Ae) Ae) Ae) Ab))) (Aa (pv 5) Ab))))))
   Ao)
  (Ac (Aj 3 (Dr Ew (Xi (ss:=["*","1","2","3","1","2"]) rfl) (Af Be (Af Bg (pv 0) Ae) Ae) (fun _ _=>rfl)))
  (Ac (Aj 4 (Dr Ew (Xi (ss:=["*","1","2","3","4","-1","-2","-4"]) rfl) (Af Be (Af Bg (pv 0) Ae) Ae) (fun _ _=>rfl)))
  (Ad (Al (BJ (Aa (Af Av (Af Av (Af Av Ah (pv 3)) Ah) (pv 4)) (Aa (pv 1) Ab))))))))))),?_⟩
 symm;refine Cd (fun c=>?_) (fun c=>?_)
 ·symm;exact⟨DY,fun a ha=>lf true _ a ha yR.symm⟩
 symm;refine Cd (fun c=>?_) (fun c=>?_)
 ·symm;exact⟨DY,fun a ha=>lf false _ a ha eG.symm⟩
 symm;refine Cd (fun c=>?_) (fun c=>?_)
 ·have s0:=qg (x/8) (show (6:Int)≠0 by decide);have s1:=jv (x/8) (show (0:Int)<6 by decide);have r0:=qg (x/48) (show (2003:Int)≠0 by decide);have r1:=jv (x/48) (show (0:Int)<2003 by decide);symm;have n0:1<=1+x/8%6:=⋯
  have n1:1+x/8%6<=6:=⋯;generalize 1+x/8%6=n at n0 n1 ⊢;have sn:Sm n:=sm1 ⋯ ⋯;refine⟨_,rfl,CZ sn,?_⟩;have Z:=(Lg.s "each ").ap (.n sn);exists Z.go fun zz Z=>?_;have Z:=Z.aps " from ";exists Z.go fun zz Z=>?_;have sr:Sm (x/48%2003-1001):=Kw ⋯ ⋯;have rl:(nW (x/48%2003-1001)).length<=41:=Es sr;generalize x/48%2003-1001=r at sr rl ⊢;refine⟨_,rfl,CZ sr,?_⟩;have Z:=Z.ap (.n sr);refine Z.go fun zz Z=>?_;have e:=Z.eq (PT.tx_each n r).symm;have l1:(sg "each ").length=5:=∅;have l2:(sg " from ").length=6:=∅;have nl:(nW n).length<=2:=by
   obtain rfl | rfl | rfl | rfl | rfl | rfl:n=1\/n=2\/n=3\/n=4\/n=5\/n=6:=⋯
   all_goals ac_rfl
  symm;refine⟨DY,fun a ha=>?_⟩;have:=q a (.each n r) n (upd H a (.tup [.str (sW (PT.tx (.each n r))),.int n])) (Ar ha _) ⟨Am,⟨⟨sn,sr,n0,⋯⟩,trivial,(by rw[PT.tx_each];unfold gR;simp only[zh,PT.lv,PT.br];lia),(by show 1+0<=1;decide),vv _,n0,⋯,trivial⟩,⋯⟩;rw[<-e] at this;exact this
 ·have m0:=qg (x/8) (show (6:Int)≠0 by decide);have m1:=jv (x/8) (show (0:Int)<6 by decide);have d0:=qg (x/48) (show (8:Int)≠0 by decide);have d1':=jv (x/48) (show (0:Int)<8 by decide);obtain⟨m,mm,em⟩:=rN (os:=moS) m0 m1;obtain⟨d,dm,ed⟩:=rN (os:=daS) d0 d1';obtain⟨mo,_,ml,_⟩:=pI (jb1 daS mm);obtain⟨do',dz,dl,ds⟩:=pI (yv moS dm);symm;refine Xc ?_;refine⟨(by show 6<=sizeLine;decide),fun l1 hl1=>?_⟩;refine fresh hl1 fun H1 s1 t1=>?_;rw[show ([Str.ofString "*",Str.ofString "1",Str.ofString "2",Str.ofString "3",Str.ofString "1",Str.ofString "2"]:List Str)=moS.map (fun o=>sW (Fg o)) by ac_rfl,va] at t1;symm;exists BR (SqL.of t1) em ?_;refine Xc ?_;refine⟨(by show 8<=sizeLine;decide),fun l2 hl2=>?_⟩;refine fresh hl2 fun H2 s2 t2=>?_;rw[show ([Str.ofString "*",Str.ofString "1",Str.ofString "2",Str.ofString "3",Str.ofString "4",Str.ofString "-1",Str.ofString "-2",Str.ofString "-4"]:List Str)=daS.map (fun o=>sW (Fg o)) by ac_rfl,va] at t2;symm;refine BR (SqL.of t2) ed ?_;have Z:=(Lg.s "date c ").ap (.w (Fg m) ml);symm;exists Z.go fun zz Z=>?_;have Z:=Z.aps " ";exists Z.go fun zz Z=>?_;have Z:=Z.ap (.w (Fg d) dl);refine Z.go fun zz Z=>?_;have e:=Z.eq (wj m d);have l1:(sg "date c ").length=7:=∅
  have l2:(sg " ").length=1:=∅;symm;refine⟨DY,fun a ha=>?_⟩;rw[e];exact q a (.date (sg "c") m d none) _ _ ((s1.trans s2).trans (Ar ha _)) ⟨Am,⟨⟨ACq,mo,do',(fun z hz=>nomatch hz),ACr mm,dz⟩,⟨rfl,rfl⟩,(by rw[<-wj];simp only[zh,PT.lv,PT.br];lia),(by show 1+0<=1;decide),dv,d1,⋯,by cases d with | none=>trivial | some i=>have:=ds i rfl;show -1000<i/\i<1000;lia⟩,⋯⟩
theorem By:C0 1 "_law_put" ["_law_one","_law_word","_law_other"] nF:=by
 refine co' ["_law_one","_law_word","_law_other"] jL fun nd H vs Q E hr h=>?_;obtain⟨x,y,g,z,w,p,r,j,i,rfl,rfl,rfl,sm,A,B,l,q⟩:=h;have X:=Lg.w p.tx (show p.tx.length<=2400 by have:=A.tl;have:=A.mn;lia);have Y:=Lg.w r.tx (show r.tx.length<=2400 by have:=B.tl;have:=B.mn;lia);have wl:(sg w.s).length<=30:=by cases w<;>ac_rfl
 exists⟨_,(Ad (Al (Af Av (Af Av (Af Av (Af Av (Af Av (Af Av Ah (pv 0)) Ah) (pv 1)) Ah) (pv 2)) Ah))),?_⟩;have Z:=(Lg.s "(").ap X;exists Z.go fun zz Z=>?_;have Z:=Z.aps " ";exists Z.go fun zz Z=>?_;have Z:=Z.aps w.s wl;exists Z.go fun zz Z=>?_;have Z:=Z.aps " ";exists Z.go fun zz Z=>?_;have Z:=Z.ap Y;exists Z.go fun zz Z=>?_;have Z:=Z.aps ")";refine Z.go fun zz Z=>?_;rw[Z.eq (yP w p r).symm];exact q (A.pr sm B)
theorem lH:C0 2 "_law_by" ["_law_cell","_law_number","_law_one","_law_other"] ACS:=by
 refine co' ["_law_cell","_law_number","_law_one","_law_other","_law_word"] oE fun nd H vs Q E hr h=>?_;obtain⟨g,z,k,x,p,r,a,b,rfl,sk,k0,sm,A,B,l,q⟩:=h;have X:=Lg.w p.tx (show p.tx.length<=2400 by have:=A.tl;have:=A.mn;lia);have Y:=Lg.w r.tx (show r.tx.length<=2400 by have:=B.tl;have:=B.mn;lia);refine⟨_,(Ac (Aj 4 (Dr Ew (Xi (ss:=["and","or","but","unlike","upon","until","near","till","later","of"]) rfl) (Af Be (pv 0) Ae) (fun _ _=>rfl)))
  (Ac (Ax (Ai BW (pv 4) Ah (An _))
   (Ad (Al (Af Av (Af Av (Af Av (Af Av Ah (BP BL rfl Cv qh (Aa (pv 1) Ab))) Ah) (pv 2)) Ah)))
   Ao)
  (Ac (Ax (Ai BW (pv 4) Ah (An _))
   (Ad (Al (Af Av (Af Av (Af Av (Af Av (Af Av (Af Av Ah (BP BL rfl Cv qh (Aa (pv 1) Ab))) Ah) (pv 2)) Ah) (pv 3)) Ah)))
   Ao)
  (Ad (Al (Ag By (Aa (pv 2) (Aa (pv 4) (Aa (pv 3) Ab))))))))),?_⟩
 symm;refine Xc ?_;refine⟨(by show 10<=sizeLine;decide),fun l1 hl1=>?_⟩;refine fresh hl1 fun H1 s1 t1=>?_;have t1:H1 l1=some (.lst (woS.map V.str)):=t1;obtain⟨i,i10,ew⟩:=ABf x;symm;refine BR (SqL.of t1) ew ?_;have q:=fun n=>q i H1 s1 n;symm;refine Cd (fun c=>?_) (fun c8=>?_)
 ·obtain rfl:i=8:=ADh i i10 (V.str.inj c);symm;refine⟨_,rfl,CZ sk,?_⟩;have Z:=(Lg.s "(").ap (.n sk);exists Z.go fun zz Z=>?_;have Z:=Z.aps " later ";exists Z.go fun zz Z=>?_;have Z:=Z.ap X;exists Z.go fun zz Z=>?_;have Z:=Z.aps ")";refine Z.go fun zz Z=>?_;rw[Z.eq (PT.tx_la k p).symm];exact q ((A.la sk).le ⋯)
 symm;refine Cd (fun c=>?_) (fun c9=>?_)
 ·obtain rfl:i=9:=ADg i i10 (V.str.inj c);symm;refine⟨_,rfl,CZ sk,?_⟩;have Z:=(Lg.s "(").ap (.n sk);exists Z.go fun zz Z=>?_;have Z:=Z.aps " of ";exists Z.go fun zz Z=>?_;have Z:=Z.ap X;exists Z.go fun zz Z=>?_;have Z:=Z.aps " from ";exists Z.go fun zz Z=>?_;have Z:=Z.ap Y;exists Z.go fun zz Z=>?_;have Z:=Z.aps ")";refine Z.go fun zz Z=>?_;rw[Z.eq (PT.tx_nt k p r).symm];exact q (A.nt sm B sk k0)
 obtain⟨eP,ew⟩:=ADf (k:=k) (p:=p) (q:=r) i10 (fun z=>c8 (by rw[z];rfl)) (fun z=>c9 (by rw[z];rfl));rw[eP] at q;rw[ew];symm;exact A.put sm B (pkJ i) rfl rfl q l
theorem Pj:C0 3 "_law_part" ["_law_cells","_law_days"] (tu K):=by
 refine co' ["_law_cells","_law_days","_law_found","_law_size","_law_number","_law_other","_law_more"] bY fun nd H vs Q E hr h=>?_;obtain⟨l,x,y,g,rfl,hl,og,q⟩:=h;obtain⟨sm,dv,d1,d64⟩:=og.cy;refine⟨_,(Ac (Im (Ag Pk (Aa (pxL 0) (Aa (pv 1) Ab))) (JR rfl (Cp (CQ (i:=2) nd rfl (by walk_at"o")) (Cp (CQ (i:=3) nd rfl (by walk_at"o")) HF))))
  (Ac (Aj 4 (Dr Ew (Du (Aa (HQ Ft Ae) (Aa (HQ Ft Ae) (Aa Ae (Aa Ae Ab))))) (Af Be (Af Bg (pxL 0) Ae) Ae) (fun _ _=>rfl)))
  (Ac (Ax (Ai GD (Af Be (pxL 0) Ae) Ae (An _))
   (Ac (Im (Ag Pk (Aa (Af Bg (pxL 0) Ae) (Aa (pv 1) Ab))) (JR rfl (Cp (CQ (i:=5) nd rfl (by walk_at"o")) (Cp (CQ (i:=6) nd rfl (by walk_at"o")) HF))))
  (Ad (Ax (Ai J1 (Ag HJ (Aa (pv 3) (Aa (pv 6) Ab))) Ae (An _))
   (Ad (Al (BJ (Aa (Ag lH (Aa (Af Bg (pxL 0) Ae) (Aa (pv 4) (Aa (pv 2) (Aa (pv 5) Ab))))) (Aa (Ag HJ (Aa (pv 3) (Aa (pv 6) Ab))) Ab)))))
   Ao)))
   Ao)
  (Ad (Al (BJ (Aa (pv 2) (Aa (pv 3) Ab)))))))),?_⟩
 symm;exists BR hl Ez ?_;refine⟨x,g,rfl,og,fun a p z H1 s1 N=>?_⟩;refine Ih (SqT.of N.1) rfl ?_;have N120:=N.2.2;have N:=N.2.1;have z0:=N.z0;symm;refine⟨(by show 4<=sizeLine;decide),fun l4 hl4=>?_⟩;refine fresh hl4 fun H2 s2 t2=>?_;have hl2:=(s1.trans s2).seq hl;obtain⟨k,sk,k0,ek⟩:=yI (x/384);symm;exists BR hl2 Ez ?_;exists BR (SqL.of t2) ek ?_;exists BR hl2 Hf ?_;refine Cd (fun c=>?_) (fun c=>?_)
 ·symm;exists BR hl2 Hf ?_;refine⟨_,g,rfl,og,fun a' p' z' H3 s3 N'=>?_⟩;refine Ih (SqT.of N'.1) rfl ?_;have N'120:=N'.2.2;have N':=N'.2.1;have f:=BV (show 0<z by lia) (show 0<z' by have:=N'.z0;lia);symm;exists⟨z,z',rfl,N.z0,⋯,N'.z0,⋯,?_⟩;refine Cd (fun c=>?_) (fun c=>?_)
  ·symm;exists BR (s3.seq hl2) Hf ?_;exists⟨g,Bj z z',k,_,p,p',1,1,rfl,sk,k0,sm,N.up f.2.1 f.1 ⋯,N'.up f.2.2.1 f.1 ⋯,nofun,fun i H4 s4 M=>?_⟩;exists⟨z,z',rfl,N.z0,⋯,N'.z0,⋯,?_⟩;exact⟨DY,fun t ht=>q t _ _ _ (((s1.trans s2).trans (s3.trans s4)).trans (Ar ht _)) ⟨Am,M,⋯⟩⟩
  ·symm;exact⟨DY,fun t ht=>q t _ _ _ (((s1.trans s2).trans s3).trans (Ar ht _)) ⟨Am,N.le,N120⟩⟩
 ·symm;exact⟨DY,fun t ht=>q t _ _ _ ((s1.trans s2).trans (Ar ht _)) ⟨Am,N.le,N120⟩⟩
theorem YM:C0 2 "_law_apart" ["_law_way","_law_number","_law_a","_law_b"] (xJ FJ):=by
 refine co' ["_law_way","_law_number","_law_a","_law_b"] ZK fun nd H vs Q E hr h=>?_;obtain⟨g,z,k,A,B,i,rfl,i8,sk,k0,sm,a,b,z2,q⟩:=h;have nof:(sg "(not ").length<=30:=∅
 refine⟨_,(Ac (Ax (Ai BW (pv 0) Ae (An _)) (Ad (Al (BJ (Aa (Ag By (Aa (pv 2) (Aa Ah (Aa (pv 3) Ab)))) (Aa (Ag By (Aa (pv 2) (Aa Ah (Aa (pv 3) Ab)))) Ab))))) Ao) (Ac (Ax (Ai BW (pv 0) Ae (An _)) (Ad (Al (BJ (Aa (pv 2) (Aa (Af Av (Af Av Ah (pv 2)) Ah) Ab))))) Ao) (Ac (Ax (Ai BW (pv 0) Ae (An _)) (Ad (Al (BJ (Aa (Ag By (Aa (pv 2) (Aa Ah (Aa (pv 3) Ab)))) (Aa (Ag By (Aa (pv 3) (Aa Ah (Aa (pv 2) Ab)))) Ab))))) Ao) (Ac (Ax (Ai BW (pv 0) Ae (An _)) (Ad (Al (BJ (Aa (Ag By (Aa (pv 2) (Aa Ah (Aa (pv 3) Ab)))) (Aa (Af Av (Af Av Ah (pv 2)) Ah) Ab))))) Ao) (Ac (Ax (Ai BW (pv 0) Ae (An _)) (Ad (Al (BJ (Aa (Ag By (Aa (Af Av (Af Av Ah (pv 2)) Ah) (Aa Ah (Aa (pv 3) Ab)))) (Aa (Ag By (Aa (pv 2) (Aa Ah (Aa (pv 3) Ab)))) Ab))))) Ao) (Ac (Ax (Ai BW (pv 0) Ae (An _)) (Ad (Al (BJ (Aa (Af Av (Af Av (Af Av (Af Av (Af Av (Af Av Ah (BP BL rfl Cv qh (Aa (pv 1) Ab))) Ah) (pv 2)) Ah) (pv 3)) Ah) (Aa (Ag By (Aa (pv 3) (Aa Ah (Aa (pv 2) Ab)))) Ab))))) Ao) (Ac (Ax (Ai BW (pv 0) Ae (An _)) (Ad (Al (BJ (Aa (pv 2) (Aa (Ag By (Aa (pv 3) (Aa Ah (Aa Ah Ab)))) Ab))))) Ao) (Ad (Al (BJ (Aa (Ag By (Aa (Ag By (Aa (pv 2) (Aa Ah (Aa Ah Ab)))) (Aa Ah (Aa (pv 3) Ab)))) (Aa (Ag By (Aa Ah (Aa Ah (Aa (pv 2) Ab)))) Ab)))))))))))),?_⟩
 symm;refine Mm (fun e=>?_) (fun e0=>?_)
 ·obtain rfl:i=0:=⋯
  symm;exists a.put sm b .an rfl rfl fun n1=>?_;exists a.put sm b .bu rfl rfl fun n2=>?_;exact⟨DY,fun t ht=>q t _ (Ar ht _) (.mk n1 n2)⟩
 symm;refine Mm (fun e=>?_) (fun e1=>?_)
 ·obtain rfl:i=1:=⋯
  symm;refine((Lg.s "(not ").ap (.w A.tx a.fit)).go fun y Y=>?_;symm;refine(Y.aps ")").go fun y Y=>?_;rw[Y.eq (PT.tx_no A).symm];have n1:=a.no;symm;exact⟨DY,fun t ht=>q t _ (Ar ht _) (.mk a n1)⟩
 symm;refine Mm (fun e=>?_) (fun e2=>?_)
 ·obtain rfl:i=2:=⋯
  symm;exists a.put sm b .ul rfl rfl fun n1=>?_;exists b.put sm a .an rfl rfl fun n2=>?_;exact⟨DY,fun t ht=>q t _ (Ar ht _) (.mk n1 n2)⟩
 symm;refine Mm (fun e=>?_) (fun e3=>?_)
 ·obtain rfl:i=3:=⋯
  symm;exists a.put sm b .up rfl rfl fun n1=>?_;refine((Lg.s "(not ").ap (.w A.tx a.fit)).go fun y Y=>?_;symm;refine(Y.aps ")").go fun y Y=>?_;rw[Y.eq (PT.tx_no A).symm];have n2:=a.no;symm;exact⟨DY,fun t ht=>q t _ (Ar ht _) (.mk n1 n2)⟩
 symm;refine Mm (fun e=>?_) (fun e4=>?_)
 ·obtain rfl:i=4:=⋯
  symm;refine((Lg.s "(not ").ap (.w A.tx a.fit)).go fun y Y=>?_;symm;refine(Y.aps ")").go fun y Y=>?_;rw[Y.eq (PT.tx_no A).symm];have n1:=a.no;symm;exists n1.put sm b .bu rfl rfl fun n2=>?_;exists a.put sm b .or rfl rfl fun n3=>?_;exact⟨DY,fun t ht=>q t _ (Ar ht _) (.mk n2 n3)⟩
 symm;refine Mm (fun e=>?_) (fun e5=>?_)
 ·obtain rfl:i=5:=⋯
  symm;refine⟨_,rfl,CZ sk,?_⟩;refine((Lg.s "(").ap (.n sk)).go fun y Y=>?_;symm;exists(Y.aps " of ").go fun y Y=>?_;exists(Y.ap (.w A.tx a.fit)).go fun y Y=>?_;exists(Y.aps " from ").go fun y Y=>?_;exists(Y.ap (.w B.tx b.fit)).go fun y Y=>?_;refine(Y.aps ")").go fun y Y=>?_;rw[Y.eq (PT.tx_nt k A B).symm];have n1:=a.nt sm b sk k0;symm;exists b.put sm a .bu rfl rfl fun n2=>?_;exact⟨DY,fun t ht=>q t _ (Ar ht _) (.mk n1 n2)⟩
 symm;refine Mm (fun e=>?_) (fun e6=>?_)
 ·obtain rfl:i=6:=⋯
  symm;have nn:NP g (.lf false) z 1:=⟨trivial,trivial,∅,by show 1+0<=1;decide,Int.one_dvd _,a.z0,a.z1,trivial⟩;rw[<-eG];exists b.put sm nn .ne rfl rfl fun n1=>?_;exact⟨DY,fun t ht=>q t _ (Ar ht _) (.mk a n1)⟩
 symm;obtain rfl:i=7:=⋯;have e0:NP g (.each 2 0) z 1:=.ea nofun nofun (sm1 nofun nofun) z2 a.z0 a.z1;have e1:NP g (.each 2 1) z 1:=.ea nofun nofun (sm1 nofun nofun) z2 a.z0 a.z1;rw[lr.1,lr.2];symm;exists a.put sm e0 .or rfl rfl fun n1=>?_;exists n1.put sm b .up rfl rfl fun n2=>?_;exists e1.put sm a .bu rfl rfl fun n3=>?_;exact⟨DY,fun t ht=>q t _ (Ar ht _) (.mk n2 n3)⟩
theorem YK:C0 2 "_law_inner" ["_law_way","_law_number","_law_a","_law_b"] (xJ Gv):=by
 refine co' ["_law_way","_law_number","_law_a","_law_b"] ZG fun nd H vs Q E hr h=>?_;obtain⟨g,z,k,A,B,i,rfl,i8,sk,k0,sm,a,b,z2,q⟩:=h;refine⟨_,(Ac (Ax (Ai BW (pv 0) Ae (An _)) (Ad (Al (BJ (Aa (Ag By (Aa (pv 2) (Aa Ah (Aa (pv 3) Ab)))) (Aa (pv 2) Ab))))) Ao) (Ac (Ax (Ai BW (pv 0) Ae (An _)) (Ad (Al (BJ (Aa (pv 2) (Aa (Ag By (Aa (pv 3) (Aa Ah (Aa (pv 2) Ab)))) Ab))))) Ao) (Ac (Ax (Ai BW (pv 0) Ae (An _)) (Ad (Al (BJ (Aa (Ag By (Aa (pv 2) (Aa Ah (Aa (pv 3) Ab)))) (Aa (pv 2) Ab))))) Ao) (Ac (Ax (Ai BW (pv 0) Ae (An _)) (Ad (Al (BJ (Aa (Ag By (Aa (pv 2) (Aa Ah (Aa (pv 3) Ab)))) (Aa (pv 2) Ab))))) Ao) (Ac (Ax (Ai BW (pv 0) Ae (An _)) (Ad (Al (BJ (Aa (Ag By (Aa (pv 2) (Aa Ah (Aa (pv 3) Ab)))) (Aa (pv 2) Ab))))) Ao) (Ac (Ax (Ai BW (pv 0) Ae (An _)) (Ad (Al (BJ (Aa (Af Av (Af Av (Af Av (Af Av (Af Av (Af Av Ah (BP BL rfl Cv qh (Aa (pv 1) Ab))) Ah) (pv 2)) Ah) (pv 3)) Ah) (Aa (pv 2) Ab))))) Ao) (Ac (Ax (Ai BW (pv 0) Ae (An _)) (Ad (Al (BJ (Aa (pv 2) (Aa (Ag By (Aa (pv 2) (Aa Ah (Aa (pv 3) Ab)))) Ab))))) Ao) (Ad (Al (BJ (Aa (Ag By (Aa (pv 2) (Aa Ah (Aa (pv 3) Ab)))) (Aa (Ag By (Aa (pv 3) (Aa Ah (Aa (pv 2) Ab)))) Ab)))))))))))),?_⟩
 symm;refine Mm (fun e=>?_) (fun e0=>?_)
 ·obtain rfl:i=0:=⋯
  symm;exists a.put sm b .an rfl rfl fun n1=>?_;exact⟨DY,fun t ht=>q t _ (Ar ht _) (.mk n1 a)⟩
 symm;refine Mm (fun e=>?_) (fun e1=>?_)
 ·obtain rfl:i=1:=⋯
  symm;exists b.put sm a .or rfl rfl fun n1=>?_;exact⟨DY,fun t ht=>q t _ (Ar ht _) (.mk a n1)⟩
 symm;refine Mm (fun e=>?_) (fun e2=>?_)
 ·obtain rfl:i=2:=⋯
  symm;exists a.put sm b .up rfl rfl fun n1=>?_;exact⟨DY,fun t ht=>q t _ (Ar ht _) (.mk n1 a)⟩
 symm;refine Mm (fun e=>?_) (fun e3=>?_)
 ·obtain rfl:i=3:=⋯
  symm;exists a.put sm b .un rfl rfl fun n1=>?_;exact⟨DY,fun t ht=>q t _ (Ar ht _) (.mk n1 a)⟩
 symm;refine Mm (fun e=>?_) (fun e4=>?_)
 ·obtain rfl:i=4:=⋯
  symm;exists a.put sm b .ne rfl rfl fun n1=>?_;exact⟨DY,fun t ht=>q t _ (Ar ht _) (.mk n1 a)⟩
 symm;refine Mm (fun e=>?_) (fun e5=>?_)
 ·obtain rfl:i=5:=⋯
  symm;refine⟨_,rfl,CZ sk,?_⟩;refine((Lg.s "(").ap (.n sk)).go fun y Y=>?_;symm;exists(Y.aps " of ").go fun y Y=>?_;exists(Y.ap (.w A.tx a.fit)).go fun y Y=>?_;exists(Y.aps " from ").go fun y Y=>?_;exists(Y.ap (.w B.tx b.fit)).go fun y Y=>?_;refine(Y.aps ")").go fun y Y=>?_;rw[Y.eq (PT.tx_nt k A B).symm];have n1:=a.nt sm b sk k0;symm;exact⟨DY,fun t ht=>q t _ (Ar ht _) (.mk n1 a)⟩
 symm;refine Mm (fun e=>?_) (fun e6=>?_)
 ·obtain rfl:i=6:=⋯
  symm;exists a.put sm b .ti rfl rfl fun n1=>?_;exact⟨DY,fun t ht=>q t _ (Ar ht _) (.mk a n1)⟩
 symm;obtain rfl:i=7:=⋯;symm;exists a.put sm b .bu rfl rfl fun n1=>?_;exists b.put sm a .ul rfl rfl fun n2=>?_;exact⟨DY,fun t ht=>q t _ (Ar ht _) (.mk n1 n2)⟩
theorem aR:C0 2 "_law_long" ["_law_script"] (uG K):=by
 refine co' ["_law_script","_law_size","_law_some","_law_one","_law_other"] bc fun nd H vs Q E hr h=>?_;obtain⟨l,ns,g,rfl,sm,hS,h63,q⟩:=h;refine⟨_,(Ac (Aj 1 (Af Bm Ae (Af Be (Ag CJ (Aa (pv 0) (Aa Ae Ab))) Ae)))
  (Ac (K9 (i:=2) nd rfl (by walk_at"o") rfl (Dq ["_law_script","_law_size","_law_some","_law_one","_law_other"] ["_law_script","_law_size","_law_some","_law_one","_law_other"] rfl rfl (by with_unfolding_all rfl) ∅ rfl ∅ rfl ∅ (by walk_at"fm") (by with_unfolding_all rfl) (by with_unfolding_all rfl)) (Nz rfl G9 (Aa Ae (Aa Ae Ab))) (fun _ _ _ _=>Ds) (fun _ _ _ _=>(Af Be (Ag CJ (Aa (pv 1) (Aa (pv 0) Ab))) (Af LK Ae Ae))))
  (Ac (Aj 3 (Af Av (Af Av (Af Av Ah (BP BL rfl Cv qh (Aa (pv 1) Ab))) Ah) (BP BL rfl Cv qh (Aa (pxL 2) Ab))))
  (Ac (Aj 4 (Af Av (Af Av (Af Av Ah (BP BL rfl Cv qh (Aa (Af Bm (pv 1) Ae) Ab))) Ah) (BP BL rfl Cv qh (Aa (pxL 2) Ab))))
  (Ac (Do (Ax (Ai BW (Af Be (pxL 2) Ae) Ae (An _))
   (Ad (Aj 3 (Ag By (Aa (pv 3) (Aa Ah (Aa (Af Av (Af Av (Af Av Ah (BP BL rfl Cv qh (Aa (pv 1) Ab))) Ah) (BP BL rfl Cv qh (Aa (pxL 2) Ab))) Ab))))))
   Ao))
  (Ac (Do (Ax (Ai BW (Af Be (pxL 2) Ae) Ae (An _))
   (Ad (Aj 4 (Ag By (Aa (Af Av (Af Av (Af Av Ah (BP BL rfl Cv qh (Aa (Af Bm (pv 1) Ae) Ab))) Ah) (BP BL rfl Cv qh (Aa (pxL 2) Ab))) (Aa Ah (Aa (pv 4) Ab))))))
   Ao))
  (Ad (Al (BJ (Aa (pv 3) (Aa (pv 4) Ab))))))))))),?_⟩
 symm;exists Fj (Qw ?_);refine⟨6,10,rfl,⟨nofun,nofun,nofun,nofun⟩,?_⟩;refine IK RG (by rw[jp,vc,sizeLine_eq];decide) (fun D i ys H8=>H8 D=some (.lst ys)/\Az H H8/\ys=(List.range i).map fun(t:Nat)=>V.int (lgR ns (6+(t:Int)))) (fun D hD=>⟨Am,Ar hD _,rfl⟩)
  (fun D i ys H8 _ ⟨h1,h2,h3⟩=>⟨h1,by rw[h3,jp,vc];exact qq _,trivial⟩) (fun D i v ys H8 hD hx ⟨h1,h2,h3⟩=>?_) (fun lk ys H8 hlk ⟨h1,h2,h3⟩=>?_)
 ·obtain⟨hi,rfl⟩:=ABR hx;have hS8:=h2.seq hS;exists Hn (Fe ?_);exists⟨l,ns,_,rfl,hS8,⋯,h63,?_⟩;rw[p30];refine⟨h1,Am,Fb hD h2,?_⟩;rw[jm4,vk,<-h3];rfl
 have h1:H8 lk=some (.lst [.int (lgR ns 6),.int (lgR ns 7),.int (lgR ns 8),.int (lgR ns 9)]):=by
  rw[h3] at h1;exact h1
 clear h3;have hS8:=h2.seq hS;have hn:=S9 ns;have z6:=Jp ns 6;have z7:=Jp ns 7;have z8:=Jp ns 8;have z9:=Jp ns 9;rw[show 388+ns.getD (3:Int).toNat 0%30=lgN ns from rfl];generalize lgN ns=n at*
 generalize lgR ns 6=r6 at*
 generalize lgR ns 7=r7 at*
 generalize lgR ns 8=r8 at*
 generalize lgR ns 9=r9 at*
 have sn:Sm n:=Kw ⋯ ⋯;have sn':Sm (n+1):=Kw ⋯ ⋯;have a6:NP g (.each n r6) n 1:=.ea ⋯ ⋯ z6.sm (vv _) ⋯ ⋯;have a8:NP g (.each n r8) n 1:=.ea ⋯ ⋯ z8.sm (vv _) ⋯ ⋯;have a7:NP g (.each (n+1) r7) (n+1) 1:=.ea ⋯ ⋯ z7.sm (vv _) ⋯ ⋯;have a9:NP g (.each (n+1) r9) (n+1) 1:=.ea ⋯ ⋯ z9.sm (vv _) ⋯ ⋯;symm;refine⟨_,rfl,CZ sn,?_⟩;exists((Lg.s "each ").ap (.n sn)).go fun y Y=>?_;exists(Y.aps " from ").go fun y Y=>?_;exists BR (SqL.of h1) Ez ?_;refine⟨_,rfl,CZ z6.sm,?_⟩;refine(Y.ap (.n z6.sm)).go fun y Y=>?_;rw[Y.eq (PT.tx_each n r6).symm];symm;refine⟨_,rfl,CZ sn',?_⟩;exists((Lg.s "each ").ap (.n sn')).go fun y Y=>?_;exists(Y.aps " from ").go fun y Y=>?_;exists BR (SqL.of h1) Hf ?_;refine⟨_,rfl,CZ z7.sm,?_⟩;refine(Y.ap (.n z7.sm)).go fun y Y=>?_;rw[Y.eq (PT.tx_each (n+1) r7).symm];symm;refine DG (fun Z' H'=>H'=H8/\Z'=[some (.ref l),some (.int n),some (.ref lk),some (.str (sW (lgA n r6 r8).tx)),some (.str (sW (PT.each (n+1) r7).tx))]) ?_ ?_
 ·symm;exists BR (SqL.of h1) Ez ?_;refine Cd (fun c=>?_) (fun c=>?_)
  ·symm;refine⟨_,rfl,CZ sn,?_⟩;exists((Lg.s "each ").ap (.n sn)).go fun y Y=>?_;exists(Y.aps " from ").go fun y Y=>?_;exists BR (SqL.of h1) Ur ?_;refine⟨_,rfl,CZ z8.sm,?_⟩;refine(Y.ap (.n z8.sm)).go fun y Y=>?_;rw[Y.eq (PT.tx_each n r8).symm];symm;exists a6.put sm a8 .or rfl rfl fun n1=>?_;exact⟨rfl,by rw[show lgA n r6 r8=_ from xy (V.int.inj c)]⟩
  ·symm;exact⟨rfl,by rw[show lgA n r6 r8=_ from xp fun z=>c (yk V.int z)]⟩
 rintro Z' H8 ⟨rfl,rfl⟩;symm;refine DG (fun Z' H'=>H'=H8/\Z'=[some (.ref l),some (.int n),some (.ref lk),some (.str (sW (lgA n r6 r8).tx)),some (.str (sW (lgB (n+1) r7 r9).tx))]) ?_ ?_
 ·symm;exists BR (SqL.of h1) Hf ?_;refine Cd (fun c=>?_) (fun c=>?_)
  ·symm;refine⟨_,rfl,CZ sn',?_⟩;exists((Lg.s "each ").ap (.n sn')).go fun y Y=>?_;exists(Y.aps " from ").go fun y Y=>?_;exists BR (SqL.of h1) rO ?_;refine⟨_,rfl,CZ z9.sm,?_⟩;refine(Y.ap (.n z9.sm)).go fun y Y=>?_;rw[Y.eq (PT.tx_each (n+1) r9).symm];symm;exists a9.put sm a7 .or rfl rfl fun n1=>?_;exact⟨rfl,by rw[show lgB (n+1) r7 r9=_ from xy (V.int.inj c)]⟩
  ·symm;exact⟨rfl,by rw[show lgB (n+1) r7 r9=_ from xp fun z=>c (yk V.int z)]⟩
 rintro Z' H8 ⟨rfl,rfl⟩;symm;exact⟨DY,fun t ht=>q t _ (h2.trans (Ar ht _)) Am⟩
theorem Ua:C0 2 "_law_day" ["_law_script"] (zN K):=by
 refine co' ["_law_script","_law_day_here"] jM fun nd H vs Q E hr h=>?_;obtain⟨l,ns,rfl,hS,h63,q⟩:=h;refine⟨_,(Ac (Aj 1 (Af Dh (Af Be (Ag CJ (Aa (pv 0) (Aa Ae Ab))) (Af LK Ae Ae)) (Af LK Ae Ae))) (Ac (Do (Ax (Ai BW (Af Be (Ag CJ (Aa (pv 0) (Aa Ae Ab))) Ae) Ae (An _)) (Ad (Aj 1 (Af Dh (Af Be (Af Bg (pv 1) Ae) Ae) Ae))) Ao)) (Ad (Al (pv 1))))),?_⟩
 symm;rw[p40,p39];have y0:=qg (ns.getD (4:Int).toNat 0) (show (10000000000000000000000000000000000000000:Int)≠0 by decide);have y1:=jv (ns.getD (4:Int).toNat 0) (show (0:Int)<10000000000000000000000000000000000000000 by decide);refine DG (fun Z' H'=>H'=H/\∃d:Int,Zd d/\Z'=[some (.ref l),some (.int d)]) ?_ ?_
 ·symm;refine Cd (fun _=>?_) (fun _=>?_)
  ·symm;exact⟨rfl,_,by unfold Zd;lia,rfl⟩
  ·symm;exact⟨rfl,_,by unfold Zd;lia,rfl⟩
 rintro Z' H ⟨rfl,d,zd,rfl⟩;symm;exact q d zd
theorem Oo:C0 2 "_law_of_a_pair" ["_law_script","_law_day_here"] (yp K):=by
 refine co' ["_law_script","_law_day_here","_law_size","_law_some","_law_first","_law_second","_law_k"] QL fun nd H vs Q E hr h=>?_;obtain⟨l,ns,d,n,b,m,c,rfl,hS,h63,zd,L,q⟩:=h;refine⟨_,(Ac (Aj 2 (Af Bm Ae (Af Be (Ag CJ (Aa (pv 0) (Aa Ae Ab))) Ae)))
  (Ac (K9 (i:=3) nd rfl (by walk_at"o") rfl (Dq ["_law_script","_law_day_here","_law_size","_law_some","_law_first","_law_second",".."] ["_law_script","_law_day_here","_law_size","_law_some","_law_first","_law_second","_law_k"] rfl rfl (by with_unfolding_all rfl) ∅ rfl ∅ rfl ∅ (by walk_at"fm") (by with_unfolding_all rfl) (by with_unfolding_all rfl)) (Nz rfl G9 (Aa Ae (Aa Ae Ab))) (fun _ _ _ _=>Ds) (fun _ _ _ _=>(Af Be (Ag CJ (Aa (pv 1) (Aa (pv 0) Ab))) (Af LK Ae Ae))))
  (Ac (Aj 4 (pxL 3))
  (Ac (Aj 5 (pxL 3))
  (Ac (Do (Ax (PW.pt (Il (Ai BW (Af Be (pxL 3) Ae) Ae (An _)) (Ho (Ai BW (Af Be (Ag CJ (Aa (pv 0) (Aa Ae Ab))) Ae) Ae (An _)))))
   (Ad (Aj 4 (pxL 3)))
   Ao))
  (Ac (Do (Ax (PW.pt (Il (Ai BW (Af Be (pxL 3) Ae) Ae (An _)) (Ho (Ai BW (Af Be (Af Bg (Ag CJ (Aa (pv 0) (Aa Ae Ab))) Ae) Ae) Ae (An _)))))
   (Ad (Aj 5 (pxL 3)))
   Ao))
  (Ac (Hu PassesOwn.never rfl (Km rfl G9 (Aa (Af Bm (pv 2) Ae) Ab)) (CQ (i:=6) nd rfl (by walk_at"o"))
   (Ad (Ax (Ai BW (Af Be (Af Dh (Af Bm (pv 4) (Af Ca (pv 6) (pv 2))) (pv 5)) (Af Bm (pv 2) Ae)) Ae (An _))
   (Ad (Al (Af Bm (pv 1) (Af Be (Af Dh (Af Bm (pv 4) (Af Ca (pv 6) (pv 2))) (pv 1)) (Af Ca (pv 2) (Af Bm (pv 2) Ae))))))
   Ao)))
  (Ad (Al (pv 1)))))))))),?_⟩
 symm;exists Fj (Qw ?_);refine⟨6,10,rfl,⟨nofun,nofun,nofun,nofun⟩,?_⟩;refine IK RG (by rw[jp,vc,sizeLine_eq];decide) (fun D i ys H8=>H8 D=some (.lst ys)/\Az H H8/\ys=(List.range i).map fun(t:Nat)=>V.int (lgR ns (6+(t:Int)))) (fun D hD=>⟨Am,Ar hD _,rfl⟩)
  (fun D i ys H8 _ ⟨h1,h2,h3⟩=>⟨h1,by rw[h3,jp,vc];exact qq _,trivial⟩) (fun D i v ys H8 hD hx ⟨h1,h2,h3⟩=>?_) (fun lk ys H8 hlk ⟨h1,h2,h3⟩=>?_)
 ·obtain⟨hi,rfl⟩:=ABR hx;have hS8:=h2.seq hS;exists Hn (Fe ?_);exists⟨l,ns,_,rfl,hS8,⋯,h63,?_⟩;rw[p30];refine⟨h1,Am,Fb hD h2,?_⟩;rw[jm4,vk,<-h3];rfl
 have h1:H8 lk=some (.lst [.int (lgR ns 6),.int (lgR ns 7),.int (lgR ns 8),.int (lgR ns 9)]):=by
  rw[h3] at h1;exact h1
 clear h3;have hS8:=h2.seq hS;have hn:=S9 ns;have en:=L.en;have em:=L.em;have o1:=L.o1;have o2:=L.o2;have z6:=Jp ns 6;have z7:=Jp ns 7;have z8:=Jp ns 8;have z9:=Jp ns 9;clear L;rw[show 388+ns.getD (3:Int).toNat 0%30=lgN ns from rfl,<-en];rw[<-en] at hn em;generalize lgR ns 6=r6 at*
 generalize lgR ns 7=r7 at*
 generalize lgR ns 8=r8 at*
 generalize lgR ns 9=r9 at*
 symm;exists BR (SqL.of h1) Ez ?_;exists BR (SqL.of h1) Hf ?_;refine DG (fun Z' H'=>H'=H8/\∃f:Int,An3 (Z30 f) (∀d,(n:Int)∣d-f->On (n:Int) b d=true) (Z'=[some (.ref l),some (.int d),some (.int (n:Int)),some (.ref lk),some (.int f),some (.int r7),none])) ?_ ?_
 ·symm;exists BR (SqL.of h1) Ez ?_;refine Cd (fun c=>?_) (fun c=>?_)
  ·symm;refine Cd (fun _=>?_) (fun _=>?_)
   ·symm;exists BR (SqL.of h1) Ur ?_;exact⟨rfl,r8,z8,fun d h=>o1 d (.inr ⟨V.int.inj c,h⟩),rfl⟩
   ·symm;exact⟨rfl,r6,z6,fun d h=>o1 d (.inl h),rfl⟩
  ·symm;exact⟨rfl,r6,z6,fun d h=>o1 d (.inl h),rfl⟩
 rintro Z' H8 ⟨rfl,f,zf,of,rfl⟩;symm;refine DG (fun Z' H'=>H'=H8/\∃e:Int,An3 (Z30 e) (∀d,(m:Int)∣d-e->On (m:Int) c d=true) (Z'=[some (.ref l),some (.int d),some (.int (n:Int)),some (.ref lk),some (.int f),some (.int e),none])) ?_ ?_
 ·symm;exists BR (SqL.of h1) Hf ?_;refine Cd (fun c=>?_) (fun c=>?_)
  ·symm;refine Cd (fun _=>?_) (fun _=>?_)
   ·symm;exists BR (SqL.of h1) rO ?_;exact⟨rfl,r9,z9,fun d h=>o2 d (.inr ⟨V.int.inj c,h⟩),rfl⟩
   ·symm;exact⟨rfl,r7,z7,fun d h=>o2 d (.inl h),rfl⟩
  ·symm;exact⟨rfl,r7,z7,fun d h=>o2 d (.inl h),rfl⟩
 rintro Z' H8 ⟨rfl,e,ze,oe,rfl⟩;clear o1 o2 z6 z7 z8 z9 h1;symm;walk_at"f";symm;refine⟨_,rfl,⋯,⋯,V6 (fun i Z' H'=>An3 (H'=H8) (∀j:Nat,j<i->¬(m:Int)∣f+(j:Int)*(n:Int)-e) (∃v:Option V,Z'=[some (.ref l),some (.int d),some (.int (n:Int)),some (.ref lk),some (.int f),some (.int e),v])) ⟨rfl,(fun j hj=>absurd hj (Nat.not_lt_zero j)),_,rfl⟩ ?_ ?_⟩
 ·rintro i Z' H5 hi ⟨rfl,nf,v,rfl⟩;rw[jq1];symm;refine Dn ⟨64,64,by unfold Bt;lia,by unfold Bt;lia,nofun⟩ ?_;symm;refine Cd (fun cc=>?_) (fun cc=>?_)
  ·have dv:(m:Int)∣f+(i:Int)*(n:Int)-e:=by
    rw[em];exact ja7 (V.int.inj cc)
   obtain⟨v0,v1,v2⟩:=AAH (d:=d) (show 0<n by lia) em dv;symm;refine Dn ⟨64,64,by unfold Bt;lia,by unfold Bt;lia,nofun⟩ ?_;symm;refine Dn ⟨64,64,by unfold Bt;lia,by unfold Bt;lia,nofun⟩ ?_;exists Dn (Int.mul_pos ⋯ ⋯) ?_;exact q _ _ h2 v0 (of _ v1) (oe _ v2)
  ·symm;refine⟨rfl,fun j hj=>?_,_,rfl⟩;rcases Nat.lt_succ_iff_lt_or_eq.mp hj with z | rfl
   ·exact nf j z
   ·rw[em];exact fun z=>cc (yk V.int (vj z))
 rintro Z' H9 ⟨rfl,nf,v,rfl⟩;obtain⟨j,jm,dv⟩:=AAL (f:=f) (e:=e) em;exact absurd dv (nf j ⋯)
theorem YL:C0 135 "_law_early" ["_law_desk","_law_script"] (zL K ⟨DN,Bl,Bc,Aq,Ba,CL⟩):=by
 refine co' ["_law_desk","_law_script","_law_day_here","_law_found"] ZJ fun nd H vs Q E hr h=>?_;obtain⟨x,l,ns,n,b,m,c,rfl,hS,h63,A,cm,L,q⟩:=h;refine⟨_,(Ac (Aj 2 (Ag Ua (Aa (pv 1) Ab))) (Ac (Aj 3 (GQ uu jb4 jb5 JC (Ec G8 Dl (pv 0) (Aa (Af Av Ah (BP BL rfl Cv qh (Aa (pv 2) Ab))) Ab)) (Aa Ah Ab))) (Ad (Al (Sg (Ed BW (pxL 3) Ah (An _)) (SN (Ed J1 (BP Ff rfl Ld Xs (Aa (pxL 3) Ab)) (Ag Oo (Aa (pv 1) (Aa (pv 2) Ab))) (An _)))))))),?_⟩
 symm;refine⟨l,ns,rfl,hS,h63,fun d zd=>?_⟩;have sd:Sm d:=zd.sm ⋯ ⋯;obtain⟨dx,_,_,hx⟩:=A.r.at
 symm;exists JB ?_;exists⟨x,dx,_,rfl,hx,rfl,?_⟩;refine⟨_,rfl,CZ sd,?_⟩;refine((Lg.s "meet r s ").ap (.n sd)).go fun y Y=>?_;rw[show sg "meet r s "=sg (wW false)++sg " r s " by ac_rfl] at Y;symm;refine A.mt sd false cm (fun z=>nomatch z) Y (fun z H' s z0 z1 no=>?_) fun e H1 s1 ge lt on1 no=>?_
 ·obtain⟨v,p1,p2⟩:=L.day;exact absurd (by rw[Int.sub_self];exact Int.dvd_zero _) (no v v p1 (by rw[p2];rfl))
 have se:Sm e:=zd.sm ⋯ ⋯;obtain⟨k1,k2⟩:=qx "meet" se ∅ ∅;exists⟨rfl,?_⟩;refine⟨_,32,rfl,by rw[show Str.ofString " "=⟨#[32]⟩ from by ac_rfl],nofun,k1,fun lf hlf=>?_⟩;rw[show JP 32 (sW (sg (w1 false)++(sg " "++nW e)))=_ from k2];refine fresh hlf fun H2 s2 t2=>?_;have t2:H2 lf=some (.lst [.str "meet",.str (sW (nW e))]):=t2;have hS2:=(s1.trans s2).seq hS;symm;exists BR (SqL.of t2) Ez ?_;exists Gy rfl ?_;exists BR (SqL.of t2) Hf ?_;exists⟨_,_,rfl,(K1 se).1,(K1 se).2,?_⟩;exists⟨l,ns,d,n,b,m,c,rfl,hS2,h63,zd,L,fun v H3 s3 v0 v1 v2=>?_⟩;have le:e<=v:=Int.not_lt.mp fun z=>by
  have:=no v v0 z;unfold sk at this;rw[v1,v2] at this;cases this
 rw[decide_eq_true le];exact q _ ((s1.trans s2).trans s3)
theorem WX:C0 135 "_law_on" ["_law_desk","_law_name","_law_day_here"] (ABy K ⟨DN,Bl,Bc,Aq,Ba,CL⟩):=by
 refine co' ["_law_desk","_law_name","_law_day_here"] oA fun nd H vs Q E hr h=>?_;obtain⟨x,y,d,n,b,rfl,A,sd,q⟩:=h;obtain⟨⟨c,j,m,dk,jl,em⟩,hn,_,_⟩:=id A;obtain⟨dx,_,_,_,hx,_⟩:=id dk.ex;exists⟨_,(Ad (Al (Ed BW (Ec G8 Dl (pv 0) (Aa (Af Av (Af Av (Af Av Ah (pv 1)) Ah) (BP BL rfl Cv qh (Aa (pv 2) Ab))) Ab)) Ah (An _)))),?_⟩;exists⟨x,dx,_,rfl,hx,rfl,?_⟩;have Z:=(Lg.s "on ").ap ⟨rfl,hn.hi⟩;exists⟨_,_,rfl,rfl,Z.le,?_⟩;have Z:=Z.aps " ";exists⟨_,_,rfl,rfl,Z.le,?_⟩;refine⟨_,rfl,CZ sd,?_⟩;have Z:=Z.ap (.n sd);refine⟨_,_,rfl,rfl,Z.le,?_⟩;have e:=Z.eq (AEZ (cpl y) d).symm;clear Z;symm;exists⟨x,c,j,m,_,yk (fun z=>[V.ref x,V.str z]) e,fJ hn sd,dk,jl,n,b,em,fun H1 s1=>?_⟩;cases hb:On (n:Int) b d with
 | true=>
  rw[hb] at q;exact q _ s1
 | false=>
  rw[hb] at q;exact q _ s1
theorem KR:C0 136 "_law_left" ["_law_desk","_law_word","_law_day_here"] (uH K ⟨DN,Bl,Bc,Aq,Ba,CL⟩):=by
 refine co' ["_law_desk","_law_word","_law_day_here"] bh fun nd H vs Q E hr h=>?_;obtain⟨x,w,d,n,b,m,c,rfl,A,sd,q⟩:=h;refine⟨_,(Ac (Ax (G3 (El (Ag WX (Aa (pv 0) (Aa Ah (Aa (pv 2) Ab)))))) (Ad (Al Ky)) Ao) (Ad (Al (Ed BW (Ag WX (Aa (pv 0) (Aa Ah (Aa (pv 2) Ab)))) (Ed BW (pv 1) Ah (An _)) (An _))))),?_⟩
 symm;exists⟨x,_,d,n,b,rfl,A.r,sd,fun H1 s1=>?_⟩;cases e:On (n:Int) b d with
 | false=>
  exists Fe ?_;have:=q H1 s1;unfold sk at this
  rwa [e] at this
 | true=>
  exists Eg ?_;exists⟨x,_,d,m,c,rfl,(A.same s1).s,sd,fun H2 s2=>?_⟩;have:=q H2 (s1.trans s2);unfold sk at this;rw[e,Bool.true_and] at this;rw[show decide (V.bl (On (m:Int) c d)=V.bl (decide (V.str (Str.ofString (wW w))=V.str "meet")))=(On (m:Int) c d != w) by cases w<;>cases On (m:Int) c d<;>ac_rfl];exact this
theorem YQ:C0 135 "_law_alike" ["_law_desk","_law_day_here","_law_name","_law_size"] (nY K ⟨DN,Bl,Bc,Aq,Ba,CL⟩):=by
 refine co' ["_law_desk","_law_day_here","_law_name","_law_size","_law_here","_law_there"] ZL fun nd H vs Q E hr h=>?_;obtain⟨x,y,d,z,n,b,m,c,rfl,A,B,zd,z0,z1,q⟩:=h;have sd:Sm d:=zd.sm ⋯ ⋯;have n1:=A.n1;have m1:=B.n1;obtain⟨dx,_,_,hx⟩:=A.at
 refine⟨_,(Ac (Do (Aj 4 (Ec G8 Dl (pv 0) (Aa (Af Av Ah (BP BL rfl Cv qh (Aa (pv 1) Ab))) Ab)))) (Ac (Do (Aj 5 (Ec G8 Dl (pv 0) (Aa (Af Av (Af Av (Af Av Ah (pv 2)) Ah) (BP BL rfl Cv qh (Aa (pv 1) Ab))) Ab)))) (Ac (Ax (PW.pt (Hh (Ai BW (pv 4) Ah (An _)) (GK (Ai BW (pv 5) Ah (An _))))) (Ad (Al Ky)) Ao) (Ad (Al (Ed BW (Af Be (Af Dh (BP Ff rfl Ld Xs (Aa (pv 4) Ab)) (BP Ff rfl Ld Xs (Aa (pv 5) Ab))) (pv 3)) Ae (An _))))))),?_⟩
 symm;refine DG (fun Z' H'=>Az H H'/\∃o:Option Int,NxO (On (n:Int) b) d o/\Z'=[some (.ref x),some (.int d),some (.str y),some (.int z),some (.str (dTx o)),none]) ?_ ?_
 ·symm;exists⟨x,dx,_,rfl,hx,rfl,?_⟩;refine⟨_,rfl,CZ sd,?_⟩;refine((Lg.s "next r ").ap (.n sd)).go fun y1 Y=>?_;rw[show sg "next r "=sg "next "++sg "r"++sg " " by ac_rfl] at Y;symm;refine A.nx sd Y ⟨fun no H1 s1=>?_,fun r H1 s1 N=>?_⟩
  ·symm;exact⟨s1,none,no,rfl⟩
  ·have:=OJ (by have:=A.n0;lia) N;have:=N.1;symm;exact⟨s1,some r,⟨N,zd.sm ⋯ ⋯⟩,rfl⟩
 rintro Z' H1 ⟨s1,o,N,rfl⟩;have B1:=B.same s1;obtain⟨dx,_,_,hx⟩:=B1.at
 symm;refine DG (fun Z' H'=>Az H1 H'/\∃o':Option Int,NxO (On (m:Int) c) d o'/\Z'=[some (.ref x),some (.int d),some (.str y),some (.int z),some (.str (dTx o)),some (.str (dTx o'))]) ?_ ?_
 ·symm;exists⟨x,dx,_,rfl,hx,rfl,?_⟩;exists((Lg.s "next ").ap ⟨rfl,B.nm.hi⟩).go fun y1 Y=>?_;exists(Y.aps " ").go fun y1 Y=>?_;refine⟨_,rfl,CZ sd,?_⟩;exists(Y.ap (.n sd)).go fun y1 Y=>?_;refine B1.nx sd Y ⟨fun no H2 s2=>?_,fun r H2 s2 N=>?_⟩
  ·symm;exact⟨s2,none,no,rfl⟩
  ·have:=OJ (by have:=B.n0;lia) N;have:=N.1;symm;exact⟨s2,some r,⟨N,zd.sm ⋯ ⋯⟩,rfl⟩
 rintro Z' H2 ⟨s2,o',N',rfl⟩;have s02:=s1.trans s2;symm;cases o with
 | none=>
  exists Gy rfl (Fe ?_);exact q false _ s02 (fun z=>nomatch z)
 | some e=>
  exists CT (fun z=>gA N.2 (V.str.inj z)) ?_;cases o' with
  | none=>
   exists Gy rfl ?_;exact q false _ s02 (fun z=>nomatch z)
  | some f=>
   exists CT (fun z=>gA N'.2 (V.str.inj z)) ?_;exists⟨_,_,rfl,(K1 N.2).1,(K1 N.2).2,?_⟩;exists⟨_,_,rfl,(K1 N'.2).1,(K1 N'.2).2,?_⟩;exact q _ _ s02 fun z'=>⟨e,f,N.1.2.1,N'.1.2.1,ja7 (V.int.inj (jk8 z'))⟩
theorem aP:C0 137 "_law_told" ["_law_desk","_law_script","_law_word","_law_must"] (yg K ⟨DN,Bl,Bc,Aq,Ba,CL⟩):=by
 refine co' ["_law_desk","_law_script","_law_word","_law_must","_law_day_here","_law_far","_law_found","_law_at"] bW fun nd H vs Q E hr h=>?_;obtain⟨x,l,ns,w,u,n,b,m,c,co,rfl,hS,h63,A,T,cc,cm,cw,mu,q⟩:=h;refine⟨_,(Ac (Aj 4 (Ag Ua (Aa (pv 1) Ab)))
  (Ac (Aj 5 (Af Dh (Af Be (Ag CJ (Aa (pv 1) (Aa Ae Ab))) (Af LK Ae Ae)) (Af LK Ae Ae)))
  (Ac (Aj 6 (GQ uu jb4 jb5 JC (Ec G8 Dl (pv 0) (Aa (Af Av (Af Av (pv 2) Ah) (BP BL rfl Cv qh (Aa (pv 4) Ab))) Ab)) (Aa Ah Ab)))
  (Ac (Ax (Ai Gf (Bd Bs rfl Ep xz (Aa (pv 6) Ab)) Ae (An _))
   (Ad (Al Ky))
   Ao)
  (Ac (Aj 7 (BP Ff rfl Ld Xs (Aa (pxL 6) Ab)))
  (Ac (Ax (Ai BW (pxL 6) (Dr Ew (Du (Aa Ah (Aa Ah Ab))) (BP Og rfl Ld Xs (Aa (Ed BW (pv 2) Ah (An _)) Ab)) (fun _ _=>rfl)) (An _))
   (Ac (Ax (PW.pt (Hh (Ai FT (pv 7) Ae (An _)) (GK (El (Ag KR (Aa (pv 0) (Aa (pv 2) (Aa (pv 5) Ab))))))))
   (Ad (Al Ky))
   Ao)
  (Ad (Al (o8 (Ag YQ (Aa (pv 0) (Aa (pv 5) (Aa (Dr Ew (Du (Aa Ah (Aa Ah Ab))) (BP Og rfl Ld Xs (Aa (Ed BW (pv 2) Ah (An _)) Ab)) (fun _ _=>rfl)) (Aa (pv 7) Ab)))))))))
   Ao)
  (Ac (Ax (PW.pt (Hh (El (pv 3)) (GK (Ai Gf (pxL 6) (Dr Ew (Du (Aa Ah (Aa Ah Ab))) (BP Og rfl Ld Xs (Aa (Ed BW (pv 2) Ah (An _)) Ab)) (fun _ _=>rfl)) (An _)))))
   (Ad (Al Ky))
   Ao)
  (Ac (Ax (PW.pt (Hh (Ai FT (pv 7) (pv 4) (An _)) (GK (G3 (El (Ag KR (Aa (pv 0) (Aa (pv 2) (Aa (pv 7) Ab)))))))))
   (Ad (Al Ky))
   Ao)
  (Ad (Al (ACk (Ed BW (pv 7) (pv 4) (An _)) (SN (o8 (Ag KR (Aa (pv 0) (Aa (pv 2) (Aa (Af Bm (pv 4) (Af Be (pv 5) (Af Dh (pv 7) (pv 4)))) Ab))))))))))))))))),?_⟩
 symm;refine⟨l,ns,rfl,hS,h63,fun d zd=>?_⟩;have sd:Sm d:=zd.sm ⋯ ⋯;symm;rw[p40,p39];obtain⟨f,ef⟩:∃f,ns.getD (5:Int).toNat 0%10000000000000000000000000000000000000000-1000000000000000000000000000000000000000=f:=⟨_,rfl⟩;have zf:Zd f:=by
  unfold Zd;lia
 have sf:Sm f:=zf.sm ⋯ ⋯;rw[ef];clear ef;obtain⟨dx,_,_,hx⟩:=A.r.at
 symm;exists JB ?_;exists⟨x,dx,_,rfl,hx,rfl,?_⟩;refine((Lg.s (wW w) (by cases w<;>ac_rfl)).aps " r s ").go fun y Y=>?_;symm;refine⟨_,rfl,CZ sd,?_⟩;exists(Y.ap (.n sd)).go fun y Y=>?_;refine A.mt sd w cm cw Y (fun z H1 s1 z0 z1 no=>?_) fun e H1 s1 ge lt on1 no=>?_
 ·have sz:Sm z:=Kw ⋯ ⋯;obtain⟨k1,k2⟩:=qx (w0 w) sz (by cases w<;>ac_rfl) (by cases w<;>ac_rfl);exists⟨rfl,?_⟩;refine⟨_,32,rfl,by rw[show Str.ofString " "=⟨#[32]⟩ from by ac_rfl],nofun,k1,fun lf hlf=>?_⟩;rw[k2];refine fresh hlf fun H2 s2 t2=>?_;have t2:H2 lf=some (.lst [.str (Str.ofString (w0 w)),.str (sW (nW z))]):=t2;have s12:=s1.trans s2;have hS2:=s12.seq hS;symm;exists⟨lf,_,rfl,.inl (SqL.of t2),?_⟩;exists Gh rfl ?_;exists BR (SqL.of t2) Hf ?_;exists⟨_,_,rfl,(K1 sz).1,(K1 sz).2,?_⟩;exists BR (SqL.of t2) Ez ?_;refine⟨DY,fun lw hlw=>?_⟩;exists fresh hlw fun H3 s3 t3=>?_;refine .inr ⟨_,rfl,?_⟩;exists BR (SqL.of t3) (iC w) ?_;refine Gy (by cases w<;>rfl) ?_;have s13:=s12.trans s3;symm;exists CT ⋯ ?_;refine⟨x,w,f,n,b,m,c,rfl,A.same s13,sf,fun H4 s4=>?_⟩;have kf:sk w n b m c f=false:=by
   cases e:sk w n b m c f with
   | false=>rfl
   | true=>
    obtain⟨o1,o2⟩:=jl0.mp e;exact absurd (by rw[Int.sub_self];exact Int.dvd_zero _) (no f f o1 o2)
  rw[kf];have s14:=s13.trans s4;exists⟨_,rfl,Eg ?_⟩;refine⟨DY,fun lv hlv=>?_⟩;refine fresh hlv fun H5 s5 t5=>?_;have s15:=s14.trans s5;symm;refine .inr ⟨_,rfl,?_⟩;exists BR (SqL.of t5) (iC w) ?_;obtain⟨c',B,hc'⟩:∃c',Asks K ⟨DN,Bl,Bc,Aq,Ba,CL⟩ H5 x (cpl (if w then Str.ofString "t" else Str.ofString "s")) m c'/\∀f,On (m:Int) c' f=(On (m:Int) c f != w):=by
   cases w with
   | false=>exact⟨c,(A.same s15).s,fun f=>by cases On (m:Int) c f<;>rfl⟩
   | true=>exact⟨co,T.same s15,fun f=>by rw[cc];cases On (m:Int) c f<;>rfl⟩
  refine⟨x,_,f,z,n,b,m,c',rfl,(A.same s15).r,B,zf,z0,z1,fun v H6 s6 hv=>?_⟩;have v0:v=false:=by
   cases v with
   | false=>rfl
   | true=>
    obtain⟨e,g,h1,h2,h3⟩:=hv rfl;exact absurd h3 (no e g h1 (by rw[<-hc'];exact h2))
  rw[v0];symm;exact q _
 have se:Sm e:=zd.sm ⋯ ⋯;have u0:u=false:=by
  cases u with
  | false=>rfl
  | true=>
   rw[mu rfl] at on1;cases on1
 subst u0;obtain⟨k1,k2⟩:=qx (w1 w) se (by cases w<;>ac_rfl) (by cases w<;>ac_rfl);exists⟨rfl,?_⟩;refine⟨_,32,rfl,by rw[show Str.ofString " "=⟨#[32]⟩ from by ac_rfl],nofun,k1,fun lf hlf=>?_⟩;rw[k2];refine fresh hlf fun H2 s2 t2=>?_;have t2:H2 lf=some (.lst [.str (Str.ofString (w1 w)),.str (sW (nW e))]):=t2;have s12:=s1.trans s2;have hS2:=s12.seq hS;symm;exists⟨lf,_,rfl,.inl (SqL.of t2),?_⟩;exists Gh rfl ?_;exists BR (SqL.of t2) Hf ?_;exists⟨_,_,rfl,(K1 se).1,(K1 se).2,?_⟩;exists BR (SqL.of t2) Ez ?_;refine⟨DY,fun lw hlw=>?_⟩;exists fresh hlw fun H3 s3 t3=>?_;refine .inr ⟨_,rfl,?_⟩;exists BR (SqL.of t3) (iC w) ?_;refine CT (by cases w<;>ac_rfl) ?_;have s13:=s12.trans s3;have t23:=s3 _ _ t2;symm
 first | refine⟨_,rfl,Eg ?_⟩ | refine Eg ?_
 symm;exists BR (SqL.of t23) Ez ?_;refine⟨DY,fun lv hlv=>?_⟩;exists fresh hlv fun H4 s4 t4=>?_;refine .inr ⟨_,rfl,?_⟩;exists BR (SqL.of t4) (iC w) ?_;refine Gh (by cases w<;>rfl) ?_;have s14:=s13.trans s4;symm;exists CT ⋯ ?_;refine⟨x,w,e,n,b,m,c,rfl,A.same s14,se,fun H5 s5=>?_⟩;rw[on1];have s15:=s14.trans s5
 first | refine⟨_,rfl,Eg ?_⟩ | refine Eg ?_
 symm;refine Cd (fun _=>?_) (fun ne=>?_)
 ·symm;exact q _
 symm;have ne:d<e:=Int.lt_iff_le_and_ne.mpr ⟨ge,fun z=>ne (yk V.int z.symm)⟩;have f0:=qg f (show e-d≠0 by lia);have f1:=jv f (show 0<e-d by lia);exists Dn (show 0<e-d by lia) ?_;refine⟨x,w,_,n,b,m,c,rfl,A.same s15,zd.sm ⋯ ⋯,fun H6 s6=>?_⟩;rw[no _ ⋯ ⋯];symm;exact q _
theorem zR:Cy ["_law_script","_law_words","_law_days","_law_cells","_law_a","_law_size","_law_b","_law_more","_law_way","_law_number","_law_word","_law_one","_law_other","_law_must","_law_desk","_law_row"] ["_law_script"] (BX fH):=by walk_at"s"
theorem AAT(F:Fun K "law" "law" fH f fd):F0 138 f fd ["_law_script"] (fD K):=by
 refine F.ok (k:=137) zR (fun h=>?_) fun nd H vs Q E hr h=>?_
 ·obtain⟨a,ns,rfl,_⟩:=h;rfl
 obtain⟨a,ns,rfl,hS,h63,hB,q⟩:=h;refine⟨_,(Ac (Im (Ag Qj (Aa (pv 0) Ab)) (JR rfl (Cp (CQ (i:=1) nd rfl (by walk_at"o")) (Cp (CQ (i:=2) nd rfl (by walk_at"o")) HF))))
  (Ac (K9 (i:=3) nd rfl (by walk_at"o") rfl (Dq ["_law_script","_law_words","_law_days","_law_cells","_law_a","_law_size","_law_b","_law_more","_law_way","_law_number","_law_word","_law_one","_law_other","_law_must","_law_desk","_law_row"] ["_law_script","_law_words","_law_days","_law_cells","_law_a","_law_size","_law_b","_law_more","_law_way","_law_number","_law_word","_law_one","_law_other","_law_must","_law_desk","_law_row"] rfl rfl (by with_unfolding_all rfl) ∅ rfl ∅ rfl ∅ (by walk_at"fm") (by with_unfolding_all rfl) (by with_unfolding_all rfl)) (Nz rfl G9 (Aa Ae (Aa Ae Ab))) (fun _ _ _ _=>Ds) (fun _ _ _ _=>(Ag CJ (Aa (pv 1) (Aa (pv 0) Ab)))))
  (Ac (Im (Ag Pj (Aa (Cz Fi (pv 3) Eb (Dp Ae)) (Aa (pv 2) Ab))) (JR rfl (Cp (CQ (i:=4) nd rfl (by walk_at"o")) (Cp (CQ (i:=5) nd rfl (by walk_at"o")) HF))))
  (Ac (Im (Ag Pj (Aa (Cz Fi (pv 3) (Dp Ae) Eb) (Aa (pv 2) Ab))) (JR rfl (Cp (CQ (i:=6) nd rfl (by walk_at"o")) (Cp (CQ (i:=7) nd rfl (by walk_at"o")) HF))))
  (Ac (Do (Ax (Ai GD (Ag HJ (Aa (Ag HJ (Aa (pv 5) (Aa (pv 7) Ab))) (Aa Ae Ab))) Ae (An _))
   (Ad (Aj 6 (Af Av (Af Av Ah (pv 4)) Ah)))
   Ao))
  (Ac (Aj 8 (Ag CJ (Aa (pv 0) (Aa Ae Ab))))
  (Ac (Aj 9 (Dr Ew (Du (Aa (HQ Ft Ae) (Aa (HQ Ft Ae) (Aa Ae (Aa Ae Ab))))) (Af Be (Af Bg (pv 8) Ae) Ae) (fun _ _=>rfl)))
  (Ac (Aj 10 (Dr Ew (Du (Aa Ah (Aa Ah Ab))) (Af Be (Af Bg (pv 8) Ae) Ae) (fun _ _=>rfl)))
  (Ac (Im (Dr Ew (Du (Aa (BJ (Aa (pv 4) (Aa (pv 6) Ab))) (Aa (Ag aR (Aa (pv 0) Ab)) Ab))) (Af Be (Af Bg (pv 8) Ae) Ae) (fun _ _=>rfl)) (JR rfl (Cp (CQ (i:=11) nd rfl (by walk_at"o")) (Cp (CQ (i:=12) nd rfl (by walk_at"o")) HF))))
  (Ac (Aj 13 (Ed BW (Af Be (Af Bg (pv 8) Ae) Ae) Ae (An _)))
  (Ac (Do (Ax (PW.pt (Il (El (pv 13)) (Ho (Ai BW (pv 10) Ah (An _)))))
   (Ad (Im (Ag YM (Aa (Af Be (pv 8) Ae) (Aa (pv 9) (Aa (pv 4) (Aa (pv 6) Ab))))) (JR rfl (Cp (CQ (i:=11) nd rfl (by walk_at"o")) (Cp (CQ (i:=12) nd rfl (by walk_at"o")) HF)))))
   (Ad (Do (Ax (El (pv 13))
   (Ad (Im (Ag YK (Aa (Af Be (pv 8) Ae) (Aa (pv 9) (Aa (pv 4) (Aa (pv 6) Ab))))) (JR rfl (Cp (CQ (i:=11) nd rfl (by walk_at"o")) (Cp (CQ (i:=12) nd rfl (by walk_at"o")) HF)))))
   (Ad (Do (Ax (Ai BW (Af Be (Af Bg (pv 8) Ae) Ae) Ae (An _))
   (Ad (Aj 10 Ah))
   Ao))))))))
  (Ac (Aj 14 (cJ Qp (hr.mono nofun) rfl))
  (Ac (Hu PassesOwn.never rfl (Gu (Du (Aa (Af Av Ah (pv 1)) (Aa (Af Av Ah (pv 11)) (Aa (Af Av Ah (pv 12)) (Aa (Af Av (Af Av Ah (pv 12)) Ah) Ab)))))) (CQ (i:=15) nd rfl (by walk_at"o"))
   (Ad (Ax (Ai Gf (Ec G8 Dl (pv 14) (Aa (pv 15) Ab)) Ah (An _))
   (Ad (Al Ky))
   Ao)))
  (Ac (Ax (PW.pt (Il (G3 (El (pv 13))) (Il (Ai BW (Af Be (Af Bg (pv 8) Ae) Ae) Ae (An _)) (Ho (G3 (El (Ag YL (Aa (pv 14) (Aa (pv 0) Ab)))))))))
   (Ad (Al Ky))
   Ao)
  (Ad (Al (Ag aP (Aa (pv 14) (Aa (pv 0) (Aa (pv 10) (Aa (pv 13) Ab))))))))))))))))))))),?_⟩
 symm;refine⟨a,ns,rfl,hS,h63,fun g pc H1 s1 C=>?_⟩;have og:=C.1;obtain⟨sm,dv,d1,d64⟩:=id og.cy;refine Ih (SqT.of C.2.2) rfl ?_;have hS1:=s1.seq hS;clear C;symm;exists Fj (Qw ?_);refine⟨6,10,rfl,⟨nofun,nofun,nofun,nofun⟩,?_⟩;refine IK RG (by rw[jp,vc,sizeLine_eq];decide) (fun D i ys H8=>H8 D=some (.lst ys)/\Az H1 H8/\ys=(List.range i).map fun(t:Nat)=>V.int (ns.getD (6+(t:Int)).toNat 0)) (fun D hD=>⟨Am,Ar hD _,rfl⟩)
  (fun D i ys H8 _ ⟨h1,h2,h3⟩=>⟨h1,by rw[h3,jp,vc];exact qq _,trivial⟩) (fun D i v ys H8 hD hx ⟨h1,h2,h3⟩=>?_) (fun lk ys H8 hlk ⟨h1,h2,h3⟩=>?_)
 ·obtain⟨hi,rfl⟩:=ABR hx;have hS8:=h2.seq hS1;exists Hn (Fe ?_);exists⟨a,ns,_,rfl,hS8,⋯,h63,?_⟩;refine⟨h1,Am,Fb hD h2,?_⟩;rw[jm4,vk,<-h3];rfl
 obtain⟨c0,c1,c2,c3,rfl⟩:∃c0 c1 c2 c3:Int,ys=[.int c0,.int c1,.int c2,.int c3]:=⟨_,_,_,_,h3⟩;clear h3;have hS8:=h2.seq hS1;symm;refine Gr (SqL.of h1) fun u hu=>?_;refine fresh hu fun H2 s2 t2=>?_;have t2:H2 u=some (.lst [.int c0,.int c1]):=t2;symm;refine⟨u,c0,c1,g,rfl,SqL.of t2,og,fun pa A zA H3 s3 N=>?_⟩;refine Ih (SqT.of N.1) rfl ?_;obtain⟨_,NA,lA⟩:=N;clear t2;have h1:=(s2.trans s3) _ _ h1;symm;refine Gr (SqL.of h1) fun u hu=>?_;refine fresh hu fun H4 s4 t4=>?_;have t4:H4 u=some (.lst [.int c2,.int c3]):=t4;symm;refine⟨u,c2,c3,g,rfl,SqL.of t4,og,fun pb B zB H5 s5 N=>?_⟩;refine Ih (SqT.of N.1) rfl ?_;obtain⟨_,NB,lB⟩:=N;clear t4 h1;have hS5:=((s2.trans s3).trans (s4.trans s5)).seq hS8;clear hS8 hS1;generalize some (V.int (dyC g))=v2;generalize some (V.ref lk)=v3;symm;refine DG (fun Z' H'=>H'=H5/\Ex2 fun(B:PT) (z:Int)=>An4 (NP g A z 4) (NP g B z 4) (2∣z) (Z'=[some (.ref a),some (.str (sW (Ib g))),v2,v3,some (.str (sW A.tx)),some (.int zA),some (.str (sW B.tx)),some (.int zB),none,none,none,none,none,none,none,none])) ?_ ?_
 ·have a0:=NA.z0;have b0:=NB.z0;have f1:=BV (show 0<zA by lia) (show 0<zB by lia);have m1:=Xx (show 0<zA by lia) (show 0<zB by lia);have m2:zA*zB<=120*120:=vt lA lB ⋯ nofun;have f2:=BV f1.1 (show (0:Int)<2 by decide);symm;exists⟨zA,zB,rfl,⋯,⋯,⋯,⋯,?_⟩;exists⟨_,2,rfl,f1.1,⋯,nofun,nofun,?_⟩;refine Cd (fun c=>?_) (fun c=>?_)
  ·have f3:=BV (show 0<zA by lia) (show (0:Int)<2 by decide);have m3:=Xx (show 0<zA by lia) (show (0:Int)<2 by decide);symm;refine((Lg.s "(1 later ").ap (.w A.tx NA.fit)).go fun y Y=>?_;symm;refine(Y.aps ")").go fun y Y=>?_;rw[Y.eq (yQ A)];symm;have NU:=(NA.le (i:=3)).up f3.2.1 f3.1 ⋯;exact⟨rfl,_,_,NU.le,NU.la (sm1 nofun nofun),f3.2.2.1,rfl⟩
  ·have lc:=Int.not_lt.mp c;symm;exact⟨rfl,B,_,NA.le.up (ja2 f1.2.1 f2.2.1) f2.1 ⋯,NB.le.up (ja2 f1.2.2.1 f2.2.1) f2.1 ⋯,f2.2.2.1,rfl⟩
 clear NB NA lA lB;rintro Z' H5 ⟨rfl,B,z,NA,NB,z2,rfl⟩;generalize some (V.int zA)=v5;generalize some (V.int zB)=v7;symm;generalize ns.getD (0:Int).toNat 0=c;refine⟨(by show 4<=sizeLine;decide),fun l4 hl4=>?_⟩;refine fresh hl4 fun H6 s6 t6=>?_;obtain⟨k,sk1,k0,ek⟩:=yI (c/8);symm;refine BR (SqL.of t6) ek ?_;clear ek t6;symm;refine⟨DY,fun l5 hl5=>?_⟩;refine fresh hl5 fun H7 s7 t7=>?_;obtain⟨w,_,ew⟩:=yH (a:=V.str "meet") (b:=V.str "within") (c/32);symm;refine BR (SqL.of t7) ew ?_;rw[show (if w then V.str "within" else V.str "meet")=V.str (Str.ofString (wW w)) by cases w<;>rfl];clear ew t7;symm;refine⟨DY,fun p0 hp0=>?_⟩;refine fresh hp0 fun H8 s8 t8=>?_;have s68:=(s6.trans s7).trans s8;have hS8:=s68.seq hS5;symm;exists⟨a,ns,g,rfl,sm,hS8,h63,fun p1 H9 s9 t9=>?_⟩;refine⟨DY,fun l6 hl6=>?_⟩;refine fresh hl6 fun H10 s10 t10=>?_;obtain⟨o,ho,eo⟩:=yH (a:=V.ref p0) (b:=V.ref p1) (c/64);have hSa:=(s9.trans s10).seq hS8;symm;refine BR (SqL.of t10) eo ?_;clear eo;have t80:=s10 _ _ (s9 _ _ t8);have t90:=s10 _ _ t9;obtain⟨p,r,pp,tp⟩:∃p r:PT,(if o then (p=lgA (lgN ns) (lgR ns 6) (lgR ns 8)/\r=lgB (lgN ns+1) (lgR ns 7) (lgR ns 9)) else (p=A/\r=B))/\H10 (if o then p1 else p0)=some (.tup [.str (sW p.tx),.str (sW r.tx)]):=by
  cases o with
  | false=>exact⟨A,B,⟨rfl,rfl⟩,t80⟩
  | true=>exact⟨_,_,⟨rfl,rfl⟩,t90⟩
 rw[show (if o then V.ref p1 else V.ref p0)=V.ref (if o then p1 else p0) by cases o<;>rfl];refine Ih (SqT.of tp) rfl ?_;clear t10 t80 t90 tp t8 t9 hS5 hS8;symm;obtain⟨u,hu⟩:∃u,decide (V.int (c/128%2)=V.int 0)=u:=⟨_,rfl⟩;rw[hu];clear hu;have i0:=qg c (show (8:Int)≠0 by decide);have i1:=jv c (show (0:Int)<8 by decide);obtain⟨i,hi⟩:∃i:Nat,c%8=(i:Int):=⟨(c%8).toNat,⋯⟩;have i8:i<8:=⋯;have a0:=(NA.s1 sm).1;have b0:=(NB.s1 sm).1;refine DG (fun Z' H'=>Az H10 H'/\Ex3 fun(w:Bool) (p r:PT)=>Put g ns w u (!u&&o) p r/\Z'=[some (.ref a),some (.str (sW (Ib g))),v2,v3,some (.str (sW A.tx)),v5,some (.str (sW B.tx)),v7,some (.int c),some (.int k),some (.str (Str.ofString (wW w))),some (.str (sW p.tx)),some (.str (sW r.tx)),some (.bl u),none,none]) ?_ ?_
 ·cases u with
  | true=>
   symm;exists Fe ?_;cases w with
   | false=>
    exists Gy rfl ?_;rw[hi];refine⟨g,z,k,A,B,i,rfl,i8,sk1,k0,sm,NA,NB,z2,fun t H' s R=>?_⟩;exists Ih (SqT.of R.1) rfl ?_;exact⟨s,false,_,_,.ap sm a0 b0 i8 R,rfl⟩
   | true=>
    refine CT ∅ ?_;refine DG (fun Z' H'=>An3 (Az H10 H') (Z'=[some (.ref a),some (.str (sW (Ib g))),v2,v3,some (.str (sW A.tx)),v5,some (.str (sW B.tx)),v7,some (.int c),some (.int k),some (.str (Str.ofString (wW true))),some (.str (sW (Gv i k A B).1.tx)),some (.str (sW (Gv i k A B).2.tx)),some (.bl true),none,none]) (∃t,PrR H' t g z (Gv i k A B))) ?_ ?_
    ·symm;exists Fe ?_;rw[hi];refine⟨g,z,k,A,B,i,rfl,i8,sk1,k0,sm,NA,NB,z2,fun t H' s R=>?_⟩;exists Ih (SqT.of R.1) rfl ?_;exact⟨s,rfl,t,R⟩
    rintro Z' H' ⟨s,rfl,t,R⟩;exact⟨s,true,_,_,.inn sm a0 b0 i8 R,rfl⟩
  | false=>
   symm;refine Eg ?_;exists DG (fun Z' H'=>Az H10 H'/\Ex3 fun(w:Bool) (p r:PT)=>Put g ns w false o p r/\Z'=[some (.ref a),some (.str (sW (Ib g))),v2,v3,some (.str (sW A.tx)),v5,some (.str (sW B.tx)),v7,some (.int c),some (.int k),some (.str (Str.ofString (wW w))),some (.str (sW p.tx)),some (.str (sW r.tx)),some (.bl false),none,none]) ?_ fun _ _ h=>h;refine Eg ?_;exists DG (fun Z' H'=>Az H10 H'/\Ex3 fun(w:Bool) (p r:PT)=>Put g ns w false o p r/\Z'=[some (.ref a),some (.str (sW (Ib g))),v2,v3,some (.str (sW A.tx)),v5,some (.str (sW B.tx)),v7,some (.int c),some (.int k),some (.str (Str.ofString (wW w))),some (.str (sW p.tx)),some (.str (sW r.tx)),some (.bl false),none,none]) ?_ fun _ _ h=>h;rw[ho];cases o with
   | true=>
    rw[xy rfl] at pp;obtain⟨rfl,rfl⟩:=pp;exists Gy rfl ?_;exact⟨Az.refl _,false,_,_,.long sm,rfl⟩
   | false=>
    rw[xp zi] at pp;obtain⟨rfl,rfl⟩:=pp;exists CT nofun ?_;exact⟨Az.refl _,w,_,_,.of sm NA.le NB.le (fun z=>nomatch z),rfl⟩
 clear pp p r NA NB a0 b0 z2;rintro Z' Hb ⟨sb,w,p,r,P,rfl⟩;have hSb:=sb.seq hSa;generalize some (V.str (sW A.tx))=v4;generalize some (V.str (sW B.tx))=v6;generalize some (V.int k)=v9;have f1:=P.f1;have f2:=P.f2;have f3:=P.f3;symm;intro x dx fx fd' ne';refine⟨Hb,x,dx,rfl,fx,fd',ne',rfl,fun H9 h9 dk=>⟨rfl,?_⟩⟩;have hS9:=h9.seq hSb;symm;exists R0 (Lz ?_);exists((Lg.s "calendar c ").ap (.w (Ib g) og.tx.2.1)).go fun y1 Z1=>?_;exists((Lg.s "rule r ").ap (.w p.tx f1.tl)).go fun y2 Z2=>?_;exists((Lg.s "rule s ").ap (.w r.tx f2.tl)).go fun y3 Z3=>?_;refine((Lg.s "rule t (not ").ap (.w r.tx f2.tl)).go fun y4 Z4=>?_;symm;refine(Z4.aps ")").go fun y4 Z4=>?_;symm;rw[Z1.eq (AEb g).symm,Z2.eq (AEX p).symm,Z3.eq (AEW r).symm,Z4.eq (AEV r).symm];clear Z1 Z2 Z3 Z4;generalize some (V.str (sW (Ib g)))=v1;generalize some (V.str (sW p.tx))=v11;generalize some (V.str (sW r.tx))=v12;refine⟨(by show 4<=sizeLine;decide),fun ln hln=>?_⟩;refine fresh hln fun Hi si ti=>?_;have ti:Hi ln=some (.lst ((rwS g p r).map fun R=>V.str (sW R.T))):=ti;refine⟨ln,rfl,⟨_,SqL.of ti⟩,JF (xs:=(rwS g p r).map fun R=>V.str (sW R.T)) (fun i Z' H'=>An4 (Kd Hi H') (Dk K ⟨DN,Bl,Bc,Aq,Ba,CL⟩ H' x (cS g i) (i-1) (mS g p r i)) (rS g p r i) (∃v:Option V,Z'=[some (.ref a),v1,v2,v3,v4,v5,v6,v7,some (.int c),v9,some (.str (Str.ofString (wW w))),v11,v12,some (.bl u),some (.ref x),v])) ⟨Kd.of (Az.refl _),dk.same si,trivial,_,rfl⟩ ?_ ?_ ?_⟩
 ·rintro i Z' H' _ ⟨kd,_⟩;exact SqL.of (kd.lst ti)
 ·rintro i y Z' H' hv ⟨kd,dki,rs,v,rfl⟩;rw[xo] at hv;obtain⟨R,hR,rfl⟩:=kq.mp hv;have il:i<4:=(qv.mp hR).1;obtain⟨dxi,_,_,_,hxi,_⟩:=id dki.ex;symm;exists⟨x,dxi,_,rfl,hxi,rfl,?_⟩;exists⟨x,cS g i,i-1,mS g p r i,R,rfl,za og f1 f2 f3 hR,dki,⋯,uV og f1 f2 f3 hR rs fun H'' k'' d'' r''=>?_⟩;exists Gh rfl ?_;exact⟨kd.trans k'',d'',r'',_,rfl⟩
 rintro Z' Ha ⟨kd,dka,rs,v,rfl⟩;have dka:Dk K ⟨DN,Bl,Bc,Aq,Ba,CL⟩ Ha x (some g) 3 (mS g p r 4):=dka;have rs:p.rl g (p.bt g)/\r.rl g (r.bt g)/\(PT.no r).rl g ((PT.no r).bt g):=rs;have S:p.Su g:=⟨PT.sz_pos sm f1.ok,dka.lt (nm:=sg "r") rfl,rs.1⟩;have T:r.Su g:=⟨PT.sz_pos sm f2.ok,dka.lt (nm:=sg "s") rfl,rs.2.1⟩;have U:(PT.no r).Su g:=⟨T.n,dka.lt (nm:=sg "t") rfl,rs.2.2⟩;have n0:=S.n;have m0:=T.n;have n1:=P.n1;have m1:=P.m1;have hSc:SqL K Ha a (ns.map V.int):=SqL.kd kd (si.seq hS9);have e1:((p.sz g).toNat:Int)=p.sz g:=⋯;have e2:((r.sz g).toNat:Int)=r.sz g:=⋯;have Ak:Oz K ⟨DN,Bl,Bc,Aq,Ba,CL⟩ Ha x (p.sz g).toNat (p.bt g) (r.sz g).toNat (r.bt g):=⟨⟨_,_,_,dka,nofun,rfl,rfl⟩,⋯,⋯,⋯,⋯⟩;have At:Asks K ⟨DN,Bl,Bc,Aq,Ba,CL⟩ Ha x (sg "t") (r.sz g).toNat ((PT.no r).bt g):=⟨⟨_,_,_,dka,nofun,rfl⟩,ACp,⋯,⋯⟩;have cm:=P.mt S T;have cc:∀d,On ((r.sz g).toNat:Int) ((PT.no r).bt g) d=!On ((r.sz g).toNat:Int) (r.bt g) d:=fun d=>by
  rw[e2];exact PT.on_no U
 have cw:w=true->CWi (p.sz g).toNat (p.bt g) (r.sz g).toNat (r.bt g):=fun hw=>by
  unfold CWi;rw[e1,e2];cases h:(!u&&o) with
  | false=>exact jj7 (P.lc h) nofun
  | true=>
   rw[(P.lg h).1] at hw;cases hw
 have mu:u=true->∀d,sk w (p.sz g).toNat (p.bt g) (r.sz g).toNat (r.bt g) d=false:=fun h d=>by
  unfold sk;rw[e1,e2];exact P.no h S T d
 clear hSa hSb hS9 ti dka rs e1 e2;symm;cases u with
 | true=>
  first | refine Eg ?_ | refine Fe ?_
  symm;exact⟨x,a,ns,w,true,_,_,_,_,_,rfl,hSc,h63,Ak,At,cc,cm,cw,mu,fun H'=>q _⟩
 | false=>
  first | refine Fe ?_ | refine Eg ?_
  symm;rw[ho];cases o with
  | false=>
   exists CT nofun ?_;exact⟨x,a,ns,w,false,_,_,_,_,_,rfl,hSc,h63,Ak,At,cc,cm,cw,mu,fun H'=>q _⟩
  | true=>
   exists Gy rfl ?_;refine⟨x,a,ns,_,_,_,_,rfl,hSc,h63,Ak,cm,P.lgo S T,fun Hd sd=>?_⟩;exists⟨_,rfl,Eg ?_⟩;exact⟨x,a,ns,w,false,_,_,_,_,_,rfl,sd.seq hSc,h63,Ak.same sd,At.same sd,cc,cm,cw,mu,fun H'=>q _⟩
end
theorem ABT{w:World}{h:Heap}{mg:Str->Option Value}{fa:Addr}(X:(Hd.K w.params).In h)(G:h.Ns mainGlobals mg)(hfa:mg "law"=some (.ref fa))(Q:FnG (Hd.K w.params) "law" "law" "law" fH):
 ∃fd:FuncData,(∀(s:Shared) (v:Value),BindsTo s fd ⟨[v],[]⟩ [("_law_script",v)])/\∀base:Heap,(Hd.K w.params).In base->base.Ns mainGlobals mg->FN PySem.Challenge.rw_feastwheel_k94_whole_never_and_within.prog w (Hd.K w.params) mg base CX0 138 fa fd ["_law_script"] (fD (Hd.K w.params)):=by
 obtain⟨f,fd,a,F⟩:=Q;have e:=hfa.symm.trans (ji2 X G a);cases e;refine⟨fd,?_,fun base X2 G2=>?_⟩
 ·obtain⟨_,_,_,_,_,_,_,_,_,rfl,_,_⟩:=F.ex;exact fun s v=>.of_eq rfl
 exact Classical.byContradiction fun hn=>have z:=Classical.epsilon_spec (p:=fun d=>Gi d/\¬Ok d) ⟨⟨w,mg,base⟩,⟨X2,G2⟩,fun c=>hn (c F)⟩;z.2 fun F=>(haveI:Giv:=⟨z.1.X,z.1.G⟩;AAT F)
end Fw
open PySem PySem.W PyProof.Rows
set_option maxRecDepth 100000 in
set_option maxHeartbeats 0 in
theorem PySem.Challenge.cw_feastwheel_k94_whole_never_and_within_holds : PySem.Challenge.rw_feastwheel_k94_whole_never_and_within.Holds := by
 refine Hd.ws fun said=>Hd.op said ?_;delta Hd.hk;k_fill;refine L2.lX (l:=PySem.Challenge.rw_feastwheel_k94_whole_never_and_within) (k:=138) rfl rfl ⟨rfl,nofun,nofun,rfl⟩ (fun w h Y=>PySem.W.kIn_of Y) ?F
 case F=>
  intro w mg fa h KX G hmg;exact Fw.ABT KX G hmg (by refine' L2.qY ?_ ?_ ?_ ?_<;>first | k_is | skip)
#print axioms PySem.Challenge.cw_feastwheel_k94_whole_never_and_within_holds
