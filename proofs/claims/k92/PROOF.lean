import PyProof.Rows.All
import Wide.All
import KE.KNestM
import KE.RegKIsAll
import OpenK.KOwn
import OpenK.KLine
import Wide.FinOn
import Open.Tops
import Lean
import PyProof.EqAt
import PyProof.EqKinds
import PyProof.TupleCall
import KE.KEqDict
import KE.KDictOf
import KE.KItem
import KE.IntBitsLaws
import KE.KEqSeq
import KE.KIntText
import KE.IntTextLaws
import PySem.Challenge.RW_feastwheel_k92_whole_asked_of_texts
set_option Elab.async false
set_option linter.all false
set_option compiler.extract_closed false
set_option bootstrap.genMatcherCode false
set_option genSizeOf false
open Lean in
local macro_rules | `(command| #print $s:str) => do
  let mut xs := #[]
  for g in s.getString.splitOn ";" do
    let l := g.splitOn " "
    let mut n := 0
    for d in l.tail! do
      n := n + d.toNat!
      xs := xs.push (mkIdent (.mkSimple s!"tw{hash (Name.mkStr2 "sh" s!"{l.head!}_{n}")}"))
  return mkNullNode (← xs.mapM fun x => `(command| theorem $x:ident : True := ⟨⟩))
open Lean in
local macro_rules | `(tactic| walk_at $s:str) => do
  let k := s.getString
  unless k == "K" || k == "A" do Macro.throwUnsupported
  let mut r := #[]
  let mut e := 0
  let mut d : Int := 0
  for x in "3.1924 11.-1932 6.0.2 0.195 0.-195 2.4 6.0.3 2.4 6.0 1.0.2 1.0.5 2.4 6.0.3 2.4 6.0 1.0.2 1.0.5 2.4 6.0 1.0.2 1.0.5 2.4 6.0.3 2.4 6.0.3 2.4 6.0.3 2.4 6.0.3 2.4 6.0 1.0.2 1.0.5 2.4 6.0.3 2.0 2.0.3 1.0.2 1.0.3 2.0.3 1.0.2 1.0.2 7.3 1.0.2 1.0.3 1.0.2 1.0.3 1.0.2 1.0.2 15.0 1.0.2 1.0.3 1.0.2 1.0.3 1.0.2 1.0.3 1.0.2 1.0.2 14.3 1.0.2 1.0.3 1.0.2 1.0.3 2.0.3 1.0.2 1.0.3 1.0.2 1.0.3 1.0.2 1.0.3 1.0.2 1.0.2 21.3 1.0.2 1.0.3 1.0.2 1.0.3 1.0.2 1.0.3 1.0.2 1.0.3 1.0.2 1.0.3 1.0.2 1.0.3 1.0.2 1.0.2 7.0 1.0.2 1.0.3 1.0.2 1.0.3 1.0.2 1.0.3 1.0.2 1.0.2 0.3 1.0.2 1.0.3 1.0.2 1.0.3 1.0.2 1.0.3 1.0.2 1.0.3 2.0.3 1.0.2 1.0.3 2.0.3 2.0.3 1.0.2 1.0.2 7.3.2 1.0.2 1.0.3 2.0.3 1.0.2 1.0.3 1.0.2 1.0.3 1.0.2 1.0.7 9.3 1.0.2 1.0.3 1.0.2 1.0.4 0.189 0.-189.2 12.0 1.0.2 1.0.2 0.4 6.0.2 1.0.2 1.0.3 1.0.2 1.0.3 1.0.2 1.0.3 1.0.2 1.0.3 1.0.2 1.0.3 2.0.5 2.3 1.0.2 1.0.2 0.4 6.0 1.0.2 1.0.3 1.0.2 1.0.3 1.0.2 1.0.3 2.0.3 1.0.2 1.0.3 1.0.2 1.0.5 2.3 2.0.3 1.0.2 1.0.3 2.0.3 1.0.2 1.0.3 1.0.2 1.0.3 1.0.2 1.0.2 0.4 6.0 1.0.2 1.0.3 1.0.2 1.0.3 1.0.2 1.0.3 1.0.2 1.0.5 58.3 1.0.2 1.0.3 1.0.2 1.0.3 1.0.2 1.0.4 1.0.2 1.0.2 0.3 1.0.2 1.0.3 1.0.2 1.0.3 1.0.2 1.0.3 1.0.2 1.0.3 2.0.3 1.0.2 1.0.3 1.0.2 1.0.3 2.0.2 7.3.2 1.0.2 1.0.3 1.0.2 1.0.3 1.0.2 1.0.3 1.0.2 1.0.3 1.0.2 1.0.3 1.0.2 1.0.4 0.375 0.-375.2 2.4 6.0 1.0.2 1.0.5 2.4 6.0 1.0.2 1.0.5 2.0 1.0.2 1.0.2 0.4 6.0 1.0.2 1.0.5 2.0 1.0.2 1.0.3 1.0.2 1.0.2 0.4 6.0.2 1.0.2 1.0.5 2.4 6.0 1.0.2 1.0.5 2.4 6.0 1.0.2 1.0.5 2.4 6.0 1.0.2 1.0.5 2.4 6.0 1.0.2 1.0.5 2.4 6.0 1.0.2 1.0.5 2.4 6.0 1.0.2 1.0.5 2.4 6.0 1.0.2 1.0.5 2.4 6.0 1.0.2 1.0.5 2.4 6.0 1.0.2 1.0.5 2.4 6.0 1.0.2 1.0.5 2.4 6.0 1.0.2 1.0.5 2.4 6.0 1.0.2 1.0.5 2.0 7.3 1.0.2 1.0.3 1.0.2 1.0.3 1.0.2 1.0.7 2.0 1.0.2 1.0.3 1.0.2 1.0.3 1.0.2 1.0.2 0.3 1.0.2 1.0.3 1.0.2 1.0.3 1.0.2 1.0.3 1.0.2 1.0.3 1.0.2 1.0.3 1.0.2 1.0.3 1.0.2 1.0.3 1.0.2 1.0.3 1.0.2 1.0.3 1.0.2 1.0.3 1.0.2 1.0.3 1.0.2 1.0.2 19.6.18 1.0.2 1.0.2 1.0.2 0.5 1.0.2 1.0.3 1.0.2 1.0.3 1.0.2 1.0.3 1.0.2 1.0.3 1.0.2 1.0.3 1.0.2 1.0.3 1.0.2 1.0.3 1.0.2 1.0.3 1.0.2 1.0.3 1.0.2 1.0.2 7.0 1.0.2 1.0.3 1.0.2 1.0.2 0.3 1.0.2 1.0.3 1.0.2 1.0.3 1.0.2 1.0.4 1.0.2 1.0.3 1.0.2 1.0.2 0.5 1.0.2 1.0.3 2.0.3 1.0.2 1.0.2 7.0 1.0.2 1.0.3 2.0.7 2.0 1.0.2 1.0.2 0.3 1.0.2 1.0.3 1.0.2 1.0.3 2.0.3 1.0.2 1.0.3 1.0.2 1.0.3 1.0.2 1.0.3 1.0.2 1.0.3 1.0.2 1.0.3 1.0.2 1.0.3 2.0.3 1.0.2 1.0.3 2.0.2 0.3 1.0.2 1.0.3 1.0.2 1.0.3 1.0.2 1.0.2".splitOn " " do
    let y := (x.splitOn ".").map (·.toInt!)
    e := e + y[0]!.toNat
    d := d + y[1]!
    for _ in [0:(y.getD 2 1).toNat] do
      r := r.push (Syntax.mkNumLit (toString e), mkIdent (.mkSimple s!"o_{e + d}"))
      e := e + 1
  if k == "A" then `(tactic| exact [$(r.map (·.1)),*])
  else `(tactic| exact $(<- r.foldrM (fun p z => `((nat_lit $(p.1), $(p.2) $(mkIdent `P)) :: $z)) (<- `([]))))
namespace PySem.W.Fast
#print "tree 4 15 16 23 16 23 23 16 16 16 16 23 40 81 78 87 60 51 48 57 10 56 41 51 81 55 60 23 30 37 24 23 23 23 23 23 23 23 23 23 23 23 24 59 87 22 30 96 39 57 81 24;o 3 2 4 3 3 1 5 2 3 3 3 1 4 2 3 3 4 2 1 1 2 1 4 2 3 3 3 1 4 2 3 3 6 1 1 2 1 4 2 3 3 4 2 1 1 2 1 4 2 3 3 3 1 4 2 3 3 3 1 4 2 3 3 3 1 4 2 3 3 3 1 4 2 3 3 6 1 1 2 1 4 2 3 3 3 1 2 3 1 1 5 1 1 3 1 1 5 1 1 2 4 2 1 1 5 1 1 5 1 1 3 2 1 1 3 1 1 3 1 1 3 1 1 5 1 1 5 1 1 3 2 1 1 5 1 1 3 2 1 1 2 4 2 1 1 5 1 1 3 2 1 1 3 1 1 5 1 1 5 1 1 3 2 1 1 5 1 1 3 2 1 1 5 1 1 3 2 1 1 2 4 2 1 1 3 2 1 1 3 2 1 1 3 2 1 1 5 1 1 5 1 1 3 2 1 1 3 2 1 1 3 2 1 1 3 2 1 1 3 2 1 1 3 2 1 1 2 4 2 1 1 3 2 1 1 3 2 1 1 5 1 1 3 1 1 5 1 1 3 1 1 3 1 1 3 2 1 1 2 4 3 5 2 1 1 3 1 1 5 1 1 5 1 1 3 2 1 1 1 1 1 1 5 4 3 4 2 1 1 3 2 1 1 2 1 1 6 1 1 3 1 1 5 1 1 2 2 3 3 5 2 1 1 5 1 1 5 1 1 3 2 1 1 5 1 1 3 1 1 1 1 1 4 6 1 1 2 2 3 3 4 2 1 1 5 1 1 5 1 1 3 1 1 3 2 1 1 3 2 1 1 1 1 1 4 4 1 1 3 2 1 1 3 1 1 3 2 1 1 3 2 1 1 5 1 1 2 2 3 3 4 2 1 1 3 2 1 1 5 1 1 5 1 1 1 1 1 5 2 1 1 2 4 2 1 1 3 2 1 1 3 2 1 1 3 2 1 1 3 2 1 1 3 2 1 1 3 2 1 1 3 2 1 1 3 2 1 1 3 2 1 1 4 2 1 1 2 4 2 1 1 3 2 1 1 3 2 1 1 3 2 1 1 3 1 1 3 2 1 1 3 2 1 1 3 1 1 2 4 3 5 2 1 1 5 1 1 5 1 1 5 1 1 3 2 1 1 3 2 1 1 1 1 1 1 5 2 3 3 6 1 1 2 1 4 2 3 3 6 1 1 2 1 5 2 1 1 2 2 3 3 4 2 1 1 2 1 7 1 1 3 2 1 1 2 2 3 3 5 2 1 1 2 1 4 2 3 3 6 1 1 2 1 4 2 3 3 4 2 1 1 2 1 4 2 3 3 4 2 1 1 2 1 4 2 3 3 4 2 1 1 2 1 4 2 3 3 4 2 1 1 2 1 4 2 3 3 4 2 1 1 2 1 4 2 3 3 4 2 1 1 2 1 4 2 3 3 4 2 1 1 2 1 4 2 3 3 4 2 1 1 2 1 4 2 3 3 4 2 1 1 2 1 4 2 3 3 4 2 1 1 2 1 4 2 3 3 4 2 1 1 2 1 3 2 4 3 6 1 1 5 1 1 5 1 1 1 1 1 1 6 2 1 1 5 1 1 5 1 1 2 6 1 1 5 1 1 3 2 1 1 3 2 1 1 3 2 1 1 3 2 1 1 5 1 1 3 2 1 1 3 2 1 1 3 2 1 1 3 2 1 1 3 2 1 1 2 6 1 1 5 1 1 3 1 1 2 2 1 1 4 2 2 1 2 1 1 4 5 1 1 4 6 1 1 5 1 1 5 1 1 5 1 1 5 1 1 5 1 1 5 1 1 5 1 1 5 1 1 3 2 1 1 3 2 1 1 5 1 1 5 1 1 2 6 1 1 5 1 1 5 1 1 1 3 2 1 1 5 1 1 4 4 2 1 1 3 1 1 3 2 1 1 3 3 6 1 1 3 1 1 2 1 1 1 7 1 1 2 4 2 1 1 3 2 1 1 3 1 1 3 2 1 1 3 2 1 1 3 2 1 1 3 2 1 1 3 2 1 1 3 2 1 1 3 1 1 3 2 1 1 3 1 1 2 4 2 1 1 3 2 1 1 3 2 1 1;sts 4 33 23 16 23 87 23 40 81 78 87 60 51 48 57 10 56 41 51 81 55 60 23 30 37 24 23 23 23 23 23 23 23 23 23 23 23 24 59 87 22 32 94 41 55 81"
def tw8724128792029214140:PySem.Program:=PySem.Challenge.pw_feastwheel_k92_whole_asked_of_texts
theorem te8724128792029214140:PySem.Challenge.pw_feastwheel_k92_whole_asked_of_texts=tw8724128792029214140:=rfl
end PySem.W.Fast
open PySem PySem.W PyProof.Rows in
set_option maxRecDepth 100000 in
set_option maxHeartbeats 0 in
open_shared sh for PySem.Challenge.pw_feastwheel_k92_whole_asked_of_texts leaving 0
namespace Hd
open PySem PySem.W PySem.Calls PyProof.Rows sh
set_option maxRecDepth 100000
set_option maxHeartbeats 0
theorem ws(h:PySem.Challenge.rw_feastwheel_k92_whole_asked_of_texts.row.wellSaid=true->PySem.Challenge.rw_feastwheel_k92_whole_asked_of_texts.row.Holds):PySem.Challenge.rw_feastwheel_k92_whole_asked_of_texts.Holds:=by
  w_on; o_law; exact h (by assumption)
noncomputable abbrev pw:Program:=PySem.Challenge.pw_feastwheel_k92_whole_asked_of_texts
noncomputable def vw:Program:={pw with main:={pw.main with body:=pw.main.body.drop 209}}
noncomputable def lo:List Str:=(["FeastError","NoNumber","TooLong","NoMeasure","NoDate","InGap","NoChange","NoCycle","NoText","NoRule","NoName","NoRow","FIGURES","MOST_FIGURES","LETTERS","MOST_LETTERS","MOST_SIGNS","is_name","is_readable","is_number","read_number","read_place","read_date","place_text","date_text","MOST_ROWS","widest","names_on","almanac","refuse_below_one","divisor","equation","common","met","ahead","LONGEST","PIECE","refuse_too_long","round_by","days_in","on","on_rounds","full_bits","bits_by","stretched","primes_of","comes_again","least","common_size","both","either","unlike","without","other_days","later","folded","next_day","last_day","ones_in","days_ahead","how_many","place_of_one","nth_day","GREATEST_BASE","MOST_TERMS","GREATEST_N","term_on","signs_upto","is_term","least_length","refuse_measure","period_of","Measure","MOST_MONTHS","LONGEST_MONTH","Calendar","term_text","term_words","refuse_months","Sun","refuse_part","Moon","read_numbers","read_term","read_terms","read_sun","read_moon","read_calendar","Change","moved","MOST_PAIRS","first_parted","same","first_of_pairs","first_met","paper_of","meeting","within","refuse_wanted","days_of_month","days_of_year","dated","gathered","upon","until","till","nearer_ahead","near","kth","every","Rule","All","No","each_text","Each","wanted_text","dated_text","Dated","Not","Both","Either","But","Unlike","Later","Upon","Until","Near","Till","Kth","Every","MOST_BRACKETS","PAIR_WORDS","Reader","words_of","take_word","take_number","take_wanted","take_each","take_date","take_numbered","take_every","take_pair","take_within","take_plan","made_date","made_pair","made","read_rule","told_by_one","parts_in","shorter","FORMS","tell_date","tell_day","tell_move","tell_on","day_or_never","tell_next","tell_last","tell_nth","tell_count","tell_size","tell_same","paper_text","tell_meet","tell_within","tell_shorter","tell_show","tell_almanac","ANSWERS","words_of_row","kept_by","looked_up","named_rules","keep","Desk","_law_cell_at","_law_common","_law_moon","_law_calendar","_law_leaf","_law_two","_law_rule","_law_number","_law_count","_law_on","_law_date","_law_by_text","_law_days","_law_counted","_law_nth"]:List String).map Str.ofString
noncomputable def bd:List Stmt:=behindTheImports pw
noncomputable def cd:Code:=.body bd sh.env_1
noncomputable def S0(w:World)(os:OsState):Shared:=⟨boot_heap w.params,Array.mk [],boot_drawn,boot_toks,os⟩
noncomputable def tB(w:World)(os:OsState):SharedT:=⟨sh.tree_4 w.params,15,{},Array.mk [],{},187,os⟩
noncomputable def tK(w:World)(os:OsState):SharedT:=⟨sh.tree_1949 w.params,1774,{},Array.mk [],{},2694,os⟩
noncomputable abbrev hK(w:World)(os:OsState):Shared:=(tK w os).abs
noncomputable def xt(s:Shared):Bool:=xlAt vw [] s&&recOk (RowW.records PySem.Challenge.rw_feastwheel_k92_whole_asked_of_texts.row.toRowW) s
section
variable(w:World)(os:OsState)
theorem pre:topGo treeTable pw w 11 (some (.ref 6)) 12 (S0 w os) (topStub pw)=some ((tB w os).abs,⟨denote treeTable cd,cd,⟨0,0,0,0⟩,[topFrame ⟨0,0,0,0⟩]⟩):=by kernel_rfl
theorem block:segRun treeTable pw w 11 (some (.ref 6)) 1 1 (tB w os).abs (blockOf bd sh.env_1 cd ⟨0,0,0,0⟩ [topFrame ⟨0,0,0,0⟩])=some (.next,(tB w os).abs,cd,⟨0,0,0,0⟩):=by kernel_rfl
theorem fin:topRun treeTable pw w 11 (some (.ref 6)) 2 (tK w os).abs (restOf [] sh.env_1 cd ⟨1140,0,1166,63⟩ [topFrame ⟨0,0,0,0⟩])=some (tK w os).abs:=by kernel_rfl
theorem run:topRun treeTable pw w 11 (some (.ref 6)) 14482 (S0 w os) (topStub pw)=some (tK w os).abs:=go_top (n:=12) (N:=14470) (pre w os) (piece_block (n:=1) (N:=14469) (block w os) (sh.chain pw bd w os [] 2 _ (fin w os)))
theorem siz:((boot_heap w.params).isNs mainGlobals&&(Array.mk []:Array GenState).size==0,(boot_heap w.params).objs.size,(boot_heap w.params).nsMap mainGlobals "__annotations__")=(true,11,some (.ref 6)):=by kernel_rfl
theorem l1:namesBound pw (hK w os).heap=true:=by kernel_rfl
theorem l2:gensDone (hK w os)=true:=by kernel_rfl
theorem l3:laidKept (boot_heap w.params) (hK w os).heap=true:=by kernel_rfl
theorem l0:staticsOk (importedModules pw.main.body) (boot_heap w.params) (hK w os).heap=true:=by kernel_rfl
theorem s1:seen ((recsOf vw).map (·.name)) (ownsOf vw) [] {hK w os with gens:=#[]}=expectedOf vw:=by kernel_rfl
theorem s2:(hK w os).heap.bltView=bltViewBooted:=by kernel_rfl
theorem s3:(hK w os).heap.keysOk (looseW vw lo) ((recsOf vw).map (·.name)) ((litsOf vw).map (·.1)) ((clssOf vw (looseW vw lo)).map (·.name))=true:=by kernel_rfl
theorem s4:(hK w os).heap.accountedOkI (importedModules pw.main.body)=true:=by kernel_rfl
theorem s5:(hK w os).heap.isNs mainGlobals=true:=by kernel_rfl
theorem s6:(hK w os).heap.isNs builtinsNs=true:=by kernel_rfl
theorem s7:tablesOk vw (hK w os).heap=true:=by kernel_rfl
theorem s8:xt (hK w os)=true:=by kernel_rfl
theorem s9:tabsOk vw (hK w os)=true:=by kernel_rfl
theorem t1:pinSeenD vw (drecsOf vw) (hK w os)=pinGoodD (drecsOf vw):=by kernel_rfl
theorem t2:plainSeenE vw (looseW vw lo) (hK w os)=plainGoodE vw (looseW vw lo):=by kernel_rfl
theorem t3:plainSeenD vw lo (hK w os)=plainGoodD vw lo:=by kernel_rfl
theorem t4:wideSeen vw (hK w os)=wideGood vw:=by kernel_rfl
theorem t5:clsSeenW vw lo (hK w os)=clsGoodW vw lo:=by kernel_rfl
end
noncomputable def K(P:Params):Frag:=(nat_lit 2,boot_o_2 P)::(by walk_at"K")
noncomputable def as:List Addr:=2::(by walk_at"A")
theorem mapT{t:BT}{n:Nat}{l:Life}{as:List Addr}(h:(as.all fun a=>Nat.blt a n&&(t.get a).isSome)=true):as.map (absHeap t n l).get?=as.map fun a=>(t.get a).bind alive:=
  List.map_congr_left fun a ha=>by
    have e:=Bool.and_eq_true_iff.mp (List.all_eq_true.mp h a ha);obtain ⟨o,ho⟩:=Option.isSome_iff_exists.mp e.2;rw [abs_get (of_decide_eq_true (by simpa [Nat.blt_eq] using e.1)) ho,ho]; rfl
theorem hy(w:World)(os:OsState):as.map (hK w os).heap.get?=(K w.params).map fun p=>some p.2:=(mapT (t:=sh.tree_1949 w.params) (n:=1774) (l:={}) (by kernel_rfl)).trans (by kernel_rfl)
noncomputable def hk:Hook:=kHook K as (fun _=>by kernel_rfl)
theorem left:LeftO PySem.Challenge.rw_feastwheel_k92_whole_asked_of_texts.row.prog vw lo xt hk.obs hk.val 99999:=by
  refine LeftO.of_pieces (H₀:=boot_heap) (H₁:=fun P=>absHeap (sh.tree_1949 P) 1774 {}) (gs₀:=Array.mk []) (gs₁:=Array.mk []) (d₀:=boot_drawn) (d₁:={}) (k₀:=boot_toks) (k₁:=2694) (M:=14482) (boot_open (by kernel_rfl) (by kernel_rfl) fun s=>by kernel_rfl) siz run (by kernel_rfl) fun w=>funext fun os=>Prod.ext ?_ (Prod.ext ?_ (hy w os))
  · exact look_both (look_both (look_both (l0 w os) (l1 w os)) (l2 w os)) (l3 w os)
  · show openSeen vw lo (importedModules pw.main.body) xt true (hK w os)=openGood vw lo
    unfold openSeen openGood;rw [s1 w os,s2 w os,s3 w os,s4 w os,s5 w os,s6 w os,s7 w os,s8 w os,s9 w os,t1 w os,t2 w os,t3 w os,t4 w os,t5 w os];rfl
def op(said:PySem.Challenge.rw_feastwheel_k92_whole_asked_of_texts.row.wellSaid=true):=fun hc=>holds_open (q:=vw) (loose:=lo) (Xt:=xt) (XP:=XL vw []) (Yf:=hk.obs) (Ya:=hk.val) (YP:=hk.says) (N:=99999) left hk.of hk.keeps (fun s e=>xl_of s (Bool.and_eq_true_iff.mp e).1) XL.keeps (by rfl) (by rfl) (by rfl) (fun s e=>recFacts_of (Bool.and_eq_true_iff.mp e).2) (by rfl) said (by decide +kernel) ⟨rfl,rfl,rfl,rfl,rfl,by decide +kernel⟩ (by w_witness2) hc
end Hd
theorem zz(h:1=1:=by rfl):1=1:=h
local macro_rules | `(‹$T›)=>`(autoParam $T zz._auto_1)
local macro_rules | `(tactic| ac_rfl)=> `(tactic| decide +kernel)
local macro_rules | `(tactic| walk_at"o")=> `(tactic| first | exact Or.inl rfl | exact Or.inr rfl)
local macro_rules | `(tactic| walk_at"s")=> `(tactic| exact ⟨rfl,rfl,rfl,by ac_rfl,rfl,by ac_rfl,by ac_rfl⟩)
set_option maxRecDepth 100000
noncomputable abbrev Fr:=PySem.W.Frag
def js:=@List.length_map
def jv:=@List.mem_cons_self
def qc:=@PySem.wpAny_bind
def qf:=@PySem.Heap.get?_push_of_some
def qg:=@PyProof.Rows.boot_str
def qh:=@List.mem_cons_of_mem
def qk:=@Int.emod_lt_of_pos
def qm:=@List.length_cons
def qo:=@List.getElem?_eq_getElem
def qq:=@Nat.le_refl
def qr:=@List.length_append
def qv:=@List.mem_cons
def zh:=@Int.emod_nonneg
def zi:=@List.map_cons
def zk:=@Bool.false_ne_true
def zn:=@List.getElem?_eq_some_iff
def zo:=@List.getElem?_map
def zv:=@List.mem_of_getElem?
def zw:=@Nat.le_trans
def xa:=@PySem.Heap.get?_push_size
def xb:=@PySem.Heap.lt_size
def xc:=@List.size_toArray
def xh:=@Nat.lt_of_lt_of_le
def xi:=@Int.toNat_natCast
def xk:=@congrArg
def xo:=@PySem.boot_len
def xp:=@PySem.wpAny_pure
def xy:=@List.take_of_length_le
def xz:=@Option.map_eq_some_iff
def ya:=@if_pos
def yi:=@List.not_mem_nil
def yk:=@Nat.lt_of_le_of_lt
def yv:=@Option.some.inj
def yy:=@PySem.F.plainAttrs_str
def ua:=@if_neg
def ub:=@Int.mul_comm
def ui:=@Int.mul_le_mul_of_nonneg_right
def uj:=@List.append_nil
def uk:=@List.map_append
def uu:=@List.sum_cons
def va:=@List.drop_of_length_le
def vb:=@List.mem_singleton
def vc:=@Nat.pow_le_pow_right
def ve:=@Nat.shiftRight_eq_div_pow
def vi:=@List.mem_append_right
def vj:=@Nat.zero_le
def vk:=@List.take_add_one
def vt:=@Int.mul_le_mul
def vv:=@List.getD_eq_getElem?_getD
def vx:=@Nat.ne_of_lt
def ka:=@List.mem_map
def ke:=@List.append_assoc
def kg:=@PySem.W.mg_none_of
def ki:=@Nat.two_pow_pos
def ko:=@PyProof.Rows.callWith_type1
def kq:=@List.map_map
def ku:=@List.mem_append
def kx:=@Option.toList_some
def ky:=@Array.length_toList
def kz:=@Int.add_zero
def Jn:=@Int.le_of_lt
def Qb:=@Nat.eq_of_testBit_eq
def Qr:=@List.take_length
def Zl:=@List.length_range
def Zp:=@PyProof.Rows.boot_int
def Zs:=@PySem.F.plainAttrs_list
def Xs:=@List.drop_eq_getElem_cons
def ja0:=@Int.ediv_eq_zero_of_lt
def ja1:=@Bool.eq_iff_iff
def ja2:=@List.replicate_succ
def ja3:=@List.takeWhile_append_dropWhile
def ja4:=@PySem.wpAny_truthy_bool
def ja5:=@PySem.Heap.get?_update_other
def ja6:=@Nat.lt_of_succ_lt_succ
def ja7:=@PySem.F.slot_str_split
def ja8:=@PySem.F.type_str_split
def ja9:=@PySem.wpAny_mono
def jb0:=@Nat.testBit_and
def jb1:=@PySem.W.kia_one
def jb2:=@Bool.and_eq_true
def jb3:=@Int.mul_le_mul_of_nonneg_left
def jb4:=@List.all_eq_true
def jb5:=@List.length_drop
def jb6:=@Nat.le_add_right
def jb7:=@Nat.lt_of_not_le
def jb8:=@List.dropWhile_cons
def jb9:=@List.length_replicate
def jc0:=@beq_iff_eq
def jc1:=@Int.mul_one
def jc2:=@List.length_eq_zero_iff
def jc3:=@PySem.wpAny_Call_Name_kw
def jc4:=@Nat.testBit_shiftRight
def jc5:=@List.length_take_le
def jc6:=@PySem.F.slot_list_extend
def jc7:=@PySem.F.type_list_extend
def jc8:=@PySem.W.callWith_K
def jc9:=@Int.one_mul
def jd0:=@Nat.testBit_succ
def jd1:=@Int.dvd_trans
def jd2:=@Int.mul_assoc
def jd3:=@Int.mul_nonneg
def jd4:=@Nat.testBit_or
def jd5:=@PySem.wpAny_seqItems
def jd6:=@Int.mul_left_comm
def jd7:=@List.flatMap_cons
def jd8:=@List.flatten_cons
def jd9:=@Int.mul_add
def je0:=@Int.toNat_of_nonneg
def je1:=@Nat.one_pos
def je2:=@PySem.F.slot_int_bit_length
def je3:=@PySem.F.type_int_bit_length
def je4:=@PySem.wpAny_field
def je5:=@List.getElem?_append_right
def je6:=@Array.toList_inj
def je7:=@Int.ediv_le_self
def je8:=@Int.gcd_dvd_left
def je9:=@List.getElem_mem
def jf0:=@List.length_take
def jf1:=@Nat.zero_testBit
def jf2:=@PySem.Heap.get?_update_self
def jf3:=@Int.add_mul_ediv_left
def jf4:=@List.any_cons
def jf5:=@List.count_cons_of_ne
def jf6:=@Nat.lt_irrefl
def jf7:=@PySem.W.methodCall_KW
def jf8:=@PySem.wpAny_holding
def jf9:=@PySem.wpAny_setField_rec
def jg0:=@Int.ediv_nonneg
def jg1:=@Int.gcd_dvd_right
def jg2:=@Int.mul_ediv_cancel_left
def jg3:=@Int.natCast_pow
def jg4:=@Option.isSome_iff_exists
def jg5:=@PySem.wpAny_passesOwn
def jg6:=@Int.dvd_refl
def jg7:=@Int.le_trans
def jg8:=@Int.mul_le_mul_of_nonpos_right
def jg9:=@Int.add_mul
def jh0:=@List.filter_eq_self
def jh1:=@List.flatMap_append
def jh2:=@Nat.mul_le_mul_left
def jh3:=@Nat.testBit_mod_two_pow
def jh4:=@PySem.W.mg_of
def jh5:=@PySem.mem_of_lookup
def jh6:=@PySem.wpAny_callSpecial?_slot
def jh7:=@List.cons_append
def jh8:=@List.filter_cons
def jh9:=@Nat.mod_eq_of_lt
def ji0:=@PySem.Heap.size_push
def ji1:=@List.drop_zero
def ji2:=@PySem.F.plainAttrs_int
def ji3:=@PyProof.Rows.boot_isinstance
def ji4:=@Int.mul_add_ediv_left
def ji5:=@Int.mul_ediv_add_emod
def ji6:=@List.find?_cons
def ji7:=@List.length_nil
def ji8:=@List.nil_append
def ji9:=@Nat.testBit_two_pow_sub_one
def jj0:=@PyProof.Rows.boot_abs
def jj1:=@PyProof.Rows.boot_sum
def jj2:=@Int.emod_eq_of_lt
def jj3:=@Int.mul_add_emod_self_left
def jj4:=@List.mem_append_left
def jj5:=@Nat.mul_le_mul_right
def jj6:=@List.getElem?_append_left
def jj7:=@Nat.div_eq_of_lt
def jj8:=@Nat.testBit_zero
def jj9:=@List.length_reverse
def jk0:=@Nat.add_le_add_left
def jk1:=@Nat.testBit_two_pow
def jk2:=@List.getElem?_take_of_lt
def jk3:=@Bool.false_eq_true
def jk4:=@Bool.or_false
def jk5:=@Int.natCast_add
def jk6:=@Int.natCast_nonneg
def jk7:=@List.forIn_cons
def jk8:=@List.getElem?_drop
def jk9:=@List.head_eq_of_cons_eq
def jl0:=@Nat.min_eq_left
def jl1:=@PyProof.Rows.boot_tuple
def jl2:=@Int.fmod_nonneg_of_pos
def jl3:=@List.dropWhile_sublist
def jl4:=@Nat.testBit_lt_two_pow
def jl5:=@Int.le_refl
def jl6:=@Int.lt_trichotomy
def jl7:=@Nat.mul_left_comm
def jl8:=@Nat.pow_add
def jl9:=@PySem.wpAny_newObj_type
def jm0:=@PySem.wpAny_pyIter_list
def jm1:=@Int.natAbs_mul
def jm2:=@List.mem_range
def jm3:=@Int.fmod_add_fdiv_mul
def jm4:=@List.getElem?_eq_none
def jm5:=@List.mem_iff_getElem?
def jm6:=@Nat.lt_trans
def jm7:=@Nat.testBit_shiftLeft
def jm8:=@Nat.zero_add
def jm9:=@PyProof.Rows.boot_all
def jn0:=@PySem.codeAny_mono
def jn1:=@PySem.wpAny_call_entry
def jn2:=@Int.add_assoc
def jn3:=@Int.le_of_dvd
def jn4:=@PySem.wpAny_standAt
def jn5:=@Array.toList_append
def jn6:=@Bool.or_eq_true
def jn7:=@Int.natCast_mul
def jn8:=@Int.neg_mul
def jn9:=@List.filterMap_cons
def jo0:=@List.map_congr_left
def jo1:=@List.nodup_cons
def jo2:=@List.take_succ_cons
def jo3:=@Nat.lt_two_pow_self
def jo4:=@Nat.toList_repr
def jo5:=@Option.map_some
def jo6:=@PySem.W.callWith_K0
def jo7:=@PySem.W.plainGet_of
def jo8:=@Int.zero_add
def jo9:=@List.map_nil
def jp0:=@Nat.mul_zero
def jp1:=@Nat.pow_succ
def jp2:=@Nat.succ_mul
def jp3:=@List.forIn_nil
def jp4:=@List.take_zero
namespace L2
open PySem PySem.Spec PyProof.Rows
noncomputable abbrev Key:=Sum Int Str
noncomputable def WR:Key->Value->Bool
 | .inl k,v=>Value.isInt k v
 | .inr x,v=>Value.isStrOf x v
noncomputable def ADy(w:World):Key->Int
 | .inl k=>hashInt k
 | .inr x=>hashStr w x
theorem Em:∀{k:Key} {v:Value},WR k v=true->(∃i t,k=Sum.inl i/\v=Value.int i t)\/(∃x t,k=Sum.inr x/\v=Value.str x t)
 | .inl i,v,h=>by
  obtain⟨t,e⟩:=Value.isInt_shape (k:=i) (v:=v) h;exact .inl ⟨i,t,rfl,e⟩
 | .inr x,v,h=>by
  obtain⟨t,e⟩:=Value.isStrOf_shape (x:=x) (v:=v) h;exact .inr ⟨x,t,rfl,e⟩
theorem kE(i:Int)(t:Tok):WR (.inl i) (.int i t)=true:=by simp[WR,Value.isInt]
theorem j9(x:Str)(t:Tok):WR (.inr x) (.str x t)=true:=by simp[WR,Value.isStrOf]
theorem AAu(a b:Int):decide ((Sum.inl a:Key)=Sum.inl b)=(a==b):=by
 by_cases e:a=b
 ·subst e;simp
 ·have h:¬(Sum.inl a:Key)=Sum.inl b:=fun q=>e (Sum.inl.inj q);rw[decide_eq_false h];exact(beq_eq_false_iff_ne.mpr e).symm
theorem AAr(a b:Str):decide ((Sum.inr a:Key)=Sum.inr b)=decide (a=b):=by
 by_cases e:a=b
 ·subst e;simp
 ·have h:¬(Sum.inr a:Key)=Sum.inr b:=fun q=>e (Sum.inr.inj q);rw[decide_eq_false h,decide_eq_false e]
theorem AAt(a:Int)(b:Str):decide ((Sum.inl a:Key)=Sum.inr b)=false:=decide_eq_false (fun q=>nomatch q)
theorem AAs(a:Str)(b:Int):decide ((Sum.inr a:Key)=Sum.inl b)=false:=decide_eq_false (fun q=>nomatch q)
noncomputable def FN(prog:Program)(w:World):PySem.KeyKind prog w Key where
 is:=WR
 hash:=ADy w
 inj:=fun v a b ha hb=>by
  rcases Em ha with ⟨i,t,rfl,rfl⟩ | ⟨x,t,rfl,rfl⟩
  ·rcases Em hb with ⟨j,u,rfl,e⟩ | ⟨y,u,rfl,e⟩
   ·injection e with e1 _;rw[e1]
   ·exact nomatch e
  ·rcases Em hb with ⟨j,u,rfl,e⟩ | ⟨y,u,rfl,e⟩
   ·exact nomatch e
   ·injection e with e1 _;rw[e1]
 byValue:=fun k v h=>by
  rcases Em h with ⟨i,t,rfl,rfl⟩ | ⟨x,t,rfl,rfl⟩<;>rfl
 pyHash:=fun hv h=>by
  rcases Em hv with ⟨i,t,rfl,rfl⟩ | ⟨x,t,rfl,rfl⟩
  ·exact wpAny_pyHash_int h
  ·exact wpAny_pyHash_str h
 eqBool:=fun hu hv h=>by
  rcases Em hu with ⟨i,t,rfl,rfl⟩ | ⟨x,t,rfl,rfl⟩
  ·rcases Em hv with ⟨j,u,rfl,rfl⟩ | ⟨y,u,rfl,rfl⟩
   ·rw[AAu] at h;exact wpAny_eqBool_int h
   ·rw[AAt] at h;exact SeqAt.EqAt.int_str i t y u _ _ _ _ h
  ·rcases Em hv with ⟨j,u,rfl,rfl⟩ | ⟨y,u,rfl,rfl⟩
   ·rw[AAs] at h;exact SeqAt.EqAt.str_int x t j u _ _ _ _ h
   ·rw[AAr] at h;exact wpAny_eqBool_str h
 «strs»:=fun k x t v h=>by
  rcases Em h with ⟨i,u,rfl,e⟩ | ⟨y,u,rfl,e⟩
  ·exact nomatch e
  ·injection e with e1 _;subst e1;cases v<;>rfl
theorem Z5(prog:Program)(w:World)(i:Int)(t:Tok):(FN prog w).is (.inl i) (.int i t)=true:=kE i t
theorem KQ(prog:Program)(w:World)(x:Str)(t:Tok):(FN prog w).is (.inr x) (.str x t)=true:=j9 x t
inductive V where
 | non | bl (b:Bool) | int (i:Int) | str (x:Str) | byt (b:Array UInt8) | flt (b:UInt64) | ref (a:Addr) | ty (n:String)
 deriving DecidableEq
noncomputable def RelV:V->Value->Prop
 | .non,u=>u=Value.none
 | .bl b,u=>u=Value.bool b
 | .int i,u=>∃t,u=Value.int i t
 | .str x,u=>∃t,u=Value.str x t
 | .byt b,u=>∃t,u=Value.bytes b t
 | .flt b,u=>∃t,u=Value.float b t
 | .ref a,u=>u=Value.ref a
 | .ty n,u=>u=Value.type n
noncomputable abbrev Vals:List V->List Value->Prop:=Paired RelV
variable{us:List Value}
theorem Vals.length{xs:List V}(r:Vals xs us):xs.length=us.length:=Paired.length r
theorem Vals.get:∀{xs:List V} {us:List Value} {i:Nat} {x:V},Vals xs us->xs[i]?=some x->∃u,us[i]?=some u/\RelV x u
 | _,_,_,_,.nil,e=>by simp at e
 | _,_,0,_,.cons r _,e=>by simp at e;subst e;exact⟨_,rfl,r⟩
 | _,_,i+1,x,.cons _ t,e=>by
  obtain⟨u,h1,h2⟩:=Vals.get (i:=i) (x:=x) t (by simpa using e);exact⟨u,by simpa using h1,h2⟩
variable{u:Value}
theorem Vals.set{x:V}(r:RelV x u):∀{xs:List V} {us:List Value} (i:Nat),Vals xs us->Vals (xs.set i x) (us.set i u)
 | _,_,_,.nil=>.nil
 | _,_,0,.cons _ t=>.cons r t
 | _,_,i+1,.cons q t=>.cons q (Vals.set r i t)
theorem Vals.append:∀{xs ys:List V} {us ws:List Value},Vals xs us->Vals ys ws->Vals (xs++ys) (us++ws)
 | _,_,_,_,.nil,s=>s
 | _,_,_,_,.cons r t,s=>.cons r (Vals.append t s)
theorem Vals.take:∀{xs:List V} {us:List Value} (n:Nat),Vals xs us->Vals (xs.take n) (us.take n)
 | _,_,0,_=>.nil
 | _,_,_+1,.nil=>.nil
 | _,_,n+1,.cons r t=>.cons r (Vals.take n t)
theorem Vals.drop:∀{xs:List V} {us:List Value} (n:Nat),Vals xs us->Vals (xs.drop n) (us.drop n)
 | _,_,0,r=>r
 | _,_,_+1,.nil=>.nil
 | _,_,n+1,.cons _ t=>Vals.drop n t
noncomputable def Js:Option V->Option Value->Prop
 | some v,some u=>RelV v u
 | none,none=>True
 | _,_=>False
noncomputable def KV{κ:Type}:List (κ×V)->List (κ×Value)->Prop:=Paired fun(p:κ×V) (q:κ×Value)=>p.1=q.1/\RelV p.2 q.2
noncomputable def kV:Key->V
 | .inl i=>.int i
 | .inr x=>.str x
inductive HO where
 | lst (xs:List V)
 | tup (xs:List V)
 | dK (kvs:List (Key×V)) | dT (kvs:List (List Key×V))
 | set (S:Int->Bool) (n:Nat)
 | ins (C dx:Addr) (fs:List (Str×V))
 | own (x:Addr)
 | xd (fs:List (Str×V))
 | met (f x:Addr)
 | rng (lo hi:Int)
 | frz (o:Obj) (u:HO)
 | tbl (ps:Array Value)
 | ext (φ:Heap->Prop)
noncomputable abbrev Hp:=Addr->Option HO
noncomputable def upd(H:Hp)(a:Addr)(o:HO):Hp:=fun b=>if b=a then some o else H b
variable{H:Hp}{a:Addr}
theorem An{o:HO}:upd H a o a=some o:=by unfold upd;rw[ya rfl]
theorem BK{b:Addr}{o:HO}(h:b≠a):upd H a o b=H b:=by unfold upd;rw[ua h]
theorem tL{o u:HO}:upd (upd H a o) a u=upd H a u:=by
 funext b;unfold upd;split<;>rfl
theorem Ho{b:Addr}{o u:HO}(h:H a=some o)(h':H b=some u)(d:o≠u):a≠b:=by
 intro e;subst e;rw[h] at h';exact d (yv h')
theorem Bp{b:Addr}{o:HO}(h:H a=some o)(h':H b=none):a≠b:=by
 intro e;subst e;rw[h] at h';cases h'
section
variable(P:Program)(w:World)
noncomputable def Ez(H:Hp)(h:Heap)(a:Addr):HO->Prop
 | .lst xs=>xs.length<=sizeLine/\∃(its:List Value) (n:Nat),Vals xs its/\h.get? a=some { cls:=.type "list",data:=.seq its.toArray n }
 | .tup xs=>xs.length<=sizeLine/\∃its:List Value,Vals xs its/\IsTup h a its.toArray
 | .dK kvs=>kvs.length<=sizeLine/\(a==sysModules)=false/\∃vs,KV kvs vs/\h.DictOf (FN P w) a vs
 | .dT kvs=>kvs.length<=sizeLine/\(a==sysModules)=false/\∃xs:List (List Key×Addr×Value),
  Paired (fun (p:List Key×V) (q:List Key×Addr×Value)=>p.1=q.1/\H q.2.1=some (.tup (p.1.map kV))/\RelV p.2 q.2.2) kvs xs/\
  ∃o es ep,h.get? a=some o/\o.ExactDict/\o.data=.dict es ep/\es.toList=xs.map (entryOfKey (tupleKind (FN P w)))/\(xs.map (·.1)).Nodup
 | .set S n=>h.SetOf (intKind P w) a S n
 | .ins C dx fs=>H dx=some (.own a)/\fs.length<=1000/\dx≠a/\h.get? a=some (PySem.W.instObj C dx)/\
  ∃mA,h.Ns1 dx mA/\(∀f,Js (fs.lookup f) (mA f))/\PySem.Within mA (fs.map (·.1))
 | .own _=>∃o,h.get? a=some o
 | .xd fs=>∃mA,h.Ns1 a mA/\∀f,Js (fs.lookup f) (mA f)
 | .rng lo hi=>∃t u v,h.get? a=some { cls:=.type "range",data:=.fields #[.int lo t,.int hi u,.int 1 v] }
 | .frz o u=>h.get? a=some o/\Ez H h a u
 | .tbl ps=>h.get? a=some { cls:=.none,data:=.fields ps }
 | .met f x=>h.get? a=some (PySem.W.methodObj (.ref f) (.ref x))
 | .ext φ=>φ h/\(∃o,h.get? a=some o)/\∀h1 h2:Heap,φ h1->(∀o,h1.get? a=some o->h2.get? a=some o)->φ h2
noncomputable def HOk(H:Hp)(h:Heap):Prop:=∀a o,H a=some o->Ez P w H h a o
end
section
variable{P:Program}{w:World}{H H':Hp}{h h':Heap}{a:Addr}{o:HO}
theorem Ez.lt(x:Ez P w H h a o):a<h.objs.size:=by
 cases o with
 | lst xs=>obtain⟨_,_,_,_,e⟩:=x;exact xb e
 | tup xs=>obtain⟨_,_,_,p⟩:=x;exact p.lt
 | dK kvs=>obtain⟨_,_,_,_,o,_,_,e,_⟩:=x;exact xb e
 | dT kvs=>obtain⟨_,_,_,_,o,_,_,e,_⟩:=x;exact xb e
 | set S n=>obtain⟨o,_,_,_,e,_⟩:=x;exact xb e
 | ins C dx fs=>obtain⟨_,_,_,e,_⟩:=x;exact xb e
 | own y=>obtain⟨_,e⟩:=x;exact xb e
 | xd fs=>obtain⟨_,⟨_,_,_,e,_⟩,_⟩:=x;exact xb e
 | rng lo hi=>obtain⟨_,_,_,e⟩:=x;exact xb e
 | frz ob u=>obtain⟨e,_⟩:=x;exact xb e
 | tbl ps=>exact xb (show h.get? a=some _ from x)
 | met f y=>exact xb (show h.get? a=some _ from x)
 | ext φ=>obtain⟨_,⟨_,e⟩,_⟩:=x;exact xb e
theorem Paired.mapP{α β:Type}{F G:α->β->Prop}:∀{l₁:List α} {l₂:List β},Paired F l₁ l₂->(∀a b,F a b->G a b)->Paired G l₁ l₂
 | _,_,.nil,_=>.nil
 | _,_,.cons r t,f=>.cons (f _ _ r) (Paired.mapP t f)
theorem Ez.stay(x:Ez P w H h a o)(k:∀b u,(b=a\/H b=some (.own a))->h.get? b=some u->h'.get? b=some u)
 (ho:∀b,H b=some (.own a)->H' b=some (.own a))(ht:∀b xs,H b=some (.tup xs)->H' b=some (.tup xs)):Ez P w H' h' a o:=by
 induction o with
 | lst xs=>obtain⟨z,its,n,r,e⟩:=x;exact⟨z,its,n,r,k _ _ (.inl rfl) e⟩
 | tup xs=>obtain⟨z,its,r,ob,e,c⟩:=x;exact⟨z,its,r,ob,k _ _ (.inl rfl) e,c⟩
 | dK kvs=>obtain⟨z,y,vs,r,ob,es,ep,e,c⟩:=x;exact⟨z,y,vs,r,ob,es,ep,k _ _ (.inl rfl) e,c⟩
 | dT kvs=>
  obtain⟨z,y,xs,r,ob,es,ep,e,c⟩:=x;exact⟨z,y,xs,Paired.mapP r fun p q z=>⟨z.1,ht _ _ z.2.1,z.2.2⟩,ob,es,ep,k _ _ (.inl rfl) e,c⟩
 | set S n=>obtain⟨ob,es,ep,t,e,c⟩:=x;exact⟨ob,es,ep,t,k _ _ (.inl rfl) e,c⟩
 | ins C dx fs=>
  obtain⟨d,z,ne,e,mA,⟨od,es,ep,e2,c⟩,r⟩:=x;exact⟨ho _ d,z,ne,k _ _ (.inl rfl) e,mA,⟨od,es,ep,k _ _ (.inr d) e2,c⟩,r⟩
 | own y=>obtain⟨ob,e⟩:=x;exact⟨ob,k _ _ (.inl rfl) e⟩
 | xd fs=>obtain⟨mA,⟨od,es,ep,e,c⟩,r⟩:=x;exact⟨mA,⟨od,es,ep,k _ _ (.inl rfl) e,c⟩,r⟩
 | rng lo hi=>obtain⟨t,u,v,e⟩:=x;exact⟨t,u,v,k _ _ (.inl rfl) e⟩
 | frz ob u ih=>obtain⟨e,q⟩:=x;exact⟨k _ _ (.inl rfl) e,ih q⟩
 | tbl ps=>
  have e:h.get? a=some { cls:=.none,data:=.fields ps }:=x;show h'.get? a=some { cls:=.none,data:=.fields ps };exact k a _ (.inl rfl) e
 | met f y=>
  have e:h.get? a=some (PySem.W.methodObj (.ref f) (.ref y)):=x;show h'.get? a=some (PySem.W.methodObj (.ref f) (.ref y));exact k a _ (.inl rfl) e
 | ext φ=>obtain⟨p,⟨o,e⟩,st⟩:=x;exact⟨st _ _ p fun o q=>k _ _ (.inl rfl) q,⟨o,k _ _ (.inl rfl) e⟩,st⟩
theorem HOk.lt(x:HOk P w H h)(e:H a=some o):a<h.objs.size:=(x a o e).lt
theorem HOk.fresh(x:HOk P w H h)(e:h.objs.size<=a):H a=none:=by
 cases q:H a with
 | none=>rfl
 | some u=>exact absurd (xh (x.lt q) e) (jf6 _)
theorem HOk.kept(x:HOk P w H h)(k:∀b u,h.get? b=some u->h'.get? b=some u):HOk P w H h':=fun a o e=>
 (x a o e).stay (fun b u _ q=>k b u q) (fun _ q=>q) fun _ _ q=>q
theorem HOk.laid(x:HOk P w H h)(k:∀b u,h.get? b=some u->h'.get? b=some u)(hp:h.objs.size<=a)(new:Ez P w (upd H a o) h' a o):HOk P w (upd H a o) h':=fun b u e=>by
 have hn:=x.fresh hp;by_cases hb:b=a
 ·subst hb;rw[An] at e;cases e;exact new
 ·rw[BK hb] at e;exact(x b u e).stay (fun c v _ q=>k c v q) (fun c q=>by rw[BK (Bp q hn)];exact q) fun c xs q=>by rw[BK (Bp q hn)];exact q
end
noncomputable def Rd(H:Hp)(a:Addr)(u:HO):Prop:=H a=some u\/∃o,H a=some (.frz o u)
theorem Rd.ok{P:Program}{w:World}{h:Heap}{u:HO}(r:Rd H a u)(x:HOk P w H h):Ez P w H h a u:=by
 rcases r with r | ⟨o,r⟩
 ·exact x a u r
 ·obtain⟨_,q⟩:=x a _ r;exact q
noncomputable def Mut:Option HO->Prop
 | some (.lst _)=>True
 | some (.dK _)=>True
 | some (.dT _)=>True
 | some (.set _ _)=>True
 | some (.ins _ _ _)=>True
 | some (.ext _)=>True
 | _=>False
section
variable{P:Program}{w:World}{H:Hp}{h h':Heap}{x e:Addr}{o':HO}
theorem HOk.write(ok:HOk P w H h)(mu:Mut (H x))(he:e=x\/H e=some (.own x))(k:∀b u,b≠e->h.get? b=some u->h'.get? b=some u)(heo:∃u,h'.get? e=some u)
 (new:Ez P w (upd H x o') h' x o'):HOk P w (upd H x o') h':=fun b u q=>by
 have nown:∀c y,H c=some (.own y)->c≠x:=fun c y r z=>by subst z;rw[r] at mu;exact mu
 have ntup:∀c xs,H c=some (.tup xs)->c≠x:=fun c xs r z=>by subst z;rw[r] at mu;exact mu
 by_cases hb:b=x
 ·subst hb;rw[An] at q;cases q;exact new
 ·rw[BK hb] at q;by_cases hbe:b=e
  ·have q':H b=some (.own x):=by
    rcases he with z | z
    ·exact absurd (hbe.trans z) hb
    ·rw[hbe];exact z
   rw[q] at q';cases q';obtain⟨v,hv⟩:=heo;exact⟨v,by rw[hbe];exact hv⟩
  ·refine(ok b u q).stay (fun c v hc r=>k c v ?_ r) (fun c r=>by rw[BK (nown c b r)];exact r) fun c xs r=>by rw[BK (ntup c xs r)];exact r
   rcases hc with rfl | hc
   ·exact hbe
   ·rintro rfl;rcases he with z | z
    ·exact nown c b hc z
    ·rw[hc] at z;cases z;exact hb rfl
end
structure Un(fs ex:List Addr)(H H':Hp)(h h':Heap):Prop where
 keep:∀b o,h.get? b=some o->H b=none->b∉fs->b∉ex->h'.get? b=some o
 slot:∀b o,h.get? b=some o->H b=none->b∈fs->b∉ex->∃sl,h'.get? b=some { o with slots:=sl }
 free:∀b o,h.get? b=some o->H b=none->b∉ex->H' b=none
 there:∀b o,h.get? b=some o->b∉ex->∃o',h'.get? b=some o'
 tups:∀b xs,H b=some (.tup xs)->H' b=some (.tup xs)
 frzs:∀b o u,H b=some (.frz o u)->H' b=some (.frz o u)
 tbls:∀b ps,H b=some (.tbl ps)->∃more,H' b=some (.tbl (ps++more))
section
variable{fs fs' ex ex':List Addr}{H H1 H2:Hp}{h h1 h2 h':Heap}{a x e:Addr}{o:HO}
theorem Un.any(u:Un fs ex H H1 h h1){b:Addr}{ob:Obj}(q:h.get? b=some ob)(n:H b=none)(hx:b∉ex):∃sl,h1.get? b=some { ob with slots:=sl }:=by
 by_cases hb:b∈fs
 ·exact u.slot b ob q n hb hx
 ·exact⟨ob.slots,u.keep b ob q n hb hx⟩
theorem Un.kept(k:∀b u,h.get? b=some u->h'.get? b=some u):Un fs ex H H h h':=
 ⟨fun b ob q _ _ _=>k b ob q,fun b ob q _ _ _=>⟨ob.slots,k b ob q⟩,fun _ _ _ n _=>n,fun b ob q _=>⟨ob,k b ob q⟩,fun _ _ q=>q,fun _ _ _ q=>q,fun _ ps q=>⟨#[],by rw[q];simp⟩⟩
theorem Un.refl:Un fs ex H H h h:=Un.kept fun _ _ q=>q
theorem Un.laid(k:∀b u,h.get? b=some u->h'.get? b=some u)(hp:h.objs.size<=a)(hn:H a=none):Un fs ex H (upd H a o) h h' where
 keep:=fun b u q _ _ _=>k b u q
 slot:=fun b u q _ _ _=>⟨u.slots,k b u q⟩
 free:=fun b u q n _=>by rw[BK (vx (xh (xb q) hp))];exact n
 there:=fun b u q _=>⟨u,k b u q⟩
 tups:=fun b xs q=>by rw[BK (Bp q hn)];exact q
 frzs:=fun b u xs q=>by rw[BK (Bp q hn)];exact q
 tbls:=fun b ps q=>⟨#[],by rw[BK (Bp q hn),q];simp⟩
theorem Un.write(mu:Mut (H x))(he:e=x\/H e=some (.own x))(k:∀b u,b≠e->h.get? b=some u->h'.get? b=some u)(heo:∃u,h'.get? e=some u):Un fs ex H (upd H x o) h h':=by
 have hx:∀b,H b=none->b≠x:=fun b n z=>by subst z;rw[n] at mu;exact mu
 have hb:∀b,H b=none->b≠e:=fun b n z=>by
  subst z;rcases he with r | r
  ·exact hx b n r
  ·rw[n] at r;cases r
 have hm:∀b u,H b=some u->¬Mut (some u)->b≠x:=fun b u q nm z=>by subst z;rw[q] at mu;exact nm mu
 refine⟨fun b u q n _ _=>k b u (hb b n) q,fun b u q n _ _=>⟨u.slots,k b u (hb b n) q⟩,fun b u q n _=>by rw[BK (hx b n)];exact n,fun b u q _=>?_,
  fun b xs q=>by rw[BK (hm b _ q fun z=>z)];exact q,fun b u xs q=>by rw[BK (hm b _ q fun z=>z)];exact q,fun b ps q=>⟨#[],by rw[BK (hm b _ q fun z=>z),q];simp⟩⟩
 by_cases hbe:b=e
 ·subst hbe;exact heo
 ·exact⟨u,k b u hbe q⟩
end
noncomputable def trk(h:Heap)(H:Hp):List Addr:=(List.range h.objs.size).filter fun a=>(H a).isSome
noncomputable def YZ(h:Heap)(H:Hp):Heap:=PySem.W.hideAll h (trk h H)
theorem kY(h:Heap)(H:Hp):(YZ h H).objs.size=h.objs.size:=PySem.W.hideAll_size _ _
theorem qY{h:Heap}{b:Addr}{o:Obj}(e:h.get? b=some o)(n:H b=none):(YZ h H).get? b=some o:=
 PySem.W.hideAll_get _ e fun hm=>by
  have q:(H b).isSome=true:=(List.mem_filter.mp hm).2;rw[n] at q;simp at q
theorem vQ{h:Heap}{b:Addr}{o:Obj}(e:(YZ h H).get? b=some o):h.get? b=some o/\H b=none:=by
 have e':h.get? b=some o:=PySem.W.of_hideAll (trk h H) e;refine⟨e',?_⟩;cases q:H b with
 | none=>rfl
 | some x=>
  have hm:b∈trk h H:=List.mem_filter.mpr ⟨jm2.mpr (xb e'),by simp[q]⟩;have z:(YZ h H).get? b=none:=PySem.W.hideAll_none (trk h H) hm;rw[z] at e;cases e
noncomputable def wz(g h:Heap)(L:Addr):List (Addr×Obj):=(List.range h.objs.size).filterMap fun a=>if a=L\/(g.get? a).isSome=true then none else (h.get? a).map fun o=>(a,o)
noncomputable def rest(g h:Heap)(L d:Addr):List (Addr×Obj):=(wz g h L).filter fun p=>decide (p.1≠d)
structure Mod(K:Fr)(mg:Str->Option Value)(base:Heap):Prop where
 kin:K.In base
 glob:base.Ns mainGlobals mg
 blt:∃mb,base.Ns builtinsNs mb/\∀x:Str,x≠"__name__"->mb x=bootBuiltins x
 nolimit:base.NoLimit
structure Cx where
 prog:Program
 w:World
 K:Fr
 mg:Str->Option Value
 base:Heap
 A:Around
 N:List Str
 s₀:Shared
 H₀:Hp
 env:Env
 outer:List Env
 stack:List Env
 ex:List Addr
 fn:Str->Bool
 calm:Bool
 pn:List (Addr×Obj)
 xe:Value->Shared->Prop
noncomputable def frs(l:List Env):List Addr:=l.filterMap (·.frame)
noncomputable abbrev Cx.fs(X:Cx):List Addr:=frs X.outer
noncomputable def Vis(sc:Scope)(x:Str):Prop:=sc.names.lookup x=some .local\/sc.names.lookup x=some .cell\/sc.names.lookup x=some .free
noncomputable def Loc(sc:Scope)(x:Str):Prop:=sc.names.lookup x=some .local\/sc.names.lookup x=some .cell
noncomputable def Look(env:Env)(h:Heap)(m:Str->Option Value)(x:Str)(u:Value):Prop:=
 (env.kindOf x=some .local/\m x=some u)\/((env.kindOf x=some .cell\/env.kindOf x=some .free)/\∃c,env.cells.lookup x=some c/\h.IsCell c (some u))
structure Cx.Ok(X:Cx):Prop where
 mod:Mod X.K X.mg X.base
 kind:X.env.scope.kind=.function
 glob:X.env.globals=mainGlobals
 blt:X.env.builtins=builtinsNs
 above:X.s₀.heap.objs.size<=X.env.locals
 inj:∀x y c,X.env.cells.lookup x=some c->X.env.cells.lookup y=some c->x=y
 has:∀x,(X.env.kindOf x=some .cell\/X.env.kindOf x=some .free)->∃c,X.env.cells.lookup x=some c
 cab:∀x c,X.fn x=true->X.env.cells.lookup x=some c->X.s₀.heap.objs.size<=c
 hd:X.calm=true->X.A.handled=none
 frames:X.A.frames=some X.stack
 stk:X.stack=X.outer\/(X.stack=X.env::X.outer/\X.env.frame=some X.env.locals)
 exf:∀b∈X.ex,b≠X.env.locals/\∀x c,X.env.cells.lookup x=some c->c≠b
 bs:∀b o,X.base.get? b=some o->X.s₀.heap.get? b=some o/\X.H₀ b=none
 bsz:X.base.objs.size<=X.s₀.heap.objs.size
 noex:∀b o,X.base.get? b=some o->b∉X.ex
 exfs:∀b∈X.ex,b∉X.fs
 funs:X.s₀.heap.FunFrames X.base X.outer
 frf:∀b∈X.fs,X.H₀ b=none
structure Inv(X:Cx)(pins:List (Addr×Obj))(Z:List (Option V))(H:Hp)(s:Shared):Prop where
 ok:X.Ok
 os:s.os=X.s₀.os
 bare:AllBare s.gens
 base:Un X.fs X.ex X.H₀ H X.s₀.heap s.heap
 loc:∃m,s.heap.Ns X.env.locals m/\∀(i:Nat) (x:Str) (v:V),X.N[i]?=some x->Z[i]?=some (some v)->Vis X.env.scope x->∃u,RelV v u/\Look X.env s.heap m x u
 cell:∀x c,X.env.cells.lookup x=some c->∃v,s.heap.IsCell c v
 free:H X.env.locals=none
 freeC:∀x c,X.env.cells.lookup x=some c->H c=none
 pin:∀p∈X.pn++pins,s.heap.get? p.1=some p.2/\H p.1=none/\p.1≠X.env.locals/\p.1∉X.fs/\∀v,p.2.data≠.cell v
 hok:HOk X.prog X.w H s.heap
 len:Z.length=X.N.length
variable{x:Str}{t':Nat}{A:Around}
section
variable{X:Cx}{pins:List (Addr×Obj)}{Z:List (Option V)}{H H':Hp}{s:Shared}{h':Heap}
theorem Cx.Ok.nofr(ok:X.Ok){b:Addr}{o:Obj}(e:X.base.get? b=some o):b∉X.fs:=fun hb=>by
 have:=(ok.funs.mem hb).1;rw[e] at this;cases this
theorem Inv.bs(I:Inv X pins Z H s):∀b o,X.base.get? b=some o->s.heap.get? b=some o/\H b=none:=fun b o e=>
 ⟨I.base.keep b o (I.ok.bs b o e).1 (I.ok.bs b o e).2 (I.ok.nofr e) (I.ok.noex b o e),I.base.free b o (I.ok.bs b o e).1 (I.ok.bs b o e).2 (I.ok.noex b o e)⟩
theorem Inv.bk(I:Inv X pins Z H s):∀b o,X.base.get? b=some o->s.heap.get? b=some o:=fun b o e=>(I.bs b o e).1
theorem Inv.mod(I:Inv X pins Z H s):Mod X.K X.mg X.base:=I.ok.mod
theorem Inv.kIn(I:Inv X pins Z H s):X.K.In s.heap:=I.ok.mod.kin.keeps I.bk
theorem Inv.lt(I:Inv X pins Z H s):X.env.locals<s.heap.objs.size:=let ⟨_,hn,_⟩:=I.loc;hn.lt
theorem Inv.sz(I:Inv X pins Z H s):X.s₀.heap.objs.size<=s.heap.objs.size:=zw I.ok.above (Nat.le_of_lt I.lt)
theorem Inv.nofs(I:Inv X pins Z H s){a:Addr}(h:s.heap.objs.size<=a):a∉X.fs:=fun hb=>by
 obtain⟨_,o,ho,_⟩:=I.ok.funs.mem hb;exact absurd (xh (xb ho) (zw I.sz h)) (jf6 _)
theorem Inv.cne(I:Inv X pins Z H s):∀x c,X.env.cells.lookup x=some c->c≠X.env.locals:=fun x c e z=>by
 obtain⟨v,o,ho,hd⟩:=I.cell x c e;obtain⟨m,⟨o',es,ep,ho',hd',_⟩,_⟩:=I.loc;rw[z,ho'] at ho;cases ho;rw[hd'] at hd;cases hd
theorem Inv.funs(I:Inv X pins Z H s):s.heap.FunFrames X.base X.outer:=by
 have all:∀(l:List Env),(∀b∈frs l,b∈X.fs)->X.s₀.heap.FunFrames X.base l->s.heap.FunFrames X.base l:=by
  intro l
  induction l with
  | nil=>intro _ _;trivial
  | cons env r ih=>
   intro hs hl;obtain⟨hk,⟨L,o,hf,hn,ho,hd⟩,hr⟩:=hl;have hL:L∈X.fs:=hs L (by unfold frs;rw[jn9,hf];exact jv);obtain⟨sl,e⟩:=I.base.slot L o ho (I.ok.frf L hL) hL fun z=>I.ok.exfs L z hL;exact⟨hk,⟨L,_,hf,hn,e,hd⟩,ih (fun b hb=>hs b (by unfold frs;rw[jn9,hf];exact qh _ hb)) hr⟩
 exact all X.outer (fun _ hb=>hb) I.ok.funs
theorem Inv.stack(I:Inv X pins Z H s):s.heap.FunFrames X.base X.stack:=by
 rcases I.ok.stk with e | ⟨e,hf⟩
 ·rw[e];exact I.funs
 ·rw[e];obtain⟨m,hn,_⟩:=I.loc;refine .cons (by rw[I.ok.kind];decide) hf hn ?_ I.funs;exact Heap.get?_none_of_le (zw I.ok.bsz I.ok.above)
theorem Inv.stkSub(I:Inv X pins Z H s):∀b∈frs X.stack,b∈X.env.locals::X.fs:=fun b hb=>by
 rcases I.ok.stk with e | ⟨e,hf⟩
 ·rw[e] at hb;exact qh _ hb
 ·rw[e] at hb;unfold frs at hb;rw[jn9,hf] at hb;exact hb
theorem Inv.stkFree(I:Inv X pins Z H s):∀b∈frs X.stack,H b=none:=fun b hb=>by
 rcases qv.mp (I.stkSub b hb) with e | hb
 ·rw[e];exact I.free
 ·obtain⟨_,o,ho,_⟩:=I.ok.funs.mem hb;exact I.base.free b o ho (I.ok.frf b hb) fun z=>I.ok.exfs b z hb
theorem Inv.step{g':Array GenState}{d':Drawn}{ch:List Addr}(I:Inv X pins Z H s)
 (hch:∀b∈ch,(b∈X.ex\/X.s₀.heap.objs.size<=b)/\b≠X.env.locals/\(∀x c,X.env.cells.lookup x=some c->c≠b)/\∀p∈X.pn++pins,p.1≠b)
 (keep:∀b o,b≠X.env.locals->b∉X.fs->b∉ch->s.heap.get? b=some o->H b=none->h'.get? b=some o)
 (slot:∀b o,b≠X.env.locals->b∈X.fs->b∉ch->s.heap.get? b=some o->H b=none->∃sl,h'.get? b=some { o with slots:=sl })(free:∀b o,b∉ch->s.heap.get? b=some o->H b=none->H' b=none)
 (there:∀b o,b∉ch->s.heap.get? b=some o->∃o',h'.get? b=some o')
 (tups:∀b xs,H b=some (.tup xs)->H' b=some (.tup xs))(frzs:∀b o u,H b=some (.frz o u)->H' b=some (.frz o u))(tbls:∀b ps,H b=some (.tbl ps)->∃more,H' b=some (.tbl (ps++more)))
 (ns:∀m,s.heap.Ns X.env.locals m->h'.Ns X.env.locals m)(hok:HOk X.prog X.w H' h')(hg:AllBare g'):
 Inv X pins Z H' { s with heap:=h',gens:=g',drawn:=d',toks:=t' }:=by
 have neL:∀b o,X.s₀.heap.get? b=some o->b≠X.env.locals:=fun b o e=>vx (xh (xb e) I.ok.above);have neC:∀b o,X.s₀.heap.get? b=some o->b∉X.ex->b∉ch:=fun b o e hx hb=>by
  rcases(hch b hb).1 with z | z
  ·exact hx z
  ·exact absurd (xh (xb e) z) (jf6 _)
 have cellK:∀x c,X.env.cells.lookup x=some c->∀v,s.heap.IsCell c v->h'.IsCell c v:=fun x c e v ⟨o,ho,hd⟩=>by
  have nch:c∉ch:=fun z=>(hch c z).2.2.1 x c e rfl;by_cases hc:c∈X.fs
  ·obtain⟨sl,q⟩:=slot c o (I.cne x c e) hc nch ho (I.freeC x c e);exact⟨_,q,hd⟩
  ·exact⟨o,keep c o (I.cne x c e) hc nch ho (I.freeC x c e),hd⟩
 refine⟨I.ok,I.os,hg,⟨fun b o e n hb hx=>?_,fun b o e n hb hx=>?_,fun b o e n hx=>?_,fun b o e hx=>?_,fun b xs e=>tups b xs (I.base.tups b xs e),fun b o xs e=>frzs b o xs (I.base.frzs b o xs e),fun b ps e=>?_⟩,?_,fun x c e=>?_,?_,fun x c e=>?_,fun p hp=>?_,hok,I.len⟩
 ·exact keep b o (neL b o e) hb (neC b o e hx) (I.base.keep b o e n hb hx) (I.base.free b o e n hx)
 ·obtain⟨sl,e1⟩:=I.base.slot b o e n hb hx;obtain⟨sl',e2⟩:=slot b _ (neL b o e) hb (neC b o e hx) e1 (I.base.free b o e n hx);exact⟨sl',e2⟩
 ·obtain⟨o',e1⟩:=I.base.there b o e hx;exact free b o' (neC b o e hx) e1 (I.base.free b o e n hx)
 ·obtain⟨o',e1⟩:=I.base.there b o e hx;exact there b o' (neC b o e hx) e1
 ·obtain⟨m1,e1⟩:=I.base.tbls b ps e;obtain⟨m2,e2⟩:=tbls b _ e1;exact⟨m1++m2,by rw[e2,Array.append_assoc]⟩
 ·obtain⟨m,hn,hl⟩:=I.loc;refine⟨m,ns m hn,fun i x v e1 e2 e3=>?_⟩;obtain⟨u,r,l⟩:=hl i x v e1 e2 e3;refine⟨u,r,?_⟩;rcases l with l | ⟨k,c,e,z⟩
  ·exact .inl l
  ·exact .inr ⟨k,c,e,cellK x c e _ z⟩
 ·obtain⟨v,z⟩:=I.cell x c e;exact⟨v,cellK x c e v z⟩
 ·obtain⟨m,⟨o,_,_,ho,_⟩,_⟩:=I.loc;exact free _ o (fun z=>(hch _ z).2.1 rfl) ho I.free
 ·obtain⟨v,o,ho,hd⟩:=I.cell x c e;exact free c o (fun z=>(hch c z).2.2.1 x c e rfl) ho (I.freeC x c e)
 ·obtain⟨e,n,ne,nf,d⟩:=I.pin p hp;have nch:p.1∉ch:=fun z=>(hch p.1 z).2.2.2 p hp rfl;exact⟨keep p.1 p.2 ne nf nch e n,free p.1 p.2 nch e n,ne,nf,d⟩
theorem Inv.un(I:Inv X pins Z H s)(u:Un X.fs [] H H' s.heap h')(hok:HOk X.prog X.w H' h'):Inv X pins Z H' { s with heap:=h',toks:=t' }:=by
 obtain⟨m,⟨o,es,ep,ho,r⟩,_⟩:=id I.loc;obtain⟨sl,hL⟩:=u.any ho I.free (by simp);exact I.step (g':=s.gens) (d':=s.drawn) (ch:=[]) (fun _ z=>nomatch z) (fun b o _ hb _ e n=>u.keep b o e n hb (by simp)) (fun b o _ hb _ e n=>u.slot b o e n hb (by simp)) (fun b o _ e n=>u.free b o e n (by simp)) (fun b o _ e=>u.there b o e (by simp)) u.tups u.frzs u.tbls (fun m' hm=>by
  obtain⟨o',es',ep',ho',r'⟩:=hm;rw[ho] at ho';cases ho';exact⟨_,es',ep',hL,r'⟩) hok I.bare
theorem Inv.call{g':Array GenState}{d':Drawn}{ch:List Addr}(I:Inv X pins Z H s)(u:Un (frs X.stack) ch H H' s.heap h')(hok:HOk X.prog X.w H' h')(hg:AllBare g')
 (hch:∀b∈ch,(b∈X.ex\/X.s₀.heap.objs.size<=b)/\b≠X.env.locals/\(∀x c,X.env.cells.lookup x=some c->c≠b)/\∀p∈X.pn++pins,p.1≠b):
 Inv X pins Z H' { s with heap:=h',gens:=g',drawn:=d',toks:=t' }:=by
 obtain⟨m,⟨o,es,ep,ho,r⟩,_⟩:=id I.loc;obtain⟨sl,hL⟩:=u.any ho I.free fun z=>(hch _ z).2.1 rfl;exact I.step (ch:=ch) hch (fun b o hL hb hc e n=>u.keep b o e n (fun z=>(qv.mp (I.stkSub b z)).elim hL hb) hc) (fun b o _ _ hc e n=>u.any e n hc) (fun b o hc e n=>u.free b o e n hc) (fun b o hc e=>u.there b o e hc) u.tups u.frzs u.tbls (fun m' hm=>by
  obtain⟨o',es',ep',ho',r'⟩:=hm;rw[ho] at ho';cases ho';exact⟨_,es',ep',hL,r'⟩) hok hg
theorem Inv.turned{it:Addr}(I:Inv X pins Z H s)(k:∀b o,b≠it->s.heap.get? b=some o->h'.get? b=some o)(hn:H it=none)(hL:it≠X.env.locals)
 (h1:it∈X.ex\/X.s₀.heap.objs.size<=it)(h2:∀x c,X.env.cells.lookup x=some c->c≠it)(h3:∀p∈X.pn++pins,p.1≠it):Inv X pins Z H { s with heap:=h',toks:=t' }:=by
 have nit:∀b u,H b=some u->b≠it:=fun b u e z=>by rw[z,hn] at e;cases e
 refine I.step (g':=s.gens) (d':=s.drawn) (ch:=[it]) (fun b hb=>?_) (fun b o _ _ hc e _=>k b o (fun z=>hc (by simp[z])) e) (fun b o _ _ hc e _=>⟨o.slots,k b o (fun z=>hc (by simp[z])) e⟩) (fun _ _ _ _ n=>n)
  (fun b o hc e=>⟨o,k b o (fun z=>hc (by simp[z])) e⟩) (fun _ _ e=>e) (fun _ _ _ e=>e) (fun b ps e=>⟨#[],by rw[e];simp⟩) (fun m hm=>?_) (fun b u e=>?_) I.bare
 ·have e:b=it:=by simpa using hb
  subst e;exact⟨h1,hL,h2,h3⟩
 ·obtain⟨o,es,ep,ho,r⟩:=hm;exact⟨o,es,ep,k _ o (Ne.symm hL) ho,r⟩
 ·refine(I.hok b u e).stay (fun c v hc q=>k c v ?_ q) (fun _ q=>q) fun _ _ q=>q;rcases hc with z | z
  ·rw[z];exact nit b u e
  ·exact nit c _ z
theorem Inv.tok(I:Inv X pins Z H s)(t:Nat):Inv X pins Z H { s with toks:=t }:=I.un (h':=s.heap) (t':=t) Un.refl I.hok
theorem Inv.kept(I:Inv X pins Z H s)(k:∀b u,s.heap.get? b=some u->h'.get? b=some u):Inv X pins Z H { s with heap:=h',toks:=t' }:=I.un (Un.kept k) (I.hok.kept k)
theorem Inv.laid{o:HO}(I:Inv X pins Z H s)(k:∀b u,s.heap.get? b=some u->h'.get? b=some u)(hp:s.heap.objs.size<=a)(new:Ez X.prog X.w (upd H a o) h' a o):
 Inv X pins Z (upd H a o) { s with heap:=h',toks:=t' }:=I.un (Un.laid k hp (I.hok.fresh hp)) (I.hok.laid k hp new)
theorem Inv.write{x e:Addr}{o:HO}(I:Inv X pins Z H s)(mu:Mut (H x))(he:e=x\/H e=some (.own x))(k:∀b u,b≠e->s.heap.get? b=some u->h'.get? b=some u)(heo:∃u,h'.get? e=some u)
 (new:Ez X.prog X.w (upd H x o) h' x o):Inv X pins Z (upd H x o) { s with heap:=h',toks:=t' }:=I.un (Un.write mu he k heo) (I.hok.write mu he k heo new)
theorem Inv.pins_of{pins':List (Addr×Obj)}(I:Inv X pins Z H s)(h:∀p∈pins',s.heap.get? p.1=some p.2/\H p.1=none/\p.1≠X.env.locals/\p.1∉X.fs/\∀v,p.2.data≠.cell v):Inv X pins' Z H s:=
 ⟨I.ok,I.os,I.bare,I.base,I.loc,I.cell,I.free,I.freeC,fun p hp=>(ku.mp hp).elim (fun z=>I.pin p (jj4 _ z)) (h p),I.hok,I.len⟩
theorem Z4{N:List Str}(hN:N.Nodup){i j:Nat}{x:Str}(a:N[i]?=some x)(b:N[j]?=some x):i=j:=by
 obtain⟨h1,e1⟩:=zn.mp a;obtain⟨h2,e2⟩:=zn.mp b;exact(List.getElem_inj hN).mp (e1.trans e2.symm)
theorem V5{M:Model}{E:Value->Shared->Prop}{i:Nat}{v:V}{Q:Unit->Shared->Prop}(I:Inv X pins Z H s)(hN:X.N.Nodup)(hi:X.N[i]?=some x)(hx:Loc X.env.scope x)(r:RelV v u)
 (h:∀s',Inv X pins (Z.set i (some v)) H s'->(∃a,Heap.SameBut a s.heap s'.heap/\(a=X.env.locals\/X.env.cells.lookup x=some a))->Q () s')(hf:X.fn x=true\/X.env.scope.names.lookup x=some .local:=by first | exact .inl rfl | exact .inr rfl | assumption):wpAny M A (storeName X.env x u) Q E s:=by
 obtain⟨m,hn,hl⟩:=id I.loc;have hcls:(X.env.scope.kind==.class||(X.env.scope.kind==.module&&X.env.locals != X.env.globals))=false:=by rw[I.ok.kind];rfl
 have hiσ:i<Z.length:=by rw[I.len];exact(zn.mp hi).1
 have cne:=I.cne;have tracked:∀{a:Addr} {h':Heap},(∃o,s.heap.get? a=some o/\H a=none)->Heap.SameBut a s.heap h'->HOk X.prog X.w H h':=fun{a h'} ha hs b ob e=>by
  obtain⟨_,_,hfree⟩:=ha;refine(I.hok b ob e).stay (fun c w' hc q=>(hs.2 c ?_).trans q) (fun _ q=>q) fun _ _ q=>q;rintro rfl;rcases hc with rfl | hc
  ·rw[hfree] at e;cases e
  ·rw[hfree] at hc;cases hc
 rcases hx with hk | hk
 ·refine wpAny_storeName_local hk hn (fun h' hn' hs=>?_) hcls;obtain⟨oL,_,_,hoL,_⟩:=id hn;refine h _ ⟨I.ok,I.os,I.bare,⟨fun b o e n hb hx=>?_,fun b o e n hb hx=>?_,I.base.free,fun b o e hx=>?_,I.base.tups,I.base.frzs,I.base.tbls⟩,⟨_,hn',fun j y v' e1 e2 e3=>?_⟩,fun y c e=>?_,I.free,I.freeC,fun p hp=>?_,tracked ⟨oL,hoL,I.free⟩ hs,by simpa using I.len⟩ ⟨_,hs,.inl rfl⟩
  ·exact(hs.2 b (vx (xh (xb e) I.ok.above))).trans (I.base.keep b o e n hb hx)
  ·obtain⟨sl,e1⟩:=I.base.slot b o e n hb hx;exact⟨sl,(hs.2 b (vx (xh (xb e) I.ok.above))).trans e1⟩
  ·obtain⟨o',e1⟩:=I.base.there b o e hx;exact⟨o',(hs.2 b (vx (xh (xb e) I.ok.above))).trans e1⟩
  ·by_cases hj:j=i
   ·subst hj;rw[hi] at e1;cases e1;rw[List.getElem?_set_self hiσ] at e2;cases e2;exact⟨u,r,.inl ⟨hk,by simp⟩⟩
   ·rw[List.getElem?_set_ne (Ne.symm hj)] at e2;obtain⟨u',r',q⟩:=hl j y v' e1 e2 e3;refine⟨u',r',?_⟩;rcases q with ⟨k,e⟩ | ⟨k,c,e,z⟩
    ·refine .inl ⟨k,?_⟩;have:y≠x:=fun e=>hj (Z4 hN e1 (e ▸ hi));simp[this,e]
    ·exact .inr ⟨k,c,e,z.sameBut hs (cne y c e)⟩
  ·obtain⟨w',z⟩:=I.cell y c e;exact⟨w',z.sameBut hs (cne y c e)⟩
  ·obtain⟨e,n,ne,nf,d⟩:=I.pin p hp;exact⟨(hs.2 p.1 ne).trans e,n,ne,nf,d⟩
 ·have hfn:X.fn x=true:=by
   rcases hf with z | z
   ·exact z
   ·rw[z] at hk;cases hk
  obtain⟨c,hc⟩:=I.ok.has x (.inl hk);obtain⟨w',z⟩:=I.cell x c hc;refine wpAny_storeName_cell I.ok.kind hk hc z (fun h' hc' hs=>?_);obtain⟨oc,hoc,hocd⟩:=id z;refine h { s with heap:=h' } ⟨I.ok,I.os,I.bare,⟨fun b o e n hb hx=>?_,fun b o e n hb hx=>?_,I.base.free,fun b o e hx=>?_,I.base.tups,I.base.frzs,I.base.tbls⟩,⟨m,hn.sameBut hs (Ne.symm (cne x c hc)),fun j y v' e1 e2 e3=>?_⟩,fun y c' e=>?_,I.free,I.freeC,fun p hp=>?_,tracked ⟨oc,hoc,I.freeC x c hc⟩ hs,by simpa using I.len⟩ ⟨c,hs,.inr hc⟩
  ·exact(hs.2 b (vx (xh (xb e) (I.ok.cab x c hfn hc)))).trans (I.base.keep b o e n hb hx)
  ·obtain⟨sl,e1⟩:=I.base.slot b o e n hb hx;exact⟨sl,(hs.2 b (vx (xh (xb e) (I.ok.cab x c hfn hc)))).trans e1⟩
  ·obtain⟨o',e1⟩:=I.base.there b o e hx;exact⟨o',(hs.2 b (vx (xh (xb e) (I.ok.cab x c hfn hc)))).trans e1⟩
  ·by_cases hj:j=i
   ·subst hj;rw[hi] at e1;cases e1;rw[List.getElem?_set_self hiσ] at e2;cases e2;exact⟨u,r,.inr ⟨.inl hk,c,hc,hc'⟩⟩
   ·rw[List.getElem?_set_ne (Ne.symm hj)] at e2;obtain⟨u',r',q⟩:=hl j y v' e1 e2 e3;refine⟨u',r',?_⟩;rcases q with q | ⟨k,c',e,z'⟩
    ·exact .inl q
    ·refine .inr ⟨k,c',e,z'.sameBut hs ?_⟩;rintro rfl;exact hj (Z4 hN e1 (I.ok.inj _ _ _ e hc ▸ hi))
  ·by_cases hcc:c'=c
   ·subst hcc;exact⟨_,hc'⟩
   ·obtain⟨w2,z2⟩:=I.cell y c' e;exact⟨w2,z2.sameBut hs hcc⟩
  ·obtain⟨e,n,ne,nf,d⟩:=I.pin p hp;refine⟨(hs.2 p.1 ?_).trans e,n,ne,nf,d⟩;intro q;rw[q,hoc] at e;have q':oc=p.2:=yv e;exact d w' (by rw[<-q'];exact hocd)
theorem Ml{M:Model}{E:Value->Shared->Prop}{i:Nat}{v:V}{Q:Unit->Shared->Prop}(I:Inv X pins Z H s)(hN:X.N.Nodup)(hi:X.N[i]?=some x)(hx:Loc X.env.scope x)(r:RelV v u)
 (h:∀s',Inv X pins (Z.set i (some v)) H s'->Q () s')(hf:X.fn x=true\/X.env.scope.names.lookup x=some .local:=by first | exact .inl rfl | exact .inr rfl | assumption):wpAny M A (storeName X.env x u) Q E s:=
 V5 I hN hi hx r (fun s' I' _=>h s' I') hf
theorem Inv.call'{s':Shared}{ch:List Addr}(I:Inv X pins Z H s)(ho:s'.os=s.os)(u:Un (frs X.stack) ch H H' s.heap s'.heap)(hok:HOk X.prog X.w H' s'.heap)(hg:AllBare s'.gens)
 (hch:∀b∈ch,(b∈X.ex\/X.s₀.heap.objs.size<=b)/\b≠X.env.locals/\(∀x c,X.env.cells.lookup x=some c->c≠b)/\∀p∈X.pn++pins,p.1≠b):Inv X pins Z H' s':=by
 obtain⟨h',g',d',t',o'⟩:=s';have e:o'=s.os:=ho;subst e;exact I.call (g':=g') (t':=t') (d':=d') u hok hg hch
end
noncomputable abbrev XK:=Value->Option Addr->Hp->Prop
noncomputable abbrev St:=List (Option V)
noncomputable abbrev VK:=V->Hp->Prop
noncomputable abbrev TE:=St->Hp->VK->Prop
noncomputable abbrev TT:=St->Hp->(Bool->Hp->Prop)->Prop
noncomputable abbrev TA:=St->Hp->(List V->Hp->Prop)->Prop
structure Ends where
 nx:St->Hp->Prop
 rt:VK
 bk:St->Hp->Prop:=fun _ _=>False
 ct:St->Hp->Prop:=fun _ _=>False
noncomputable abbrev TS:=Ends->St->Hp->Prop
noncomputable def EP(X:Cx)(pins:List (Addr×Obj))(Z:St)(Q:VK)(u:Value)(s':Shared):Prop:=∃v H',Inv X pins Z H' s'/\RelV v u/\Q v H'
noncomputable def TP(X:Cx)(pins:List (Addr×Obj))(Z:St)(Q:Bool->Hp->Prop)(b:Bool)(s':Shared):Prop:=∃H',Inv X pins Z H' s'/\Q b H'
noncomputable def AP(X:Cx)(pins:List (Addr×Obj))(Z:St)(Q:List V->Hp->Prop)(us:List Value)(s':Shared):Prop:=∃vs H',Inv X pins Z H' s'/\Vals vs us/\Q vs H'
noncomputable def SP(X:Cx)(pins:List (Addr×Obj))(D:Ends)(f:Flow)(s':Shared):Prop:=
 match f with
 | .next=>∃Z' H',Inv X pins Z' H' s'/\D.nx Z' H'
 | .brk=>∃Z' H',Inv X pins Z' H' s'/\D.bk Z' H'
 | .cont=>∃Z' H',Inv X pins Z' H' s'/\D.ct Z' H'
 | .ret u=>∃v Z' H',Inv X pins Z' H' s'/\RelV v u/\D.rt v H'
noncomputable def PE(X:Cx)(e:Expr)(t:TE):Prop:=
 ∀ ⦃pins:List (Addr×Obj)⦄ (s:Shared) (Z:St) (H:Hp) (Q:VK),Inv X pins Z H s->t Z H Q->wpAny (model X.prog X.w) X.A (eval e X.env) (EP X pins Z Q) X.xe s
noncomputable def PT(X:Cx)(e:Expr)(t:TT):Prop:=
 ∀ ⦃pins:List (Addr×Obj)⦄ (s:Shared) (Z:St) (H:Hp) (Q:Bool->Hp->Prop),Inv X pins Z H s->t Z H Q->wpAny (model X.prog X.w) X.A (isTrue e X.env (eval e X.env)) (TP X pins Z Q) X.xe s
noncomputable def PW(X:Cx)(e:Expr)(t:TT):Prop:=
 ∀ ⦃whole:Sem Value⦄ (pins:List (Addr×Obj)) (s:Shared) (Z:St) (H:Hp) (Q:Bool->Hp->Prop),Inv X pins Z H s->t Z H Q->wpAny (model X.prog X.w) X.A (isTrue e X.env whole) (TP X pins Z Q) X.xe s
theorem PW.pt{X:Cx}{e:Expr}{t:TT}(h:PW X e t):PT X e t:=fun pins=>@h _ pins
noncomputable def PA(X:Cx)(es:List Expr)(t:TA):Prop:=
 ∀ ⦃pos:Pos⦄ (pins:List (Addr×Obj)) (s:Shared) (Z:St) (H:Hp) (Q:List V->Hp->Prop),Inv X pins Z H s->t Z H Q->wpAny (model X.prog X.w) X.A (spliced (backTo pos (starEach es X.env))) (AP X pins Z Q) X.xe s
noncomputable def PS(X:Cx)(st:Stmt)(t:TS):Prop:=
 ∀ ⦃pins:List (Addr×Obj)⦄ (s:Shared) (Z:St) (H:Hp) (D:Ends),Inv X pins Z H s->t D Z H->wpAny (model X.prog X.w) X.A (exec st X.env) (SP X pins D) X.xe s
noncomputable def PSs(X:Cx)(st:List Stmt)(t:TS):Prop:=
 ∀ ⦃pins:List (Addr×Obj)⦄ (s:Shared) (Z:St) (H:Hp) (D:Ends),Inv X pins Z H s->t D Z H->wpAny (model X.prog X.w) X.A (execs st X.env) (SP X pins D) X.xe s
theorem thn{α:Type}{t:Sem α}{Q Q':α->Shared->Prop}{M:Model}{E:Value->Shared->Prop}{s:Shared}(h:wpAny M A t Q E s)(hQ:∀a s,Q a s->Q' a s):wpAny M A t Q' E s:=ja9 h hQ fun _ _ x=>x
variable{Z:St}{pos:Pos}{pins:List (Addr×Obj)}
section
variable{X:Cx}
noncomputable def ADh:Option (Option V)->(V->Prop)->Prop
 | some (some v),k=>k v
 | _,_=>False
noncomputable def Lw(i:Nat):TE:=fun Z H Q=>ADh Z[i]? fun v=>Q v H
theorem tu{i:Nat}{Q:VK}(h:Lw i Z H Q):∃v,Z[i]?=some (some v)/\Q v H:=by
 unfold Lw at h
 match e:Z[i]?,h with
 | some (some v),h=>exact⟨v,rfl,h⟩
theorem MF{i:Nat}{Q:VK}{v:V}(e:Z[i]?=some (some v))(h:Q v H):Lw i Z H Q:=by
 unfold Lw;rw[e];exact h
noncomputable abbrev Vw(T G:Prop):=(T->G)->T->G
noncomputable def tC(v:V):TE:=fun _ H Q=>Q v H
theorem pJ{i:Nat}(hN:X.N[i]?=some x)(hv:Vis X.env.scope x)(hd:(x==("__debug__":Str))=false:=by decide)(hcd:(x==("__classdict__":Str))=false:=by decide):PE X (.Name x pos) (Lw i):=by
 intro pins s Z H Q I h;obtain⟨v,e,h⟩:=tu h;obtain⟨m,hn,hl⟩:=I.loc;obtain⟨u,r,l⟩:=hl i x v hN e hv;have fin:EP X pins Z Q u s:=⟨v,H,I,r,h⟩;rcases l with ⟨hk,hm⟩ | ⟨hk,c,hc,hcell⟩
 ·exact wpAny_Name (wpAny_loadName_local I.ok.kind hk hn hm fin) hd
 ·rcases hk with hk | hk
  ·exact wpAny_Name (wpAny_loadName_cell I.ok.kind hk hc hcell fin) hd
  ·exact wpAny_Name (wpAny_loadName_free I.ok.kind hk hc hcell fin hcd) hd
theorem Ae{i j pos}:PE X (.Constant (.int i) j pos) (tC (.int i)):=fun _ _ _ H _ I h=>wpAny_Constant_int ⟨.int i,H,I.tok _,⟨_,rfl⟩,h⟩
theorem Jz{b j pos}:PE X (.Constant (.bool b) j pos) (tC (.bl b)):=fun _ _ _ H _ I h=>Constant_bool ⟨.bl b,H,I,rfl,h⟩
theorem GF{j pos}:PE X (.Constant .none j pos) (tC .non):=fun _ _ _ H _ I h=>Constant_none ⟨.non,H,I,rfl,h⟩
theorem Aj{x j pos}:PE X (.Constant (.str x) j pos) (tC (.str x)):=fun _ _ _ H _ I h=>Calls.Constant_str ⟨.str x,H,I.tok _,⟨_,rfl⟩,h⟩
noncomputable def Gl(X:Cx)(x:Str):Prop:=X.env.kindOf x=some .globalImplicit
theorem Nb{E:Value->Shared->Prop}{s:Shared}{Q:Value->Shared->Prop}(I:Inv X pins Z H s)(hg:Gl X x)(hm:X.mg x=some u)(h:Q u s)
 (hd:(x==("__debug__":Str))=false:=by decide):wpAny (model X.prog X.w) X.A (eval (.Name x pos) X.env) Q E s:=
 Calls.Name_function_global I.ok.kind hg (Calls.loadGlobal_global (by rw[I.ok.glob];exact I.mod.glob.keeps I.bk) hm h) hd
theorem Iu{E:Value->Shared->Prop}{s:Shared}{Q:Value->Shared->Prop}(I:Inv X pins Z H s)(hg:Gl X x)(hm:X.mg x=none)(hv:bootBuiltins x=some u)(h:Q u s)
 (hn:x≠"__name__":=by decide)(hd:(x==("__debug__":Str))=false:=by decide):wpAny (model X.prog X.w) X.A (eval (.Name x pos) X.env) Q E s:=by
 obtain⟨mb,h1,h2⟩:=I.mod.blt;exact Calls.Name_function_global I.ok.kind hg (Calls.loadGlobal_builtin (by rw[I.ok.glob];exact I.mod.glob.keeps I.bk) hm (by rw[I.ok.blt];exact h1.keeps I.bk) ((h2 x hn).trans hv) h) hd
theorem By{v:V}(hg:Gl X x)(hm:X.mg x=some u)(r:RelV v u)(hd:(x==("__debug__":Str))=false:=by decide):PE X (.Name x pos) (tC v):=
 fun _ _ _ H _ I h=>Nb I hg hm ⟨v,H,I,r,h⟩ hd
theorem YB{v:V}(hg:Gl X x)(hm:X.mg x=none)(hv:bootBuiltins x=some u)(r:RelV v u)(hn:x≠"__name__":=by decide)(hd:(x==("__debug__":Str))=false:=by decide):PE X (.Name x pos) (tC v):=
 fun _ _ _ H _ I h=>Iu I hg hm hv ⟨v,H,I,r,h⟩ hn hd
variable{a b:Expr}{ta tb:TE}{pos:Pos}
noncomputable def PC(X:Cx)(op:CmpOp)(a b:Expr)(t:TE):Prop:=
 ∀(pins:List (Addr×Obj)) (s:Shared) (Z:St) (H:Hp) (Q:VK),Inv X pins Z H s->t Z H Q->
  wpAny (model X.prog X.w) X.A (eval a X.env) (fun v s₁=>wpAny (model X.prog X.w) X.A (eval b X.env) (fun u s₂=>wpAny (model X.prog X.w) X.A (compareOp op v u) (EP X pins Z Q) X.xe s₂) X.xe s₁) X.xe s
noncomputable def tB(t:TE):TT:=fun Z H Q=>t Z H fun x H1=>∃c,x=.bl c/\Q c H1
theorem Xz{op:CmpOp}{t:TE}(h:PC X op a b t)(h1:behindInMarks op b=false:=by first | exact nobehind _ (by decide) (by decide) | rfl):PT X (.Compare a [op] [b] pos) (tB t):=by
 intro pins s Z H Q I hw;refine wpAny_isTrue_Compare1 (thn (h pins s Z H _ I hw) fun v s1 h1=>thn h1 fun u s2 h2=>thn h2 fun c s3 hZ=>?_) h1;obtain⟨x,H1,I1,r1,q1⟩:=hZ;obtain⟨d,rfl,q⟩:=q1;cases r1;exact ja4 ⟨H1,I1,q⟩
theorem GD{e:Expr}{t:TE}(h:PE X e t)(he:∀whole,isTrue e X.env whole=(do let v <-whole;standAt e.pos;holding [v] (truthy v)):=by intro _;rfl):PT X e (tB t):=by
 intro pins s Z H Q I hw;refine isTrue_plain (thn (h s Z H _ I hw) fun v s1 hZ=>?_) (he _);obtain⟨x,H1,I1,r1,q1⟩:=hZ;obtain⟨d,rfl,q⟩:=q1;cases r1;exact ja4 ⟨H1,I1,q⟩
variable{tA tB':TT}{rest:List Expr}
noncomputable def ABv(t u:TT):TT:=fun Z H Q=>t Z H fun c H1=>if c=true then u Z H1 Q else Q false H1
noncomputable def tOr(t u:TT):TT:=fun Z H Q=>t Z H fun c H1=>if c=true then Q true H1 else u Z H1 Q
noncomputable def ABp(t:TT):TT:=fun Z H Q=>t Z H fun c H1=>Q (!c) H1
theorem Ky(ha:PT X a tA):PW X (.BoolOp .And [a] pos) tA:=by
 intro wh pins s Z H Q I h;refine isTrue_and (thn (ha s Z H Q I h) fun c s1 e=>?_);cases c with
 | true=>exact isTrue_and_nil e
 | false=>exact e
theorem Fp(ha:PT X a tA):PW X (.BoolOp .Or [a] pos) tA:=by
 intro wh pins s Z H Q I h;refine isTrue_or (thn (ha s Z H Q I h) fun c s1 e=>?_);cases c with
 | false=>exact isTrue_or_nil e
 | true=>exact e
theorem Ow(ha:PT X a tA)(hb:PW X (.BoolOp .And (b::rest) pos) tB'):PW X (.BoolOp .And (a::b::rest) pos) (ABv tA tB'):=by
 intro wh pins s Z H Q I h;refine isTrue_and (thn (ha s Z H _ I h) fun c s1 hZ=>?_);obtain⟨H1,I1,q1⟩:=hZ;cases c with
 | true=>exact hb (whole:=wh) pins s1 Z H1 Q I1 q1
 | false=>exact⟨H1,I1,q1⟩
theorem Gv(ha:PT X a tA)(hb:PW X (.BoolOp .Or (b::rest) pos) tB'):PW X (.BoolOp .Or (a::b::rest) pos) (tOr tA tB'):=by
 intro wh pins s Z H Q I h;refine isTrue_or (thn (ha s Z H _ I h) fun c s1 hZ=>?_);obtain⟨H1,I1,q1⟩:=hZ;cases c with
 | true=>exact⟨H1,I1,q1⟩
 | false=>exact hb (whole:=wh) pins s1 Z H1 Q I1 q1
theorem Gw(ha:PT X a tA):PT X (.UnaryOp .Not a pos) (ABp tA):=by
 intro pins s Z H Q I h;exact isTrue_not (ha s Z H (fun c H1=>Q (!c) H1) I h)
noncomputable def xX(ta tb:TE):TE:=fun Z H Q=>ta Z H fun x H1=>∃c,x=.bl c/\if c=true then tb Z H1 Q else Q (.bl false) H1
noncomputable def xR(ta:TE):TE:=fun Z H Q=>ta Z H fun x H1=>∃c,x=.bl c/\Q (.bl (!c)) H1
theorem MJ{op}{t:TE}(h:PE X a t):PE X (.BoolOp op [a] pos) t:=fun pins s Z H Q I hw=>BoolOp_one (h s Z H Q I hw)
theorem Jd(ha:PE X a ta)(hb:PE X (.BoolOp .And (b::rest) pos) tb):PE X (.BoolOp .And (a::b::rest) pos) (xX ta tb):=by
 intro pins s Z H Q I h;refine BoolOp_and (thn (ha s Z H _ I h) fun v s1 hZ=>?_);obtain⟨x,H1,I1,r1,q1⟩:=hZ;obtain⟨c,rfl,q1⟩:=q1;cases r1;refine ja4 ?_;cases c with
 | true=>exact hb s1 Z H1 Q I1 q1
 | false=>exact⟨.bl false,H1,I1,rfl,q1⟩
theorem AAV(ha:PE X a ta):PE X (.UnaryOp .Not a pos) (xR ta):=by
 intro pins s Z H Q I h;refine UnaryOp_ (thn (ha s Z H _ I h) fun v s1 hZ=>?_);obtain⟨x,H1,I1,r1,q1⟩:=hZ;obtain⟨c,rfl,q1⟩:=q1;cases r1;exact not_of (ja4 ⟨.bl (!c),H1,I1,rfl,q1⟩)
noncomputable def tIf(t:TT)(ta tb:TE):TE:=fun Z H Q=>t Z H fun c H1=>if c=true then ta Z H1 Q else tb Z H1 Q
theorem Ea{c:Expr}(hc:PT X c tA)(ha:PE X a ta)(hb:PE X b tb):PE X (.IfExp c a b pos) (tIf tA ta tb):=by
 intro pins s Z H Q I h;refine wpAny_IfExp (thn (hc s Z H _ I h) fun d s1 hZ=>?_);obtain⟨H1,I1,q1⟩:=hZ;cases d with
 | true=>exact ha s1 Z H1 Q I1 q1
 | false=>exact hb s1 Z H1 Q I1 q1
end
noncomputable def SqL(K:Fr)(H:Hp)(a:Addr)(xs:List V):Prop:=
 Rd H a (.lst xs)\/
  ∃(o:Obj) (its:Array Value) (n:Nat),K.lookup a=some o/\o.cls=.type "list"/\o.dict=none/\o.data=.seq its n/\its.size<=sizeLine/\Vals xs its.toList
noncomputable def SqT(K:Fr)(H:Hp)(a:Addr)(xs:List V):Prop:=
 Rd H a (.tup xs)\/
  ∃(o:Obj) (its:Array Value) (n:Nat),K.lookup a=some o/\o.cls=.type "tuple"/\o.data=.seq its n/\its.size<=sizeLine/\Vals xs its.toList
noncomputable def AEQ:Value->Option V
 | .none=>some .non
 | .bool b=>some (.bl b)
 | .int i _=>some (.int i)
 | .str x _=>some (.str x)
 | .bytes b _=>some (.byt b)
 | .float b _=>some (.flt b)
 | .ref a=>some (.ref a)
 | .type n=>some (.ty n)
 | _=>none
theorem RelV.abs{x:V}(r:RelV x u):AEQ u=some x:=by
 cases x with
 | non=>cases r;rfl
 | bl _=>cases r;rfl
 | int _=>obtain⟨t,rfl⟩:=r;rfl
 | str _=>obtain⟨t,rfl⟩:=r;rfl
 | byt _=>obtain⟨t,rfl⟩:=r;rfl
 | flt _=>obtain⟨t,rfl⟩:=r;rfl
 | ref _=>cases r;rfl
 | ty _=>cases r;rfl
theorem RelV.inj{x y:V}(r:RelV x u)(q:RelV y u):x=y:=yv (r.abs.symm.trans q.abs)
theorem Vals.inj:∀{xs ys:List V} {us:List Value},Vals xs us->Vals ys us->xs=ys
 | _,_,_,.nil,.nil=>rfl
 | _,_,_,.cons r t,.cons r' t'=>by rw[r.inj r',Vals.inj t t']
variable{K:Fr}
section
variable{X:Cx}{pins:List (Addr×Obj)}{Z:St}{H:Hp}{s:Shared}{a:Addr}{xs ys:List V}
theorem SqL.of(h:H a=some (.lst xs)):SqL K H a xs:=.inl (.inl h)
theorem SqT.of(h:H a=some (.tup xs)):SqT K H a xs:=.inl (.inl h)
theorem Inv.list(I:Inv X pins Z H s)(h:SqL X.K H a xs):∃its:List Value,Vals xs its/\PlainL s.heap a its.toArray/\xs.length<=sizeLine:=by
 rcases h with h | ⟨o,its,n,hk,hc,hd,hs,hz,r⟩
 ·obtain⟨z,its,n,r,e⟩:=h.ok I.hok;exact⟨its,r,⟨_,n,e,rfl,rfl,rfl⟩,z⟩
 ·refine⟨its.toList,r,⟨o,n,I.kIn a o hk,hc,hd,by simpa using hs⟩,?_⟩;have e:=r.length;simp only[ky] at e;lia
theorem Inv.tuple(I:Inv X pins Z H s)(h:SqT X.K H a xs):∃its:List Value,Vals xs its/\IsTup s.heap a its.toArray/\xs.length<=sizeLine:=by
 rcases h with h | ⟨o,its,n,hk,hc,hs,hz,r⟩
 ·obtain⟨z,its,r,p⟩:=h.ok I.hok;exact⟨its,r,p,z⟩
 ·refine⟨its.toList,r,⟨o,I.kIn a o hk,hc,n,by simpa using hs⟩,?_⟩;have e:=r.length;simp only[ky] at e;lia
theorem Inv.list_inj(I:Inv X pins Z H s)(h:SqL X.K H a xs)(h':SqL X.K H a ys):xs=ys:=by
 obtain⟨its,r,⟨o,n,e,_,_,d⟩,_⟩:=I.list h;obtain⟨its',r',⟨o',n',e',_,_,d'⟩,_⟩:=I.list h';rw[e] at e';cases e';rw[d] at d';injection d' with d1 _;have:its=its':=by simpa using xk Array.toList d1
 subst this;exact r.inj r'
theorem Inv.tuple_inj(I:Inv X pins Z H s)(h:SqT X.K H a xs)(h':SqT X.K H a ys):xs=ys:=by
 obtain⟨its,r,⟨o,e,_,n,d⟩,_⟩:=I.tuple h;obtain⟨its',r',⟨o',e',_,n',d'⟩,_⟩:=I.tuple h';rw[e] at e';cases e';rw[d] at d';injection d' with d1 _;have:its=its':=by simpa using xk Array.toList d1
 subst this;exact r.inj r'
end
noncomputable abbrev Cx.wish(X:Cx)(E:Value->Shared->Prop):Cx:={ X with xe:=E }
noncomputable abbrev Cx.nox(X:Cx):Cx:=X.wish fun _ _=>False
theorem Cx.Ok.wish{X:Cx}(ok:X.Ok)(E:Value->Shared->Prop):(X.wish E).Ok:=
 ⟨ok.mod,ok.kind,ok.glob,ok.blt,ok.above,ok.inj,ok.has,ok.cab,ok.hd,ok.frames,ok.stk,ok.exf,ok.bs,ok.bsz,ok.noex,ok.exfs,ok.funs,ok.frf⟩
theorem Cx.Ok.unwish{X:Cx}{E:Value->Shared->Prop}(ok:(X.wish E).Ok):X.Ok:=
 ⟨ok.mod,ok.kind,ok.glob,ok.blt,ok.above,ok.inj,ok.has,ok.cab,ok.hd,ok.frames,ok.stk,ok.exf,ok.bs,ok.bsz,ok.noex,ok.exfs,ok.funs,ok.frf⟩
section
variable{X:Cx}{pins:List (Addr×Obj)}{Z:St}{H:Hp}{s:Shared}{E:Value->Shared->Prop}
theorem Inv.wish(I:Inv X pins Z H s)(E:Value->Shared->Prop):Inv (X.wish E) pins Z H s:=⟨I.ok.wish E,I.os,I.bare,I.base,I.loc,I.cell,I.free,I.freeC,I.pin,I.hok,I.len⟩
theorem Inv.unwish(I:Inv (X.wish E) pins Z H s):Inv X pins Z H s:=⟨I.ok.unwish,I.os,I.bare,I.base,I.loc,I.cell,I.free,I.freeC,I.pin,I.hok,I.len⟩
theorem SP.unwish{D:Ends}{f:Flow}{s':Shared}(h:SP (X.wish E) pins D f s'):SP X pins D f s':=by
 cases f with
 | next=>obtain⟨Z',H',I,q⟩:=h;exact⟨Z',H',I.unwish,q⟩
 | brk=>obtain⟨Z',H',I,q⟩:=h;exact⟨Z',H',I.unwish,q⟩
 | cont=>obtain⟨Z',H',I,q⟩:=h;exact⟨Z',H',I.unwish,q⟩
 | ret u=>obtain⟨v,Z',H',I,r,q⟩:=h;exact⟨v,Z',H',I.unwish,r,q⟩
theorem PSs.nox{st:List Stmt}{t:TS}(h:PSs X.nox st t):PSs X st t:=fun pins s Z H D I hw=>
 ja9 (h s Z H D (I.wish _) hw) (fun _ _ q=>q.unwish) fun _ _ z=>False.elim z
end
section
variable{X:Cx}{st:Stmt}{rest:List Stmt}{t u:TS}{e:Expr}{te:TE}{pos:Pos}
noncomputable def xT:TS:=fun D Z H=>D.nx Z H
noncomputable def ye(t u:TS):TS:=fun D Z H=>t { D with nx:=u D } Z H
theorem Ao:PSs X [] xT:=fun _ _ Z H _ I h=>wpAny_execs_nil ⟨Z,H,I,h⟩
theorem Ab(h1:PS X st t)(h2:PSs X rest u):PSs X (st::rest) (ye t u):=by
 intro pins s Z H D I h;refine wpAny_execs_cons (thn (h1 s Z H { D with nx:=u D } I h) fun f s1 q=>?_);cases f with
 | next=>
  obtain⟨Z',H',I',q⟩:=q;exact h2 s1 Z' H' D I' q
 | ret v=>exact q
 | brk=>exact q
 | cont=>exact q
theorem Ad(h1:PS X st t):PSs X [st] t:=by
 intro pins s Z H D I h;refine wpAny_execs_cons (thn (h1 s Z H D I h) fun f s1 q=>?_);cases f with
 | next=>exact wpAny_execs_nil q
 | ret v=>exact q
 | brk=>exact q
 | cont=>exact q
noncomputable def nO:TS:=fun D Z H=>D.bk Z H
theorem Zu:PS X (.Break pos) nO:=fun _ _ Z H _ I h=>wpAny_Break ⟨Z,H,I,h⟩
theorem Inv.quiet{s:Shared}(I:Inv X pins Z H s):interactive X.env=false:=by simp[interactive,I.ok.kind]
noncomputable def xV(te:TE):TS:=fun D Z H=>te Z H fun _ H1=>D.nx Z H1
theorem Bh(he:PE X e te)(hs:‹swapsWith e none pos.line X.env=pure false›):PS X (.Expr e pos) (xV te):=by
 intro pins s Z H D I h;exact wpAny_Expr_any (thn (he s Z H _ I h) fun v s1 ⟨x,H1,I1,r1,q1⟩=>⟨Z,H1,I1,q1⟩) I.quiet hs
noncomputable def ABn(te:TE):TS:=fun D Z H=>te Z H D.rt
theorem Al(he:PE X e te):PS X (.Return (some e) pos) (ABn te):=by
 intro pins s Z H D I h;exact wpAny_Return_some (thn (he s Z H _ I h) fun v s1 ⟨x,H1,I1,r1,q1⟩=>⟨x,Z,H1,I1,r1,q1⟩)
noncomputable def ABr(c:TT)(t u:TS):TS:=fun D Z H=>c Z H fun b H1=>if b=true then t D Z H1 else u D Z H1
theorem Ay{c:Expr}{a b:List Stmt}{tc:TT}(hc:PT X c tc)(ha:PSs X a t)(hb:PSs X b u):PS X (.If c a b pos) (ABr tc t u):=by
 intro pins s Z H D I h;refine wpAny_If (thn (hc s Z H _ I h) fun d s1 hZ=>?_);obtain⟨H1,I1,q1⟩:=hZ;cases d with
 | true=>exact ha s1 Z H1 D I1 q1
 | false=>exact hb s1 Z H1 D I1 q1
noncomputable def yf:TS:=fun _ _ _=>False
theorem Bc:PS X st yf:=fun _ _ _ _ _ _ h=>h.elim
end
noncomputable abbrev TG:=V->St->Hp->(St->Hp->Prop)->Prop
noncomputable abbrev TGs:=List V->St->Hp->(St->Hp->Prop)->Prop
noncomputable def PG(X:Cx)(target:Expr)(t:TG):Prop:=
 ∀ ⦃pins:List (Addr×Obj)⦄ (s:Shared) (Z:St) (H:Hp) (v:V) (u:Value) (Q:St->Hp->Prop),Inv X pins Z H s->RelV v u->t v Z H Q->
  wpAny (model X.prog X.w) X.A (assign target X.env u) (fun _ s'=>∃Z' H',Inv X pins Z' H' s'/\Q Z' H') X.xe s
noncomputable def PGs(X:Cx)(ts:List Expr)(t:TGs):Prop:=
 ∀ ⦃pins:List (Addr×Obj)⦄ (s:Shared) (Z:St) (H:Hp) (vs:List V) (us:List Value) (Q:St->Hp->Prop),Inv X pins Z H s->Vals vs us->t vs Z H Q->
  wpAny (model X.prog X.w) X.A (assignInOrder ((assignEach ts X.env).map (·.2)) us) (fun _ s'=>∃Z' H',Inv X pins Z' H' s'/\Q Z' H') X.xe s
noncomputable abbrev ABc:=V->V->V->Hp->(Hp->Prop)->Prop
noncomputable def ADX(X:Cx)(t:ABc):Prop:=
 ∀(pins:List (Addr×Obj)) (s:Shared) (Z:St) (H:Hp) (o i v:V) (ov iv u:Value) (Q:Hp->Prop),Inv X pins Z H s->RelV o ov->RelV i iv->RelV v u->t o i v H Q->
  wpAny (model X.prog X.w) X.A (setItem ov iv u) (fun _ s'=>∃H',Inv X pins Z H' s'/\Q H') X.xe s
section
variable{X:Cx}{pos:Pos}
noncomputable def J3(i:Nat):TG:=fun v Z H Q=>Q (Z.set i (some v)) H
theorem Cm{i:Nat}(hN:X.N.Nodup)(hi:X.N[i]?=some x)(hx:Loc X.env.scope x)(hf:X.fn x=true\/X.env.scope.names.lookup x=some .local:=by first | exact .inl rfl | exact .inr rfl | assumption):PG X (.Name x pos) (J3 i):=by
 intro pins s Z H v u Q I r h;exact wpAny_assign_Name (Ml I hN hi hx r (fun s' I'=>⟨_,H,I',h⟩) hf)
noncomputable def wA:TGs:=fun vs Z H Q=>vs=[]/\Q Z H
noncomputable def Wa(t:TG)(u:TGs):TGs:=fun vs Z H Q=>∃v r,vs=v::r/\t v Z H fun Z' H'=>u r Z' H' Q
theorem Kz:PGs X [] wA:=by
 intro pins s Z H vs us Q I r h;obtain⟨e,h⟩:=h;subst e;cases r;exact assignInOrder_nil ⟨Z,H,I,h⟩
theorem FP{e:Expr}{es:List Expr}{t:TG}{u:TGs}(h1:PG X e t)(h2:PGs X es u)
 (hs:‹(assignEach (e::es) X.env).map (·.2)=assign e X.env::(assignEach es X.env).map (·.2)›):PGs X (e::es) (Wa t u):=by
 intro pins s Z H vs us Q I r h;obtain⟨v,vr,e1,h⟩:=h;subst e1;cases r with
 | cons r rr=>
  rw[hs];refine assignInOrder_cons (thn (h1 s Z H _ _ _ I r h) fun _ s1 hZ=>?_);obtain⟨σ1,H1,I1,q1⟩:=hZ;exact h2 s1 σ1 H1 _ _ Q I1 rr q1
noncomputable def qe(K:Fr)(n:Nat)(t:TGs):TG:=fun v Z H Q=>∃a xs,v=.ref a/\SqT K H a xs/\xs.length=n/\t xs Z H Q
theorem X5{es:List Expr}{k:Nat}{t:TGs}{n:Nat}(hc:X.calm=true)(h:PGs X es t)
 (hn:‹(assignEach es X.env).length=n›)(hst:‹(assignEach es X.env).findIdx? (·.1)=none›):PG X (.Tuple es k pos) (qe X.K n t):=by
 intro pins s Z H v u Q I r hw;obtain⟨a,xs,e1,hq,hl,hw⟩:=hw;subst e1;cases r;obtain⟨its,rv,ht,hz⟩:=I.tuple hq;refine assign_Tuple_tuple (I.ok.hd hc) ht (by simp[hn,<-hl,rv.length]) hst fun h' hx=>?_;have I1:Inv X pins Z H { s with heap:=h' }:=I.kept (t':=s.toks) fun b o e=>hx b o (vx (xb e)) e;exact h _ Z H xs _ Q I1 (by simpa using rv) hw
noncomputable def ADL(to ti:TE)(t:ABc):TG:=fun v Z H Q=>to Z H fun o H1=>ti Z H1 fun i H2=>t o i v H2 fun H3=>Q Z H3
theorem pI{o i:Expr}{to ti:TE}{t:ABc}(ho:PE X o to)(hi:PE X i ti)(hs:ADX X t)
 (ha:∀v,assign (.Subscript o i pos) X.env v=(do
  let ov <-holding [v] (eval o X.env)
  let iv <-holding [v,ov] (eval i X.env)
  standAt pos
  holding [v,ov,iv] (setItem ov iv v)
  release [v,ov,iv] []):=by intro _;rfl):PG X (.Subscript o i pos) (ADL to ti t):=by
 intro pins s Z H v u Q I r h;rw[ha];refine qc (jf8 (thn (ho s Z H _ I h) fun ov s1 hZ=>?_));obtain⟨x,H1,I1,r1,q1⟩:=hZ;refine qc (jf8 (thn (hi s1 Z H1 _ I1 q1) fun iv s2 hZ=>?_));obtain⟨y,H2,I2,r2,q2⟩:=hZ;refine qc (jn4 (qc (jf8 (thn (hs pins s2 Z H2 x y v ov iv u _ I2 r1 r2 r q2) fun _ s3 hZ=>?_))));obtain⟨H3,I3,q3⟩:=hZ;exact wpAny_release ⟨Z,H3,I3,q3⟩
noncomputable def nP(te:TE)(g:TG):TS:=fun D Z H=>te Z H fun x H1=>g x Z H1 D.nx
theorem Ox{tg e:Expr}{te:TE}{g:TG}(he:PE X e te)(hg:PG X tg g)(hs:‹swapsWithSole [tg] e pos.line X.env=pure false›)(hw:‹swappedStores [tg] e X.env=pure none›)
 (h1:‹(assignEach [tg] X.env).map (·.2)=[assign tg X.env]›):PS X (.Assign [tg] e pos) (nP te g):=by
 intro pins s Z H D I h;refine wpAny_Assign_stores (thn (he s Z H _ I h) fun v s1 hZ=>?_) hs hw;obtain⟨x,H1,I1,r1,q1⟩:=hZ;rw[h1];exact thn (hg s1 Z H1 x v _ I1 r1 q1) fun _ s2 q=>q
theorem Ah(i:Nat){x:Str}{e:Expr}{te:TE}{pos':Pos}(he:PE X e te)(hN:X.N.Nodup:=by assumption)(hi:X.N[i]?=some x:=by exact rfl)(hx:Loc X.env.scope x:=by walk_at"o")(hs:‹swapsWith e (some (.Name x pos')) pos.line X.env=pure false›)(hf:X.fn x=true\/X.env.scope.names.lookup x=some .local:=by first | exact .inl rfl | exact .inr rfl | assumption):
 PS X (.Assign [.Name x pos'] e pos) (nP te (J3 i)):=by
 intro pins s Z H D I h;refine wpAny_Assign_Name (thn (he s Z H _ I h) fun v s1 hZ=>?_) hs;obtain⟨y,H1,I1,r1,q1⟩:=hZ;exact Ml I1 hN hi hx r1 (fun s2 I2=>⟨_,H1,I2,q1⟩) hf
noncomputable def ABo(i j:Nat)(ta:TA):TS:=fun D Z H=>ta Z H fun vs H1=>∃v w,vs=[v,w]/\D.nx ((Z.set i (some v)).set j (some w)) H1
theorem AAR{i j:Nat}{y:Str}{a b:Expr}{ta:TA}{px py pt:Pos}{kt k2 pt2}(hc:X.calm=true)(hN:X.N.Nodup)(hi:X.N[i]?=some x)(hj:X.N[j]?=some y)(hij:i≠j)
 (hx:X.env.scope.names.lookup x=some .local)(hy:X.env.scope.names.lookup y=some .local)(ha:PA X [a,b] ta)
 (hw:swappedStores [.Tuple [.Name x px,.Name y py] kt pt] (.Tuple [a,b] k2 pt2) X.env=pure (some [x,y]))
 (hs:‹swapsWithSole [.Tuple [.Name x px,.Name y py] kt pt] (.Tuple [a,b] k2 pt2) pos.line X.env=pure false›):
 PS X (.Assign [.Tuple [.Name x px,.Name y py] kt pt] (.Tuple [a,b] k2 pt2) pos) (ABo i j ta):=by
 intro pins s Z H D I h;rw[exec_Assign_arm];refine qc (jn4 ?_);rw[hs];refine qc (xp ?_);rw[ua (by decide)];refine qc (Tuple_ (thn (ha pins s Z H _ I h) fun us s1 hZ=>?_));obtain⟨vs,H1,I1,r1,q1⟩:=hZ;obtain⟨v,w,e1,q1⟩:=q1;subst e1;obtain⟨u1,u2,rfl,rv,rw'⟩:∃u1 u2,us=[u1,u2]/\RelV v u1/\RelV w u2:=by
  cases r1 with
  | cons p q=>
   cases q with
   | cons p' q'=>
    cases q';exact⟨_,_,rfl,p,p'⟩
 refine jl9 ?_ (by show 2<=sizeLine;decide);have I2:Inv X pins Z H1 { s1 with heap:=s1.heap.push { cls:=.type "tuple",data:=.seq [u1,u2].toArray } }:=I1.kept (t':=s1.toks) fun b o e=>qf _ e;rw[hw];refine qc (xp ?_);show wpAny (model X.prog X.w) X.A (do rule "assign.swapped-stores";let items <-unpackItems (.ref s1.heap.objs.size) 2 none;assignInOrder [fun v=>bindName X.env y v,fun v=>bindName X.env x v] items.reverse;pure Flow.next) _ _ _
 refine qc (wpAny_rule (qc (unpackItems_tuple (items:= #[u1,u2]) (I.ok.hd hc) (IsTup.new s1.heap _) fun h' hx'=>?_)));have I3:=I2.kept (h':=h') (t':=s1.toks) fun b o e=>hx' b o (vx (xb e)) e;show wpAny _ _ (assignInOrder [fun v=>bindName X.env y v,fun v=>bindName X.env x v] [u2,u1] >>= fun _=>pure Flow.next) _ _ _
 refine qc (assignInOrder_cons (wpAny_bindName (Ml I3 hN hj (.inl hy) rw' (fun s2 I4=>?_) (.inr hy))));refine assignInOrder_cons (wpAny_bindName (Ml I4 hN hi (.inl hx) rv (fun s3 I5=>assignInOrder_nil (xp ?_)) (.inr hx)));rw[List.set_comm _ _ (Ne.symm hij)] at I5;exact⟨_,H1,I5,q1⟩
end
section
variable{X:Cx}{pos:Pos}
noncomputable def yd(c:TT)(tb:TS):TS:=fun D Z H=>∃W:Nat->St->Hp->Prop,(∃m,W m Z H)/\∀m Z H,W m Z H->
 c Z H fun b H1=>if b=true then ∃N:St->Hp->Prop,(∀Z' H',N Z' H'->∃m',m'<m/\W m' Z' H')/\tb { D with nx:=N,ct:=N,bk:=D.nx } Z H1 else D.nx Z H1
theorem HH{c:Expr}{body:List Stmt}{tc:TT}{tb:TS}(hp:PassesOwn (model X.prog X.w) X.A X.env X.xe)(hc:PT X c tc)(hb:PSs X body tb):PS X (.While c body [] pos) (yd tc tb):=by
 intro pins s Z H D I h;obtain⟨W,⟨m0,w0⟩,turn⟩:=h;refine wpAny_While (codeAny_whileLoop (fun n s'=>∃Z' H',Inv X pins Z' H' s'/\W n Z' H') ?_ m0 ⟨Z,H,I,w0⟩);rintro n s1 ⟨σ1,H1,I1,w1⟩;refine jg5 hp (thn (hc s1 σ1 H1 _ I1 (turn n σ1 H1 w1)) fun b s2 hZ=>?_);obtain⟨H2,I2,q2⟩:=hZ;cases b with
 | true=>
  obtain⟨N,hN,q2⟩:=q2;rw[ya rfl];refine jg5 hp (thn (hb s2 σ1 H2 _ I2 q2) fun f s3 q3=>?_);cases f with
  | next=>
   obtain⟨σ3,H3,I3,n3⟩:=q3;obtain⟨m',hm,w3⟩:=hN σ3 H3 n3;exact⟨m',hm,σ3,H3,I3,w3⟩
  | cont=>
   obtain⟨σ3,H3,I3,n3⟩:=q3;obtain⟨m',hm,w3⟩:=hN σ3 H3 n3;exact⟨m',hm,σ3,H3,I3,w3⟩
  | brk=>exact q3
  | ret v=>exact q3
 | false=>
  rw[ua zk];exact wpAny_execs_nil ⟨σ1,H2,I2,q2⟩
end
structure It where
 go:Nat->Hp->Prop
 yld:Nat->Hp->V->Hp->Prop
 stop:Nat->Hp->Prop
noncomputable def Ju(X:Cx)(pins:List (Addr×Obj))(H:Hp)(b:Addr):Prop:=
 H b=none/\b≠X.env.locals/\b∉X.fs/\(b∈X.ex\/X.s₀.heap.objs.size<=b)/\(∀x c,X.env.cells.lookup x=some c->c≠b)/\∀p∈X.pn++pins,p.1≠b
theorem Inv.fpOk{X:Cx}{H':Hp}{s:Shared}{b:Addr}(I:Inv X pins Z H s)(hb:s.heap.objs.size<=b)(hn:H' b=none):Ju X pins H' b:=by
 refine⟨hn,Nat.ne_of_gt (xh I.lt hb),I.nofs hb,.inr (zw I.sz hb),fun x c e z=>?_,fun p hp z=>?_⟩
 ·obtain⟨v,q⟩:=I.cell x c e;exact absurd (xh q.lt (by rw[z];exact hb)) (jf6 _)
 ·exact absurd (xh (xb (I.pin p hp).1) (by rw[z];exact hb)) (jf6 _)
structure Turn(P:Program)(w:World)(K:Fr)(tg:Expr)(J:It)(fp:List Addr)(it:Addr)(tn:Nat->Heap->Prop):Prop where
 mem:it∈fp
 obj:∀i h,tn i h->∀b∈fp,∃o,h.get? b=some o/\∀v,o.data≠.cell v
 keep:∀i h h',tn i h->(∀b∈fp,∀o,h.get? b=some o->h'.get? b=some o)->tn i h'
 item:∀(X:Cx),X.prog=P->X.w=w->X.K=K->X.calm=true->∀(i:Nat) (pins:List (Addr×Obj)) (s:Shared) (Z:St) (H:Hp) (E:Value->Shared->Prop),Inv X pins Z H s->(∀b∈fp,Ju X pins H b)->tn i s.heap->J.go i H->
  wpAny (model P w) X.A (pyNext (.ref it)) (fun r s1=>∃u,r=some u/\
   wpAny (model P w) X.A (letOwnedTupleGo tg (.ref it) u) (fun _ s2=>∃x H',Inv X pins Z H' s2/\RelV x u/\J.yld i H x H'/\tn (i+1) s2.heap/\∀b∈fp,H' b=none) E s1) E s
 done:∀(X:Cx),X.prog=P->X.w=w->X.K=K->X.calm=true->∀(i:Nat) (pins:List (Addr×Obj)) (s:Shared) (Z:St) (H:Hp) (E:Value->Shared->Prop),Inv X pins Z H s->(∀b∈fp,Ju X pins H b)->tn i s.heap->J.stop i H->
  wpAny (model P w) X.A (pyNext (.ref it)) (fun r s1=>r=none/\Inv X pins Z H s1) E s
 self:∀(A:Around) (i:Nat) (s:Shared) (Q:Value->Shared->Prop) (E:Value->Shared->Prop),tn i s.heap->Q (.ref it) s->wpAny (model P w) A (pyIter (.ref it)) Q E s
noncomputable abbrev TI:=St->Hp->(It->Hp->Prop)->Prop
noncomputable def PIE(X:Cx)(pins:List (Addr×Obj))(Z:St)(tg:Expr)(R:It->Hp->Prop)(itv:Value)(s2:Shared):Prop:=
 ∃(it:Addr) (fp:List Addr) (tn:Nat->Heap->Prop) (J:It) (H':Hp),itv=.ref it/\Inv X pins Z H' s2/\Turn X.prog X.w X.K tg J fp it tn/\tn 0 s2.heap/\(∀b∈fp,Ju X pins H' b)/\R J H'
noncomputable def PI(X:Cx)(tg iter:Expr)(wi:TI):Prop:=
 ∀ ⦃pins:List (Addr×Obj)⦄ (s:Shared) (Z:St) (H:Hp) (R:It->Hp->Prop),Inv X pins Z H s->wi Z H R->
  wpAny (model X.prog X.w) X.A (eval iter X.env) (fun v s1=>wpAny (model X.prog X.w) X.A (pyIter v) (PIE X pins Z tg R) X.xe s1) X.xe s
theorem Z9{M:Model}{E:Value->Shared->Prop}{s:Shared}{tg:Expr}{it:Addr}{o:Obj}{n:String}{vs:Array Value}{Q:Unit->Shared->Prop}(ho:s.heap.get? it=some o)(hc:o.cls=.type n)(hd:o.data=.fields vs)
 (hn:["enumerate","zip","dict_itemiterator","dict_reverseitemiterator","odict_iterator","itertools.zip_longest","itertools.pairwise"].contains n=false)(hQ:Q () s):wpAny M A (letOwnedTupleGo tg (.ref it) u) Q E s:=by
 unfold letOwnedTupleGo;cases tg<;>first
  | exact xp hQ
  | (cases u<;>first
   | exact xp hQ
   | (refine qc (wpAny_load ho ?_)
      rw[hc,hd];show wpAny M A (if (["enumerate","zip","dict_itemiterator","dict_reverseitemiterator","odict_iterator","itertools.zip_longest","itertools.pairwise"].contains n&&vs[0]?==some (rawInt _))=true then _ else _) Q E s;rw[ua (by intro h;rw[hn,Bool.false_and] at h;cases h)];exact xp hQ))
noncomputable def Itl(K:Fr)(a:Addr):It:=
 ⟨fun i H=>∃xs x,SqL K H a xs/\xs[i]?=some x,fun i H x H'=>H'=H/\∀xs,SqL K H a xs->xs[i]?=some x,fun i H=>∃xs,SqL K H a xs/\xs.length<=i⟩
noncomputable def Itt(K:Fr)(a:Addr):It:=
 ⟨fun i H=>∃xs x,SqT K H a xs/\xs[i]?=some x,fun i H x H'=>H'=H/\∀xs,SqT K H a xs->xs[i]?=some x,fun i H=>∃xs,SqT K H a xs/\xs.length<=i⟩
noncomputable def Itr(lo:Int)(n:Nat):It:=⟨fun i _=>i<n,fun i H x H'=>H'=H/\x=.int (lo+i),fun i _=>n<=i⟩
theorem jH{P:Program}{w:World}{tg:Expr}(a it:Addr):Turn P w K tg (Itl K a) [it] it (fun i h=>h.IsListIter it a i) where
 mem:=by simp
 obj:=fun i h st b hb=>by
  have e:b=it:=by simpa using hb
  subst e;obtain⟨o,e,c,d⟩:=st;exact⟨o,e,fun v z=>by rw[d] at z;cases z⟩
 keep:=fun i h h' st k=>st.at fun o e=>k it (by simp) o e
 item:=by
  intro X hP hw hK hc i pins s Z H E I hf st hg;subst hP hw hK;obtain⟨xs,x,hq,hx⟩:=hg;obtain⟨its,rv,p,hz⟩:=I.list hq;obtain⟨u,hu,ru⟩:=rv.get hx;obtain⟨f0,f1,f2,f3,f4,f5⟩:=hf it (by simp);refine wpAny_pyNext_list_item st p.isList (x:=u) (by simpa using hu) fun h' st' sb=>?_;have I1:Inv X pins Z H { s with heap:=h' }:=I.turned (t':=s.toks) (fun b o hb e=>(sb.2 b hb).trans e) f0 f1 f3 f4 f5;obtain⟨o,e,c,d⟩:=id st';exact⟨u,rfl,Z9 (s:={ s with heap:=h' }) e c d (by decide) ⟨x,H,I1,ru,⟨rfl,fun ys hy=>by rw[I.list_inj hy hq];exact hx⟩,st',fun b hb=>(hf b hb).1⟩⟩
 done:=by
  intro X hP hw hK hc i pins s Z H E I hf st hg;subst hP hw hK;obtain⟨xs,hq,hx⟩:=hg;obtain⟨its,rv,p,hz⟩:=I.list hq;obtain⟨f0,f1,f2,f3,f4,f5⟩:=hf it (by simp);have hl:=rv.length;exact wpAny_pyNext_list_end (I.ok.hd hc) st p.isList (by simp;lia) fun h' eb=>⟨rfl,I.turned (t':=s.toks) (fun b o hb e=>eb b o hb e) f0 f1 f3 f4 f5⟩
 self:=fun _ _ _ _ _ st h=>wpAny_pyIter_listiter st h
theorem bO{P:Program}{w:World}{tg:Expr}(a it:Addr):Turn P w K tg (Itt K a) [it] it (fun i h=>h.IsTupleIter it a i) where
 mem:=by simp
 obj:=fun i h st b hb=>by
  have e:b=it:=by simpa using hb
  subst e;obtain⟨o,e,c,d⟩:=st;exact⟨o,e,fun v z=>by rw[d] at z;cases z⟩
 keep:=fun i h h' st k=>st.at fun o e=>k it (by simp) o e
 item:=by
  intro X hP hw hK hc i pins s Z H E I hf st hg;subst hP hw hK;obtain⟨xs,x,hq,hx⟩:=hg;obtain⟨its,rv,p,hz⟩:=I.tuple hq;obtain⟨u,hu,ru⟩:=rv.get hx;obtain⟨f0,f1,f2,f3,f4,f5⟩:=hf it (by simp);refine wpAny_pyNext_tuple_item st (show s.heap.IsTuple a its.toArray from p) (x:=u) (by simpa using hu) fun h' st' sb=>?_;have I1:Inv X pins Z H { s with heap:=h' }:=I.turned (t':=s.toks) (fun b o hb e=>(sb.2 b hb).trans e) f0 f1 f3 f4 f5;obtain⟨o,e,c,d⟩:=id st';exact⟨u,rfl,Z9 (s:={ s with heap:=h' }) e c d (by decide) ⟨x,H,I1,ru,⟨rfl,fun ys hy=>by rw[I.tuple_inj hy hq];exact hx⟩,st',fun b hb=>(hf b hb).1⟩⟩
 done:=by
  intro X hP hw hK hc i pins s Z H E I hf st hg;subst hP hw hK;obtain⟨xs,hq,hx⟩:=hg;obtain⟨its,rv,p,hz⟩:=I.tuple hq;obtain⟨f0,f1,f2,f3,f4,f5⟩:=hf it (by simp);have hl:=rv.length;exact wpAny_pyNext_tuple_end (I.ok.hd hc) st (show s.heap.IsTuple a its.toArray from p) (by simp;lia) fun h' eb=>⟨rfl,I.turned (t':=s.toks) (fun b o hb e=>eb b o hb e) f0 f1 f3 f4 f5⟩
 self:=fun _ _ _ _ _ st h=>wpAny_pyIter_tupleiter st h
theorem bQ{P:Program}{w:World}{tg:Expr}(it:Addr)(lo:Int)(n:Nat):Turn P w K tg (Itr lo n) [it] it (fun i h=>IsRangeIter h it (lo+(i:Nat)*1) ((n:Int)-(i:Nat)) 1) where
 mem:=by simp
 obj:=fun i h st b hb=>by
  have e:b=it:=by simpa using hb
  subst e;exact⟨_,st,fun v z=>by
   have z':Data.fields _=Data.cell v:=z;cases z'⟩
 keep:=fun i h h' st k=>k it (by simp) _ st
 item:=by
  intro X hP hw hK hc i pins s Z H E I hf st hg;subst hP hw hK;obtain⟨f0,f1,f2,f3,f4,f5⟩:=hf it (by simp);have W:=Walks.range (prog:=X.prog) (w:=X.w) (I.ok.hd hc) it lo 1 n;refine W.item i s _ _ hg st fun v h' tk hv st' kk=>?_;obtain⟨t,rfl⟩:=hv;have I1:Inv X pins Z H { s with heap:=h',toks:=tk }:=I.turned (fun b o hb e=>kk b o (by simpa using hb) e) f0 f1 f3 f4 f5;refine⟨_,rfl,Z9 (s:={ s with heap:=h',toks:=tk }) (n:="range_iterator") st' rfl rfl (by decide) ⟨.int (lo+i),H,I1,⟨t,?_⟩,⟨rfl,rfl⟩,st',fun b hb=>(hf b hb).1⟩⟩;rw[jc1]
 done:=by
  intro X hP hw hK hc i pins s Z H E I hf st hg;subst hP hw hK;obtain⟨f0,f1,f2,f3,f4,f5⟩:=hf it (by simp);exact wpAny_pyNext_range_end (I.ok.hd hc) st (by have:n<=i:=hg;lia) fun h' eb=>⟨rfl,I.turned (t':=s.toks) (fun b o hb e=>eb b o hb e) f0 f1 f3 f4 f5⟩
 self:=fun _ _ _ _ _ st h=>wpAny_pyIter_rangeiter st h
section
variable{X:Cx}{tg:Expr}
noncomputable def yM(K:Fr)(tl:TE):TI:=fun Z H R=>tl Z H fun x H1=>∃a,x=.ref a/\(∃xs,SqL K H1 a xs)/\R (Itl K a) H1
noncomputable def vy(K:Fr)(tl:TE):TI:=fun Z H R=>tl Z H fun x H1=>∃a,x=.ref a/\(∃xs,SqT K H1 a xs)/\R (Itt K a) H1
theorem Fe{l:Expr}{tl:TE}(hl:PE X l tl):PI X tg l (yM X.K tl):=by
 intro pins s Z H R I h;refine thn (hl s Z H _ I h) fun v s1 hZ=>?_;obtain⟨x,H1,I1,r1,q1⟩:=hZ;obtain⟨a,e,⟨xs,hq⟩,q⟩:=q1;subst e;cases r1;obtain⟨its,rv,p,hz⟩:=I1.list hq;refine jm0 p.isList ?_;refine⟨s1.heap.objs.size,[s1.heap.objs.size],_,_,H1,rfl,I1.kept (t':=s1.toks) fun b o e=>qf _ e,jH a _,⟨_,xa _ rfl,rfl,rfl⟩,fun b hb=>?_,q⟩;have e:b=s1.heap.objs.size:=by simpa using hb
 subst e;exact I1.fpOk (qq _) (I1.hok.fresh (qq _))
theorem Th{l:Expr}{tl:TE}(hl:PE X l tl):PI X tg l (vy X.K tl):=by
 intro pins s Z H R I h;refine thn (hl s Z H _ I h) fun v s1 hZ=>?_;obtain⟨x,H1,I1,r1,q1⟩:=hZ;obtain⟨a,e,⟨xs,hq⟩,q⟩:=q1;subst e;cases r1;obtain⟨its,rv,p,hz⟩:=I1.tuple hq;refine wpAny_pyIter_tuple (show s1.heap.IsTuple a its.toArray from p) ?_;refine⟨s1.heap.objs.size,[s1.heap.objs.size],_,_,H1,rfl,I1.kept (t':=s1.toks) fun b o e=>qf _ e,bO a _,⟨_,xa _ rfl,rfl,rfl⟩,fun b hb=>?_,q⟩;have e:b=s1.heap.objs.size:=by simpa using hb
 subst e;exact I1.fpOk (qq _) (I1.hok.fresh (qq _))
theorem pC{s:Shared}{R:It->Hp->Prop}{E:Value->Shared->Prop}{lo hi:Int}{t u v:Tok}{tk:Nat}(I:Inv X pins Z H s)(h1: -(2^62)<=lo)(h2:lo<2^62)(h3: -(2^62)<=hi)(h4:hi<2^62)
 (q:R (Itr lo (hi-lo).toNat) H):wpAny (model X.prog X.w) X.A (pyIter (.ref s.heap.objs.size)) (PIE X pins Z tg R) E { s with heap:=s.heap.push { cls:=.type "range",data:=.fields #[.int lo t,.int hi u,.int 1 v] },toks:=tk }:=by
 refine wpAny_pyIter_range (IsRange.new ..) (small_one h1 h2 h3 h4) ?_;have I1:Inv X pins Z H { s with heap:=s.heap.push { cls:=.type "range",data:=.fields #[.int lo t,.int hi u,.int 1 v] },toks:=tk }:=I.kept fun b o e=>qf _ e;refine⟨(s.heap.push { cls:=.type "range",data:=.fields #[.int lo t,.int hi u,.int 1 v] }).objs.size,[(s.heap.push { cls:=.type "range",data:=.fields #[.int lo t,.int hi u,.int 1 v] }).objs.size],_,_,H,rfl,
  I1.kept (t':=tk) fun b o e=>qf _ e,bQ _ lo (hi-lo).toNat,?_,fun b hb=>?_,q⟩
 ·have e1:lo+((0:Nat):Int)*1=lo:=by simp
  have e2:(((hi-lo).toNat:Nat):Int)-((0:Nat):Int)=Builtin.Range.rangeSize lo hi 1:=by rw[rangeSize_one];split<;>lia
  show IsRangeIter _ _ (lo+((0:Nat):Int)*1) ((((hi-lo).toNat:Nat):Int)-((0:Nat):Int)) 1;rw[e1,e2];exact xa _ rfl
 ·have e:b=(s.heap.push { cls:=.type "range",data:=.fields #[.int lo t,.int hi u,.int 1 v] }).objs.size:=by simpa using hb
  subst e;exact I1.fpOk (qq _) (I1.hok.fresh (qq _))
noncomputable def yL(ta:TA):TI:=fun Z H R=>ta Z H fun vs H1=>∃j:Int,vs=[.int j]/\ -(2^62)<=j/\j<2^62/\R (Itr 0 j.toNat) H1
noncomputable def ADK(ta:TA):TI:=fun Z H R=>ta Z H fun vs H1=>∃i j:Int,vs=[.int i,.int j]/\(-(2^62)<=i/\i<2^62/\ -(2^62)<=j/\j<2^62)/\R (Itr i (j-i).toNat) H1
theorem O1{a:Expr}{ta:TA}{p:Pos}(hg:Gl X "range")(hm:X.mg "range"=none)(ha:PA X [a] ta)(hs:‹starEach [a] X.env=[(false,eval a X.env)]›):PI X tg (.Call (.Name "range" p) [a] [] pos) (yL ta):=by
 intro pins s Z H R I h;refine Call_ (Iu I hg hm boot_range (ko (thn (ha (pos:=pos) pins s Z H _ I h) fun us s1 hZ=>?_) hs rfl));obtain⟨vs,H1,I1,r1,q1⟩:=hZ;obtain⟨j,e,q1,q2,q⟩:=q1;subst e;cases r1 with
 | cons r rr=>
  cases rr;obtain⟨t,rfl⟩:=r;exact call_range_1 (pC I1 (by lia) (by lia) q1 q2 (by simpa using q))
noncomputable def ABs(wi:TI)(g:TG)(tb:TS):TS:=fun D Z H=>wi Z H fun J H1=>∃W:Nat->Nat->St->Hp->Prop,(∃m,W 0 m Z H1)/\∀i m Z H,W i m Z H->
 (J.stop i H/\D.nx Z H)\/(J.go i H/\∃N:St->Hp->Prop,(∀Z' H',N Z' H'->∃m',m'<m/\W (i+1) m' Z' H')/\∀x H',J.yld i H x H'->g x Z H' fun σ2 H2=>tb { D with nx:=N,ct:=N,bk:=D.nx } σ2 H2)
noncomputable def Tf(fp:List Addr)(h:Heap):List (Addr×Obj):=fp.filterMap fun b=>(h.get? b).map fun o=>(b,o)
theorem Je{fp:List Addr}{h:Heap}{b:Addr}{o:Obj}(hb:b∈fp)(e:h.get? b=some o):(b,o)∈Tf fp h:=List.mem_filterMap.mpr ⟨b,hb,by rw[e];rfl⟩
theorem jr{fp:List Addr}{h:Heap}{p:Addr×Obj}(hp:p∈Tf fp h):p.1∈fp/\h.get? p.1=some p.2:=by
 obtain⟨b,hb,e⟩:=List.mem_filterMap.mp hp;cases q:h.get? b with
 | none=>rw[q] at e;cases e
 | some o=>
  rw[q] at e;have e':(b,o)=p:=yv e;subst e';exact⟨hb,q⟩
theorem Inv.pinned{s:Shared}{fp:List Addr}(I:Inv X pins Z H s)(hf:∀b∈fp,Ju X pins H b)(ho:∀b∈fp,∃o,s.heap.get? b=some o/\∀v,o.data≠.cell v):Inv X (pins++Tf fp s.heap) Z H s:=
 I.pins_of fun p hp=>(ku.mp hp).elim (fun z=>I.pin p (vi _ z)) fun z=>by
  obtain⟨hb,e⟩:=jr z;obtain⟨f0,f1,f2,_⟩:=hf p.1 hb;obtain⟨o,e',d⟩:=ho p.1 hb;rw[e] at e';cases e';exact⟨e,f0,f1,f2,d⟩
theorem Inv.unpinned{pl:List (Addr×Obj)}{s:Shared}(I:Inv X (pins++pl) Z H s):Inv X pins Z H s:=I.pins_of fun p hp=>I.pin p (vi _ (jj4 _ hp))
theorem Ir{iter:Expr}{body:List Stmt}{wi:TI}{g:TG}{tb:TS}(hp:PassesOwn (model X.prog X.w) X.A X.env X.xe)(hc:X.calm=true)(hi:PI X tg iter wi)(hg:PG X tg g)(hb:PSs X body tb)
 (hs:∀x,foldedSetIterable iter X.env x=pure x:=by intro _;rfl):PS X (.For tg iter body [] pos) (ABs wi g tb):=by
 intro pins s Z H D I h;refine wpAny_For (thn (hi s Z H _ I h) fun v s1 h1=>thn h1 fun itv s2 h2=>?_) hs;obtain⟨it,fp,tn,J,H2,e,I2,T,st2,f2,W,⟨m0,w0⟩,turn⟩:=h2;subst e;have stat:∀{H':Hp},(∀b∈fp,H' b=none)->∀b∈fp,Ju X pins H' b:=fun hn b hb=>⟨hn b hb,(f2 b hb).2⟩;refine codeAny_forLoop_any (fun n s'=>∃i Z' H',Inv X pins Z' H' s'/\tn i s'.heap/\(∀b∈fp,H' b=none)/\W i n Z' H') ?_ m0 ⟨0,Z,H2,I2,st2,fun b hb=>(f2 b hb).1,w0⟩;rintro n s3 ⟨i,σ3,H3,I3,st3,fr3,w3⟩;rcases turn i n σ3 H3 w3 with ⟨stop,qn⟩ | ⟨go,N,hN,step⟩
 ·refine jg5 hp (thn (T.done X rfl rfl rfl hc i pins s3 σ3 H3 X.xe I3 (stat fr3) st3 stop) fun r s4 ⟨hr,I4⟩=>?_);subst hr;exact wpAny_execs_nil ⟨σ3,H3,I4,qn⟩
 ·refine jg5 hp (thn (T.item X rfl rfl rfl hc i pins s3 σ3 H3 X.xe I3 (stat fr3) st3 go) fun r s4 ⟨u,hr,h4⟩=>?_);subst hr;refine jg5 hp (thn h4 fun _ s5 hZ=>?_);obtain⟨x,H5,I5,r5,y5,st5,fr5⟩:=hZ;have I5':=I5.pinned (stat fr5) (T.obj _ _ st5);refine jg5 hp (thn (hg s5 σ3 H5 x u _ I5' r5 (step x H5 y5)) fun _ s6 hZ=>?_);obtain⟨σ6,H6,I6,q6⟩:=hZ;refine jg5 hp (thn (hb s6 σ6 H6 _ I6 q6) fun f s7 q7=>?_);have again:∀{σ7:St} {H7:Hp},Inv X (pins++Tf fp s5.heap) σ7 H7 s7->N σ7 H7->∃m,m<n/\∃i Z' H',Inv X pins Z' H' s7/\tn i s7.heap/\(∀b∈fp,H' b=none)/\W i m Z' H':=fun{σ7 H7} I7 n7=>by
   obtain⟨m',hm,w7⟩:=hN σ7 H7 n7;refine⟨m',hm,i+1,σ7,H7,I7.unpinned,T.keep _ _ _ st5 fun b hb o e=>(I7.pin (b,o) (vi _ (vi _ (Je hb e)))).1,fun b hb=>?_,w7⟩;obtain⟨o,e,d⟩:=T.obj _ _ st5 b hb;exact(I7.pin (b,o) (vi _ (vi _ (Je hb e)))).2.1
  cases f with
  | next=>obtain⟨σ7,H7,I7,n7⟩:=q7;exact again I7 n7
  | cont=>obtain⟨σ7,H7,I7,n7⟩:=q7;exact again I7 n7
  | brk=>obtain⟨σ7,H7,I7,q7⟩:=q7;exact⟨σ7,H7,I7.unpinned,q7⟩
  | ret v=>obtain⟨x7,σ7,H7,I7,r7,q7⟩:=q7;exact⟨x7,σ7,H7,I7.unpinned,r7,q7⟩
end
theorem JM{xs:List V}{g:TG}{tb:TS}{D:Ends}(Pv:Nat->St->Hp->Prop)(h0:Pv 0 Z H)(hl:∀i Z H,i<=xs.length->Pv i Z H->SqL K H a xs)
 (hs:∀i x Z H,xs[i]?=some x->Pv i Z H->g x Z H fun σ2 H2=>tb { D with nx:=Pv (i+1),ct:=Pv (i+1),bk:=D.nx } σ2 H2)(hd:∀Z H,Pv xs.length Z H->D.nx Z H):
 ∃W:Nat->Nat->St->Hp->Prop,(∃m,W 0 m Z H)/\∀i m Z H,W i m Z H->
  ((Itl K a).stop i H/\D.nx Z H)\/((Itl K a).go i H/\∃N:St->Hp->Prop,(∀Z' H',N Z' H'->∃m',m'<m/\W (i+1) m' Z' H')/\∀x H',(Itl K a).yld i H x H'->g x Z H' fun σ2 H2=>tb { D with nx:=N,ct:=N,bk:=D.nx } σ2 H2):=by
 refine⟨fun i m Z H=>m=xs.length-i/\i<=xs.length/\Pv i Z H,⟨xs.length,by simp,vj _,h0⟩,?_⟩;rintro i m Z H ⟨rfl,hi,p⟩;have q:=hl i Z H hi p;by_cases hlt:i<xs.length
 ·refine .inr ⟨⟨xs,xs[i],q,by simp[hlt]⟩,Pv (i+1),fun Z' H' p'=>⟨xs.length-(i+1),by lia,rfl,hlt,p'⟩,fun x H' y=>?_⟩;obtain⟨e,y⟩:=y;subst e;exact hs i x Z _ (y xs q) p
 ·have e:i=xs.length:=by lia
  subst e;exact .inl ⟨⟨xs,q,qq _⟩,hd Z H p⟩
theorem wB{xs:List V}{g:TG}{tb:TS}{D:Ends}(Pv:Nat->St->Hp->Prop)(h0:Pv 0 Z H)(hl:∀i Z H,i<=xs.length->Pv i Z H->SqT K H a xs)
 (hs:∀i x Z H,xs[i]?=some x->Pv i Z H->g x Z H fun σ2 H2=>tb { D with nx:=Pv (i+1),ct:=Pv (i+1),bk:=D.nx } σ2 H2)(hd:∀Z H,Pv xs.length Z H->D.nx Z H):
 ∃W:Nat->Nat->St->Hp->Prop,(∃m,W 0 m Z H)/\∀i m Z H,W i m Z H->
  ((Itt K a).stop i H/\D.nx Z H)\/((Itt K a).go i H/\∃N:St->Hp->Prop,(∀Z' H',N Z' H'->∃m',m'<m/\W (i+1) m' Z' H')/\∀x H',(Itt K a).yld i H x H'->g x Z H' fun σ2 H2=>tb { D with nx:=N,ct:=N,bk:=D.nx } σ2 H2):=by
 refine⟨fun i m Z H=>m=xs.length-i/\i<=xs.length/\Pv i Z H,⟨xs.length,by simp,vj _,h0⟩,?_⟩;rintro i m Z H ⟨rfl,hi,p⟩;have q:=hl i Z H hi p;by_cases hlt:i<xs.length
 ·refine .inr ⟨⟨xs,xs[i],q,by simp[hlt]⟩,Pv (i+1),fun Z' H' p'=>⟨xs.length-(i+1),by lia,rfl,hlt,p'⟩,fun x H' y=>?_⟩;obtain⟨e,y⟩:=y;subst e;exact hs i x Z _ (y xs q) p
 ·have e:i=xs.length:=by lia
  subst e;exact .inl ⟨⟨xs,q,qq _⟩,hd Z H p⟩
theorem lA{lo:Int}{n:Nat}{g:TG}{tb:TS}{D:Ends}(Pv:Nat->St->Hp->Prop)(h0:Pv 0 Z H)
 (hs:∀i Z H,i<n->Pv i Z H->g (.int (lo+i)) Z H fun σ2 H2=>tb { D with nx:=Pv (i+1),ct:=Pv (i+1),bk:=D.nx } σ2 H2)(hd:∀Z H,Pv n Z H->D.nx Z H):
 ∃W:Nat->Nat->St->Hp->Prop,(∃m,W 0 m Z H)/\∀i m Z H,W i m Z H->
  ((Itr lo n).stop i H/\D.nx Z H)\/((Itr lo n).go i H/\∃N:St->Hp->Prop,(∀Z' H',N Z' H'->∃m',m'<m/\W (i+1) m' Z' H')/\∀x H',(Itr lo n).yld i H x H'->g x Z H' fun σ2 H2=>tb { D with nx:=N,ct:=N,bk:=D.nx } σ2 H2):=by
 refine⟨fun i m Z H=>m=n-i/\i<=n/\Pv i Z H,⟨n,by simp,vj _,h0⟩,?_⟩;rintro i m Z H ⟨rfl,hi,p⟩;by_cases hlt:i<n
 ·refine .inr ⟨hlt,Pv (i+1),fun Z' H' p'=>⟨n-(i+1),by lia,rfl,hlt,p'⟩,fun x H' y=>?_⟩;obtain⟨e,y⟩:=y;subst e y;exact hs i Z _ hlt p
 ·have e:i=n:=by lia
  subst e;exact .inl ⟨qq _,hd Z H p⟩
noncomputable abbrev R2:=V->V->Hp->VK->Prop
noncomputable def OpR(X:Cx)(f:Value->Value->Sem Value)(r:R2):Prop:=
 ∀(pins:List (Addr×Obj)) (s:Shared) (Z:St) (H:Hp) (x y:V) (v u:Value) (Q:VK),Inv X pins Z H s->RelV x v->RelV y u->r x y H Q->
  wpAny (model X.prog X.w) X.A (f v u) (EP X pins Z Q) X.xe s
noncomputable def UnR(X:Cx)(f:Value->Sem Value)(r:V->Hp->VK->Prop):Prop:=
 ∀(pins:List (Addr×Obj)) (s:Shared) (Z:St) (H:Hp) (x:V) (v:Value) (Q:VK),Inv X pins Z H s->RelV x v->r x H Q->
  wpAny (model X.prog X.w) X.A (f v) (EP X pins Z Q) X.xe s
noncomputable def Hq(X:Cx)(f:Value)(r:List V->Hp->VK->Prop):Prop:=
 ∀(pins:List (Addr×Obj)) (s:Shared) (Z:St) (H:Hp) (xs:List V) (us:List Value) (Q:VK),Inv X pins Z H s->Vals xs us->r xs H Q->
  wpAny (model X.prog X.w) X.A (call f us) (EP X pins Z Q) X.xe s
noncomputable def AEW(X:Cx)(r:V->Hp->(Bool->Hp->Prop)->Prop):Prop:=
 ∀(pins:List (Addr×Obj)) (s:Shared) (Z:St) (H:Hp) (x:V) (v:Value) (Q:Bool->Hp->Prop),Inv X pins Z H s->RelV x v->r x H Q->
  wpAny (model X.prog X.w) X.A (truthy v) (TP X pins Z Q) X.xe s
noncomputable def tOp(r:R2)(ta tb:TE):TE:=fun Z H Q=>ta Z H fun x H1=>tb Z H1 fun y H2=>r x y H2 Q
noncomputable def tUn(r:V->Hp->VK->Prop)(ta:TE):TE:=fun Z H Q=>ta Z H fun x H1=>r x H1 Q
noncomputable def rI(C:Int->Int->Prop)(g:Int->Int->V):R2:=fun x y H Q=>∃i j,x=.int i/\y=.int j/\C i j/\Q (g i j) H
noncomputable def rI0(g:Int->Int->V):R2:=fun x y H Q=>∃i j,x=.int i/\y=.int j/\Q (g i j) H
noncomputable def rU(g:Int->V):V->Hp->VK->Prop:=fun x H Q=>∃i,x=.int i/\Q (g i) H
section
variable{X:Cx}{a b c:Expr}{ta tb tc:TE}{pos:Pos}
theorem ABT(ha:PE X a ta)(hb:PE X b tb){pins:List (Addr×Obj)}{s:Shared}{Z:St}{H:Hp}{R:V->V->Hp->Prop}(I:Inv X pins Z H s)
 (h:ta Z H fun x H1=>tb Z H1 fun y H2=>R x y H2){Q:Value->Shared->Prop}{f:Value->Value->Sem Value}
 (hf:∀v u s2 x y H2,Inv X pins Z H2 s2->RelV x v->RelV y u->R x y H2->wpAny (model X.prog X.w) X.A (f v u) Q X.xe s2):
 wpAny (model X.prog X.w) X.A (eval a X.env) (fun v s₁=>wpAny (model X.prog X.w) X.A (eval b X.env) (fun u s₂=>wpAny (model X.prog X.w) X.A (f v u) Q X.xe s₂) X.xe s₁) X.xe s:=by
 refine thn (ha s Z H _ I h) fun v s1 hZ=>?_;obtain⟨x,H1,I1,r1,q1⟩:=hZ;refine thn (hb s1 Z H1 _ I1 q1) fun u s2 hZ=>?_;obtain⟨y,H2,I2,r2,q2⟩:=hZ;exact hf v u s2 x y H2 I2 r1 r2 q2
theorem Af{op:Operator}{r:R2}(ho:OpR X (binaryOp op) r)(ha:PE X a ta)(hb:PE X b tb):PE X (.BinOp a op b pos) (tOp r ta tb):=by
 intro pins s Z H Q I h;exact wpAny_BinOp (ABT ha hb I h fun v u s2 x y H2 I2 rx ry q=>ho pins s2 Z H2 x y v u Q I2 rx ry q)
theorem GZ{op:UnaryOp}{r:V->Hp->VK->Prop}(ho:UnR X (unaryOp op) r)(ha:PE X a ta):PE X (.UnaryOp op a pos) (tUn r ta):=by
 intro pins s Z H Q I h;exact UnaryOp_ (thn (ha s Z H _ I h) fun v s1 ⟨x,H1,I1,r1,q1⟩=>ho pins s1 Z H1 x v Q I1 r1 q1)
theorem opI{f:Value->Value->Sem Value}{C:Int->Int->Prop}{g:Int->Int->Int}
 (rule:∀(i j:Int) (t u:Tok) (s:Shared) (Q:Value->Shared->Prop) (E:Value->Shared->Prop),C i j->Q (.int (g i j) s.toks) { s with toks:=s.toks+1 }->wpAny (model X.prog X.w) X.A (f (.int i t) (.int j u)) Q E s):
 OpR X f (rI C fun i j=>.int (g i j)):=by
 intro pins s Z H x y v u Q I rx ry h;obtain⟨i,j,rfl,rfl,hc,q⟩:=h;obtain⟨t,rfl⟩:=rx;obtain⟨t',rfl⟩:=ry;exact rule i j t t' s _ _ hc ⟨.int (g i j),H,I.tok _,⟨_,rfl⟩,q⟩
theorem pY{f:Value->Value->Sem Value}{g:Int->Int->Int}
 (rule:∀(i j:Int) (t u:Tok) (s:Shared) (Q:Value->Shared->Prop) (E:Value->Shared->Prop),Q (.int (g i j) s.toks) { s with toks:=s.toks+1 }->wpAny (model X.prog X.w) X.A (f (.int i t) (.int j u)) Q E s):
 OpR X f (rI0 fun i j=>.int (g i j)):=by
 intro pins s Z H x y v u Q I rx ry h;obtain⟨i,j,rfl,rfl,q⟩:=h;obtain⟨t,rfl⟩:=rx;obtain⟨t',rfl⟩:=ry;exact rule i j t t' s _ _ ⟨.int (g i j),H,I.tok _,⟨_,rfl⟩,q⟩
theorem vO{f:Value->Value->Sem Value}{g:Int->Int->Bool}
 (rule:∀(i j:Int) (t u:Tok) (s:Shared) (Q:Value->Shared->Prop) (E:Value->Shared->Prop),Q (.bool (g i j)) s->wpAny (model X.prog X.w) X.A (f (.int i t) (.int j u)) Q E s):
 OpR X f (rI0 fun i j=>.bl (g i j)):=by
 intro pins s Z H x y v u Q I rx ry h;obtain⟨i,j,rfl,rfl,q⟩:=h;obtain⟨t,rfl⟩:=rx;obtain⟨t',rfl⟩:=ry;exact rule i j t t' s _ _ ⟨.bl (g i j),H,I,rfl,q⟩
noncomputable def ADc(i j:Int):Prop:=0<=j/\j<=1000000/\i.natAbs<2^64
theorem bN(k:Nat):(0:Int)<=2^k:=by
 rw[two_pow_cast];exact jk6 _
theorem Bb:OpR X (binaryOp .Add) (rI0 fun i j=>.int (i+j)):=pY fun _ _ _ _ _ _ _ q=>add_int q
theorem CG:OpR X (binaryOp .Sub) (rI0 fun i j=>.int (i-j)):=pY fun _ _ _ _ _ _ _ q=>sub_int q
theorem Br:OpR X (binaryOp .Mod) (rI (fun _ j=>0<j) fun i j=>.int (i%j)):=opI fun i j _ _ _ _ _ hc q=>by
 have h1:(0:Int)<j:=hc;exact mod_int' (by lia) (by rw[Int.fmod_eq_emod_of_nonneg i (by lia)];exact q)
theorem O4:OpR X (binaryOp .Pow) (rI ADc fun i j=>.int (i^j.toNat)):=opI fun _ _ _ _ _ _ _ hc q=>pow_int_small hc.1 hc.2.1 hc.2.2 q
theorem MK:OpR X (binaryOp .RShift) (rI (fun _ j=>0<=j) fun i j=>.int (i/2^j.toNat)):=opI fun i j _ _ _ _ _ hc q=>
 rshift_int hc (by rw[Int.fdiv_eq_ediv_of_nonneg i (bN _)];exact q)
theorem IV:OpR X (binaryOp .BitAnd) (rI0 fun i j=>.int (Builtin.bitAnd i j)):=pY fun _ _ _ _ _ _ _ q=>and_int q
theorem Z0:OpR X (binaryOp .BitOr) (rI0 fun i j=>.int (Builtin.bitOr i j)):=pY fun _ _ _ _ _ _ _ q=>or_int q
theorem pU:OpR X (binaryOp .BitXor) (rI0 fun i j=>.int (Builtin.bitXor i j)):=pY fun _ _ _ _ _ _ _ q=>xor_int q
theorem unI{f:Value->Sem Value}{g:Int->Int}
 (rule:∀(i:Int) (t:Tok) (s:Shared) (Q:Value->Shared->Prop) (E:Value->Shared->Prop),Q (.int (g i) s.toks) { s with toks:=s.toks+1 }->wpAny (model X.prog X.w) X.A (f (.int i t)) Q E s):
 UnR X f (rU fun i=>.int (g i)):=by
 intro pins s Z H x v Q I rx h;obtain⟨i,rfl,q⟩:=h;obtain⟨t,rfl⟩:=rx;exact rule i t s _ _ ⟨.int (g i),H,I.tok _,⟨_,rfl⟩,q⟩
theorem Ei:UnR X (unaryOp .USub) (rU fun i=>.int (-i)):=unI fun _ _ _ _ _ q=>neg_int q
end
noncomputable def ug:V->V->Bool
 | .non,.non=>true | .non,.int _=>true | .int _,.non=>true | .non,.bl _=>true | .bl _,.non=>true | .non,.str _=>true | .str _,.non=>true
 | .int _,.int _=>true | .bl _,.bl _=>true | .str _,.str _=>true | .byt _,.byt _=>true
 | .int _,.str _=>true | .str _,.int _=>true | .bl _,.str _=>true | .str _,.bl _=>true
 | _,_=>false
noncomputable def rEq:R2:=fun x y H Q=>ug x y=true/\Q (.bl (decide (x=y))) H
noncomputable def rNe:R2:=fun x y H Q=>ug x y=true/\Q (.bl (!decide (x=y))) H
theorem iW{i j:Int}:decide (V.int i=V.int j)=(i==j):=by
 rw[ja1];simp
theorem q9{i j:Bool}:decide (V.bl i=V.bl j)=(i==j):=by
 rw[ja1];simp
theorem iV{i j:Str}:decide (V.str i=V.str j)=(i==j):=by
 rw[ja1];simp
theorem iY{i j:Array UInt8}:decide (V.byt i=V.byt j)=(i.toList==j.toList):=by
 rw[ja1];cases i;cases j;simp
section
variable{X:Cx}{a b c:Expr}{ta tb tc:TE}{pos:Pos}
theorem Cd{s:Shared}{Q:VK}{k k':Bool}(I:Inv X pins Z H s)(q:Q (.bl k) H)(e:k=k'):EP X pins Z Q (.bool k') s:=by
 subst e;exact⟨.bl k,H,I,rfl,q⟩
theorem Bl:OpR X (compareOp .Eq) rEq:=by
 intro pins s Z H x y v u Q I rx ry h;obtain⟨hs,q⟩:=h;cases x with
 | non=>
  cases rx;cases y with
  | non=>cases ry;exact PySem.EqNone.eq_none_none (Cd I q (by simp))
  | bl j=>cases ry;exact PySem.EqNone.eq_none_bool (Cd I q (by simp))
  | int j=>obtain⟨t',rfl⟩:=ry;exact PySem.EqNone.eq_none_int (Cd I q (by simp))
  | str j=>obtain⟨t',rfl⟩:=ry;exact PySem.EqNone.eq_none_str (Cd I q (by simp))
  | _=>exact absurd (show false=true from hs) zk
 | bl i=>
  cases rx;cases y with
  | non=>cases ry;exact PySem.EqNone.eq_bool_none (Cd I q (by simp))
  | bl j=>cases ry;exact eq_bool (Cd I q q9)
  | str j=>obtain⟨t',rfl⟩:=ry;exact PySem.EqMixed.eq_bool_str (Cd I q (by simp))
  | _=>exact absurd (show false=true from hs) zk
 | int i=>
  obtain⟨t,rfl⟩:=rx;cases y with
  | non=>cases ry;exact PySem.EqNone.eq_int_none (Cd I q (by simp))
  | int j=>obtain⟨t',rfl⟩:=ry;exact eq_int (Cd I q iW)
  | str j=>obtain⟨t',rfl⟩:=ry;exact PySem.EqMixed.eq_int_str (Cd I q (by simp))
  | _=>exact absurd (show false=true from hs) zk
 | str i=>
  obtain⟨t,rfl⟩:=rx;cases y with
  | non=>cases ry;exact PySem.EqNone.eq_str_none (Cd I q (by simp))
  | bl j=>cases ry;exact PySem.EqMixed.eq_str_bool (Cd I q (by simp))
  | int j=>obtain⟨t',rfl⟩:=ry;exact PySem.EqMixed.eq_str_int (Cd I q (by simp))
  | str j=>obtain⟨t',rfl⟩:=ry;exact eq_str (Cd I q iV)
  | _=>exact absurd (show false=true from hs) zk
 | byt i=>
  obtain⟨t,rfl⟩:=rx;cases y with
  | byt j=>obtain⟨t',rfl⟩:=ry;exact PySem.W.eq_bytes (Cd I q iY)
  | _=>exact absurd (show false=true from hs) zk
 | _=>cases y<;>exact absurd (show false=true from hs) zk
theorem GJ:OpR X (compareOp .NotEq) rNe:=by
 intro pins s Z H x y v u Q I rx ry h;obtain⟨hs,q⟩:=h;cases x with
 | non=>
  cases rx;cases y with
  | non=>cases ry;exact PySem.EqNone.ne_none_none (Cd I q (by simp))
  | bl j=>cases ry;exact PySem.EqNone.ne_none_bool (Cd I q (by simp))
  | int j=>obtain⟨t',rfl⟩:=ry;exact PySem.EqNone.ne_none_int (Cd I q (by simp))
  | str j=>obtain⟨t',rfl⟩:=ry;exact PySem.EqNone.ne_none_str (Cd I q (by simp))
  | _=>exact absurd (show false=true from hs) zk
 | bl i=>
  cases rx;cases y with
  | non=>cases ry;exact PySem.EqNone.ne_bool_none (Cd I q (by simp))
  | bl j=>cases ry;exact ne_bool (Cd I q (xk not q9))
  | str j=>obtain⟨t',rfl⟩:=ry;exact PySem.EqMixed.ne_bool_str (Cd I q (by simp))
  | _=>exact absurd (show false=true from hs) zk
 | int i=>
  obtain⟨t,rfl⟩:=rx;cases y with
  | non=>cases ry;exact PySem.EqNone.ne_int_none (Cd I q (by simp))
  | int j=>obtain⟨t',rfl⟩:=ry;exact ne_int (Cd I q (xk not iW))
  | str j=>obtain⟨t',rfl⟩:=ry;exact PySem.EqMixed.ne_int_str (Cd I q (by simp))
  | _=>exact absurd (show false=true from hs) zk
 | str i=>
  obtain⟨t,rfl⟩:=rx;cases y with
  | non=>cases ry;exact PySem.EqNone.ne_str_none (Cd I q (by simp))
  | bl j=>cases ry;exact PySem.EqMixed.ne_str_bool (Cd I q (by simp))
  | int j=>obtain⟨t',rfl⟩:=ry;exact PySem.EqMixed.ne_str_int (Cd I q (by simp))
  | str j=>obtain⟨t',rfl⟩:=ry;exact ne_str (Cd I q (xk not iV))
  | _=>exact absurd (show false=true from hs) zk
 | byt i=>
  obtain⟨t,rfl⟩:=rx;cases y with
  | byt j=>obtain⟨t',rfl⟩:=ry;exact PySem.W.ne_bytes (Cd I q (xk not iY))
  | _=>exact absurd (show false=true from hs) zk
 | _=>cases y<;>exact absurd (show false=true from hs) zk
theorem FZ:OpR X (compareOp .Lt) (rI0 fun i j=>.bl (decide (i<j))):=vO fun _ _ _ _ _ _ _ q=>lt_int q
theorem JH:OpR X (compareOp .LtE) (rI0 fun i j=>.bl (decide (i<=j))):=vO fun _ _ _ _ _ _ _ q=>le_int q
theorem Fq:OpR X (compareOp .Gt) (rI0 fun i j=>.bl (decide (j<i))):=vO fun _ _ _ _ _ _ _ q=>gt_int q
theorem pW:OpR X (compareOp .GtE) (rI0 fun i j=>.bl (decide (j<=i))):=vO fun _ _ _ _ _ _ _ q=>ge_int q
theorem WM:OpR X (compareOp .In) (fun x y H Q=>∃i j,x=.str i/\y=.str j/\Q (.bl (!(Builtin.Str.occurrences j i 0 j.length 1).isEmpty)) H):=by
 intro pins s Z H x y v u Q I rx ry h;obtain⟨i,j,rfl,rfl,q⟩:=h;obtain⟨t,rfl⟩:=rx;obtain⟨t',rfl⟩:=ry;exact in_str (Cd I q rfl)
theorem IK:OpR X (compareOp .Is) (fun x y H Q=>y=.non/\Q (.bl (decide (x=.non))) H):=by
 intro pins s Z H x y v u Q I rx ry h;obtain⟨rfl,q⟩:=h;cases ry;refine is_none_gen (Cd I q ?_);cases x<;>first
  | (cases rx;rfl)
  | (obtain ⟨t,rfl⟩:=rx;rfl)
theorem vN:OpR X (compareOp .IsNot) (fun x y H Q=>y=.non/\Q (.bl (!decide (x=.non))) H):=by
 intro pins s Z H x y v u Q I rx ry h;obtain⟨rfl,q⟩:=h;cases ry;refine isnot_none_gen (Cd I q ?_);cases x<;>first
  | (cases rx;rfl)
  | (obtain ⟨t,rfl⟩:=rx;rfl)
theorem Am(b:Expr){op:CmpOp}(h:op≠.In:=by decide)(h2:op≠.NotIn:=by decide):behindInMarks op b=false:=by
 have e1:(op==CmpOp.In)=false:=by cases op<;>first | rfl | exact absurd rfl h
 have e2:(op==CmpOp.NotIn)=false:=by cases op<;>first | rfl | exact absurd rfl h2
 cases b<;>simp[behindInMarks,e1,e2]
theorem Ef{op:CmpOp}{r:R2}(ho:OpR X (compareOp op) r)(ha:PE X a ta)(hb:PE X b tb)(hm:behindInMarks op b=false):PE X (.Compare a [op] [b] pos) (tOp r ta tb):=by
 intro pins s Z H Q I h;exact wpAny_Compare1 (ABT ha hb I h fun v u s2 x y H2 I2 rx ry q=>ho pins s2 Z H2 x y v u Q I2 rx ry q) hm
noncomputable def nA(t:TE):TT:=fun Z H Q=>t Z H fun x H'=>∃k,x=.bl k/\Q k H'
theorem Ai{op:CmpOp}{r:R2}(ho:OpR X (compareOp op) r)(ha:PE X a ta)(hb:PE X b tb)(hm:behindInMarks op b=false):PT X (.Compare a [op] [b] pos) (nA (tOp r ta tb)):=by
 intro pins s Z H Q I h;refine wpAny_isTrue_Compare1 (thn (ha s Z H _ I h) fun v s1 ⟨x,H1,I1,r1,q1⟩=>thn (hb s1 Z H1 _ I1 q1) fun u s2 ⟨y,H2,I2,r2,q2⟩=>
  thn (ho pins s2 Z H2 x y v u _ I2 r1 r2 q2) fun c s3 ⟨z,H3,I3,r3,k,e,q3⟩=>?_) hm
 subst e;cases r3;exact ja4 ⟨H3,I3,q3⟩
noncomputable def bZ(r r':R2)(ta tb tc:TE):TE:=fun Z H Q=>ta Z H fun x H1=>tb Z H1 fun y H2=>r x y H2 fun z H3=>∃k,z=.bl k/\
 (if k=true then tc Z H3 fun w' H4=>r' y w' H4 Q else Q (.bl false) H3)
theorem Mx{op op':CmpOp}{r r':R2}(ho:OpR X (compareOp op) r)(ho':OpR X (compareOp op') r')(ha:PE X a ta)(hb:PE X b tb)(hc:PE X c tc)
 (hm:lastMarks [op,op'] [b,c]=false:=by with_unfolding_all rfl):PE X (.Compare a [op,op'] [b,c] pos) (bZ r r' ta tb tc):=by
 intro pins s Z H Q I h;refine Compare_chain (thn (ha s Z H _ I h) fun v s1 ⟨x,H1,I1,r1,q1⟩=>chain_link (thn (hb s1 Z H1 _ I1 q1) fun u s2 ⟨y,H2,I2,r2,q2⟩=>
  thn (ho pins s2 Z H2 x y v u _ I2 r1 r2 q2) fun d s3 ⟨z,H3,I3,r3,k,e,q3⟩=>?_)) hm
 subst e;cases r3;refine ja4 ?_;cases k with
 | false=>exact ite_ff ⟨.bl false,H3,I3,rfl,q3⟩
 | true=>exact ite_tt (chain_last (thn (hc s3 Z H3 _ I3 q3) fun w' s4 ⟨z',H4,I4,r4,q4⟩=>ho' pins s4 Z H4 y z' u w' Q I4 r2 r4 q4))
theorem pD{op op':CmpOp}{r r':R2}(ho:OpR X (compareOp op) r)(ho':OpR X (compareOp op') r')(ha:PE X a ta)(hb:PE X b tb)(hc:PE X c tc)
 (hm:lastMarks [op,op'] [b,c]=false:=by with_unfolding_all rfl):PT X (.Compare a [op,op'] [b,c] pos) (nA (bZ r r' ta tb tc)):=by
 intro pins s Z H Q I h;refine isTrue_chain (thn (ha s Z H _ I h) fun v s1 ⟨x,H1,I1,r1,q1⟩=>test_link (thn (hb s1 Z H1 _ I1 q1) fun u s2 ⟨y,H2,I2,r2,q2⟩=>
  thn (ho pins s2 Z H2 x y v u _ I2 r1 r2 q2) fun d s3 ⟨z,H3,I3,r3,k,e,q3⟩=>?_)) hm
 subst e;cases r3;refine ja4 ?_;cases k with
 | false=>
  obtain⟨k',e',q'⟩:=q3;cases e';exact ite_ff ⟨H3,I3,q'⟩
 | true=>
  refine ite_tt (test_last (thn (hc s3 Z H3 _ I3 q3) fun w' s4 ⟨z',H4,I4,r4,q4⟩=>thn (ho' pins s4 Z H4 y z' u w' _ I4 r2 r4 q4) fun d' s5 hZ=>?_));obtain⟨z2,H5,I5,r5,k2,e2,q5⟩:=hZ;subst e2;cases r5;exact ja4 ⟨H5,I5,q5⟩
noncomputable def AEV(K:Fr)(x:V)(H:Hp)(k:Bool):Prop:=
 match x with
 | .non=>k=false
 | .bl b=>k=b
 | .int i=>k=(i != 0)
 | .str y=>y.length<=sizeLine/\k=((y.length:Int) != 0)
 | .byt y=>y.size<=sizeLine/\k=((y.size:Int) != 0)
 | .ref p=>(∃xs,SqL K H p xs/\k=!xs.isEmpty)\/(∃xs,SqT K H p xs/\k=!xs.isEmpty)\/∃kvs,H p=some (.dK kvs)/\k=!kvs.isEmpty
 | _=>False
theorem dq{κ:Type}{kvs:List (κ×V)}{vs:List (κ×Value)}(r:KV kvs vs):(!vs.isEmpty)=!kvs.isEmpty:=by
 cases r<;>rfl
theorem Tz{xs:List V}{its:List Value}(r:Vals xs its):(!its.toArray.isEmpty)=!xs.isEmpty:=by
 cases r<;>simp
theorem MN:(sizeLine:Nat)<2^63:=by rw[sizeLine_eq];decide
theorem yc:AEW X (fun x H Q=>∃k,AEV X.K x H k/\Q k H):=by
 intro pins s Z H x v Q I rx h;obtain⟨k,e,q⟩:=h;have hl:=MN;have hs:sizeLine=16777216:=sizeLine_eq;cases x with
 | non=>
  cases rx;have e':k=false:=e;subst e';exact truthy_none ⟨H,I,q⟩
 | bl b=>
  cases rx;have e':k=b:=e;subst e';exact ja4 ⟨H,I,q⟩
 | int i=>
  obtain⟨t,rfl⟩:=rx;have e':k=(i != 0):=e;subst e';exact PySem.P.truthy_int ⟨H,I,q⟩
 | str y=>
  obtain⟨t,rfl⟩:=rx;obtain⟨hy,e'⟩:y.length<=sizeLine/\k=((y.length:Int) != 0):=e;subst e';exact PySem.P.truthy_str (by lia) ⟨H,I.tok _,q⟩
 | byt y=>
  obtain⟨t,rfl⟩:=rx;obtain⟨hy,e'⟩:y.size<=sizeLine/\k=((y.size:Int) != 0):=e;subst e';exact PySem.W.truthy_bytes (by lia) ⟨H,I.tok _,q⟩
 | ref p=>
  cases rx;have e':(∃xs,SqL X.K H p xs/\k=!xs.isEmpty)\/(∃xs,SqT X.K H p xs/\k=!xs.isEmpty)\/∃kvs,H p=some (.dK kvs)/\k=!kvs.isEmpty:=e;rcases e' with ⟨xs,hx,e'⟩ | ⟨xs,hx,e'⟩ | ⟨kvs,hx,e'⟩
  ·subst e';obtain⟨its,r,pl,hz⟩:=I.list hx;have hlen:=r.length;exact wpAny_truthy_list pl.isList (by simp only[xc];lia) ⟨H,I.tok _,by rw[Tz r];exact q⟩
  ·subst e';obtain⟨its,r,pl,hz⟩:=I.tuple hx;have hlen:=r.length;exact truthy_tuple pl (by simp only[xc];lia) ⟨H,I.tok _,by rw[Tz r];exact q⟩
  ·subst e';obtain⟨hz,hS,vs,r,m⟩:kvs.length<=sizeLine/\(p==sysModules)=false/\∃vs,KV kvs vs/\s.heap.DictOf (FN X.prog X.w) p vs:=I.hok p _ hx;have hlen:kvs.length=vs.length:=Paired.length r;exact wpAny_truthy_dict hS m (by lia) ⟨H,I.tok _,by rw[dq r];exact q⟩
 | _=>exact(show False from e).elim
theorem dH:OpR X (binaryOp .Add) (fun x y H Q=>∃i j,x=.str i/\y=.str j/\i.length+j.length<=sizeLine/\Q (.str (i++j)) H):=by
 intro pins s Z H x y v u Q I rx ry h;obtain⟨i,j,rfl,rfl,hz,q⟩:=h;obtain⟨t,rfl⟩:=rx;obtain⟨t',rfl⟩:=ry;exact add_str (fun t' tk=>⟨.str (i++j),H,I.tok _,⟨_,rfl⟩,q⟩) hz
theorem vals1{x:V}(r:Vals [x] us):∃u,us=[u]/\RelV x u:=by
 cases r with
 | cons r1 r2=>cases r2;exact⟨_,rfl,r1⟩
theorem vals2{x y:V}(r:Vals [x,y] us):∃u w',us=[u,w']/\RelV x u/\RelV y w':=by
 cases r with
 | cons r1 r2=>
  cases r2 with
  | cons r3 r4=>cases r4;exact⟨_,_,rfl,r1,r3⟩
theorem Nk:Hq X (.builtin "abs") (fun xs H Q=>∃i,xs=[.int i]/\Q (.int (if i<0 then -i else i)) H):=by
 intro pins s Z H xs us Q I r h;obtain⟨i,rfl,q⟩:=h;obtain⟨u,rfl,t,rfl⟩:=vals1 r;exact call_abs_int fun u tk=>⟨.int (if i<0 then -i else i),H,I.tok _,⟨_,rfl⟩,q⟩
theorem lU:Hq X (.type "int") (fun xs H Q=>(∃i,xs=[.int i]/\Q (.int i) H)\/∃k,xs=[.bl k]/\Q (.int (if k then 1 else 0)) H):=by
 intro pins s Z H xs us Q I r h;rcases h with ⟨i,rfl,q⟩ | ⟨k,rfl,q⟩
 ·obtain⟨u,rfl,t,rfl⟩:=vals1 r;exact call_int_int ⟨.int i,H,I,⟨_,rfl⟩,q⟩
 ·obtain⟨u,rfl,r1⟩:=vals1 r;cases r1;exact call_int_bool ⟨.int (if k then 1 else 0),H,I.tok _,⟨_,rfl⟩,q⟩
theorem Az:Hq X (.type "str") (fun xs H Q=>∃i,xs=[.int i]/\i.natAbs.log2<1920/\Q (.str (toString i)) H):=by
 intro pins s Z H xs us Q I r h;obtain⟨i,rfl,hz,q⟩:=h;obtain⟨u,rfl,t,rfl⟩:=vals1 r;exact PySem.P.str_of_int hz ⟨.str _,H,I.tok _,⟨_,rfl⟩,q⟩
end
structure fQ(h:Heap)(x dx C:Addr)(mA:Str->Option Value):Prop where
 obj:h.get? x=some (PySem.W.instObj C dx)
 ns:h.Ns1 dx mA
 ne:dx≠x
theorem j8{h:Heap}{dx:Addr}{mA:Str->Option Value}(n:h.Ns1 dx mA):∃od,h.get? dx=some od/\∀name,PySem.W.lookIn name od=some (mA name):=by
 obtain⟨o,es,ep,ho,hd,hk,_,hm⟩:=n;refine⟨o,ho,fun name=>?_⟩;have e:=hm name;unfold nsFind findBy at e;rw[<-Array.find?_toList] at e;unfold PySem.W.lookIn;rw[hd];dsimp only;split
 ·rename_i y q
  rw[q] at e;exact xk some e
 ·rename_i q
  rw[q] at e;have a:es.toList.any (·.refKey)=false:=by
   rw[List.any_eq_false];intro y hy;obtain⟨z,t,hkey⟩:=hk y (Array.mem_toList_iff.mp hy);simp[DictEntry.refKey,hkey]
  have a':¬es.toList.any (·.refKey)=true:=by rw[a];exact zk
  rw[ua a'];exact xk some e
theorem fQ.look{h:Heap}{x dx C:Addr}{mA:Str->Option Value}(I:fQ h x dx C mA):∃od,PySem.W.InstAt h x (PySem.W.instObj C dx) C (some od)/\∀name,PySem.W.lookIn name od=some (mA name):=
 let ⟨od,ho,hl⟩:=j8 I.ns
 ⟨od,⟨I.obj,rfl,rfl,ho⟩,hl⟩
section
variable{prog:Program}{w:World}{A:Around}{E:Value->Shared->Prop}{s:Shared}{K:Fr}{x dx C f:Addr}{mA:Str->Option Value}{name:Str}{v:Value}
theorem vz{expr:Bool}{Q:Value->Shared->Prop}(X:K.In s.heap)(I:fQ s.heap x dx C mA)(hg:PySem.W.plainGet K C name=true)(hh:PySem.W.hasDictIn K C=true)
 (ha:PySem.W.findIn K (.ref C) name=some none)(hv:mA name=some v)(hv':PySem.W.handedIn v=true)(h:Q v { s with toks:=s.toks+1 }):
 wpAny (model prog w) A (getAttr (.ref x) name expr) Q E s:=by
 obtain⟨od,J,hl⟩:=I.look;exact PySem.W.get_value X J (jo7 hg).1 (PySem.W.findObj_own hh ha rfl (by rw[hl,hv])) hv' h
theorem qd{pl:Sem Bool}{Q:Value×List Value->Shared->Prop}(X:K.In s.heap)(I:fQ s.heap x dx C mA)(hg:PySem.W.plainGet K C name=true)
 (hf:PySem.W.findIn K (.ref C) name=some (some (.ref f)))(ht:PySem.W.isFn K (.ref f)=true)(hv:mA name=none)(h:Q (.ref f,[.ref x]) s):
 wpAny (model prog w) A (getMethod (.ref x) name pl) Q E s:=by
 obtain⟨od,J,hl⟩:=I.look;exact PySem.W.method_fn X J (jo7 hg).1 (jo7 hg).2 hf (jc0.mp ht) (by show(PySem.W.lookIn name od).map (·.isSome)=some false;rw[hl,hv];rfl) h
theorem uf{ns:List Str}{Q:Unit->Shared->Prop}(X:K.In s.heap)(I:fQ s.heap x dx C mA)
 (hs:PySem.W.findIn K (.ref C) "__setattr__"=some (some (.builtin "object.__setattr__")))(hp:PySem.W.plainOver K C=true)(ht:PySem.W.takerIn K C name=some none)(hh:PySem.W.hasDictIn K C=true)
 (hw:PySem.Within mA ns)(hsz:ns.length<=sizeLine)
 (h:∀h',fQ h' x dx C (fun y=>if y=name then some v else mA y)->Heap.SameBut dx s.heap h'->Q () { s with heap:=h',toks:=s.toks+2 }):
 wpAny (model prog w) A (setAttr (.ref x) name v) Q E s:=by
 obtain⟨od,J,hl⟩:=I.look;refine PySem.W.set_plain X J hs (PySem.W.osa_open (s:={ s with toks:=s.toks+1 }) (r:=none) X J hp ht fun b=>?_);obtain⟨cd,hc,hd'⟩:=PySem.W.any_some hh;have hx:s.heap.get? x=some ⟨.ref C,some dx,.plain,#[]⟩:=I.obj;refine qc (xp (qc (qc (wpAny_loadPart hx (qc (PySem.W.Looks.here (s:={ s with toks:=s.toks+1 }) (PySem.W.looks_clsIn X hc) ?_))))));rw[hd'];refine xp (a:=some dx) (qc (xp (qc ?_)));refine wpAny_nsSet1 (s:={ s with toks:=s.toks+1 }) I.ns fun h' hn2 hs2=>?_;obtain⟨oD,esD,epD,hoD,hdD,hcD⟩:=hn2.count (PySem.Within.cons name v hw);refine qc (wpAny_lookBehind hoD (by rw[hdD];exact pastItsLine_dict (zw hcD (by rw[qm];lia))) ?_);exact xp (h _ ⟨(hs2.2 _ (Ne.symm I.ne)).trans I.obj,hn2,I.ne⟩ hs2)
theorem qH{R:Result->Shared->Prop}{vs:List Value}{kw:List (Str×Value)}(X:K.In s.heap)(hm:PySem.W.makesIn K C=true)
 (hi:PySem.W.findIn K (.ref C) "__init__"=some (some (.ref f)))(hf:PySem.W.typeIn K (.ref f)=some (.type "function"))
 (h:codeAny (model prog w) (A.under (.builtin "type.__call__" ⟨.ref C::vs,kw⟩)) (.call (.ref f) ⟨.ref (s.heap.objs.size+1)::vs,kw⟩) (PySem.W.InitBack (s.heap.objs.size+1) R)
  { s with heap:=(s.heap.push PySem.W.emptyDict).push (PySem.W.instObj C s.heap.objs.size) }):
 codeAny (model prog w) A (.call (.ref C) ⟨vs,kw⟩) R s:=by
 obtain⟨hh,g,d,t,os⟩:=s;exact PySem.W.make_core (PySem.W.makes_of X hm) (PySem.W.looks_findIn X hi) (fun self=>PySem.W.bind_fn X self hf) (.inl rfl) h
end
noncomputable def Dh(f:Str)(v:V):List (Str×V)->List (Str×V)
 | []=>[(f,v)]
 | (g,x)::r=>if g=f then (g,v)::r else (g,x)::Dh f v r
theorem Py(f g:Str)(v:V):∀fs:List (Str×V),(Dh f v fs).lookup g=if g=f then some v else fs.lookup g
 | []=>by
  show List.lookup g [(f,v)]=_;by_cases h:g=f
  ·have hb:(g==f)=true:=jc0.mpr h;simp only[List.lookup,hb,ya h]
  ·have hb:(g==f)=false:=beq_eq_false_iff_ne.mpr h;simp only[List.lookup,hb,ua h]
 | (k,x)::r=>by
  have ih:=Py f g v r;rw[show Dh f v ((k,x)::r)=(if k=f then (k,v)::r else (k,x)::Dh f v r) from rfl];by_cases hk:k=f
  ·rw[ya hk];by_cases h:g=k
   ·have hb:(g==k)=true:=jc0.mpr h;simp only[List.lookup,hb,ya (h.trans hk)]
   ·have hb:(g==k)=false:=beq_eq_false_iff_ne.mpr h;simp only[List.lookup,hb,ua (fun e:g=f=>h (e.trans hk.symm))]
  ·rw[ua hk];by_cases h:g=k
   ·have hb:(g==k)=true:=jc0.mpr h;simp only[List.lookup,hb,ua (fun e:g=f=>hk (h.symm.trans e))]
   ·have hb:(g==k)=false:=beq_eq_false_iff_ne.mpr h;simp only[List.lookup,hb];exact ih
theorem O9(f:Str)(v:V):∀fs:List (Str×V),f∈(Dh f v fs).map (·.1)/\∀g,g∈fs.map (·.1)->g∈(Dh f v fs).map (·.1)
 | []=>⟨by simp[Dh],fun g h=>by simp at h⟩
 | (k,x)::r=>by
  obtain⟨i1,i2⟩:=O9 f v r;rw[show Dh f v ((k,x)::r)=(if k=f then (k,v)::r else (k,x)::Dh f v r) from rfl];by_cases hk:k=f
  ·rw[ya hk];subst hk;exact⟨by simp,fun g h=>by simpa using h⟩
  ·rw[ua hk];refine⟨?_,fun g h=>?_⟩
   ·rw[zi];exact qh _ i1
   ·rw[zi] at h ⊢;rcases qv.mp h with e | e
    ·exact qv.mpr (.inl e)
    ·exact qh _ (i2 g e)
theorem QB(f:Str)(v:V):∀fs:List (Str×V),(Dh f v fs).length<=fs.length+1
 | []=>by simp[Dh]
 | (k,x)::r=>by
  have ih:=QB f v r;rw[show Dh f v ((k,x)::r)=(if k=f then (k,v)::r else (k,x)::Dh f v r) from rfl];by_cases hk:k=f
  ·rw[ya hk,qm,qm];lia
  ·rw[ua hk,qm,qm];lia
theorem Js.some_of{v:V}{o:Option Value}(r:Js (some v) o):∃u,o=some u/\RelV v u:=by
 cases o with
 | none=>exact(show False from r).elim
 | some u=>exact⟨u,rfl,r⟩
theorem Js.none_of{o:Option Value}(r:Js none o):o=none:=by
 cases o with
 | none=>rfl
 | some u=>exact(show False from r).elim
theorem kZ{v:V}(r:RelV v u):PySem.W.handedIn u=true:=by
 cases v with
 | non=>cases (show u=Value.none from r);rfl
 | bl b=>cases (show u=Value.bool b from r);rfl
 | int i=>obtain⟨t,e⟩:=(show ∃t,u=Value.int i t from r);cases e;rfl
 | str x=>obtain⟨t,e⟩:=(show ∃t,u=Value.str x t from r);cases e;rfl
 | byt b=>obtain⟨t,e⟩:=(show ∃t,u=Value.bytes b t from r);cases e;rfl
 | flt b=>obtain⟨t,e⟩:=(show ∃t,u=Value.float b t from r);cases e;rfl
 | ref a=>cases (show u=Value.ref a from r);rfl
 | ty n=>cases (show u=Value.type n from r);rfl
section
variable{P:Program}{w:World}{H H':Hp}{h h':Heap}{a C dx:Addr}{fs fs':List (Str×V)}
theorem Rh(hok:HOk P w H h)(e:H a=some (.ins C dx fs)):∃mA,fQ h a dx C mA/\(∀f,Js (fs.lookup f) (mA f))/\PySem.Within mA (fs.map (·.1))/\fs.length<=1000/\H dx=some (.own a):=by
 obtain⟨d,z,ne,ob,mA,n,r,q⟩:=(show Ez P w H h a (.ins C dx fs) from hok a _ e);exact⟨mA,⟨ob,n,ne⟩,r,q,z,d⟩
end
structure Cls(K:Fr)(C:Addr):Prop where
 pg:PySem.W.plainGet K C Str.empty=true
 hd:PySem.W.hasDictIn K C=true
 po:PySem.W.plainOver K C=true
 sa:PySem.W.findIn K (.ref C) "__setattr__"=some (some (.builtin "object.__setattr__"))
theorem Cls.get{C:Addr}(c:Cls K C)(f:Str):PySem.W.plainGet K C f=true:=c.pg
noncomputable def Df(K:Fr)(C:Addr)(f:Str):Prop:=PySem.W.findIn K (.ref C) f=some none
theorem Df.taker{C:Addr}{f:Str}(n:Df K C f):PySem.W.takerIn K C f=some none:=by
 unfold PySem.W.takerIn;rw[show PySem.W.findIn K (.ref C) f=some none from n];rfl
structure Meth(K:Fr)(C:Addr)(m:Str)(f:Addr):Prop where
 at_:PySem.W.findIn K (.ref C) m=some (some (.ref f))
 fn:PySem.W.isFn K (.ref f)=true
 kp:PySem.W.keepIn K (.ref f)=true
section
variable{X:Cx}{pins:List (Addr×Obj)}{Z:St}{H:Hp}{s:Shared}{a C dx:Addr}{fs:List (Str×V)}{f:Str}{v:V}{A:Around}{E:Value->Shared->Prop}
theorem du{b:Bool}{Q:Value->Shared->Prop}(I:Inv X pins Z H s)(e:H a=some (.ins C dx fs))(c:Cls X.K C)(n:Df X.K C f)(l:fs.lookup f=some v)
 (h:∀u s',Inv X pins Z H s'->RelV v u->Q u s'):wpAny (model X.prog X.w) A (getAttr (.ref a) f b) Q E s:=by
 obtain⟨mA,O,r,_,_,_⟩:=Rh I.hok e;obtain⟨u,hu,ru⟩:=Js.some_of (v:=v) (o:=mA f) (by rw[<-l];exact r f);exact vz I.kIn O (c.get f) c.hd n hu (kZ ru) (h u _ (I.tok _) ru)
theorem Jg{m:Str}{g:Addr}{pl:Sem Bool}{Q:Value×List Value->Shared->Prop}(I:Inv X pins Z H s)(e:H a=some (.ins C dx fs))(c:Cls X.K C)(k:Meth X.K C m g)(l:fs.lookup m=none)
 (h:Q (.ref g,[.ref a]) s):wpAny (model X.prog X.w) A (getMethod (.ref a) m pl) Q E s:=by
 obtain⟨mA,O,r,_,_,_⟩:=Rh I.hok e;have hn:mA m=none:=Js.none_of (by rw[<-l];exact r m);exact qd I.kIn O (c.get m) k.at_ k.fn hn h
theorem bw{y:V}{Q:Unit->Shared->Prop}(I:Inv X pins Z H s)(e:H a=some (.ins C dx fs))(c:Cls X.K C)(n:Df X.K C f)(hl:fs.length<1000)(ry:RelV y u)
 (h:∀s',Inv X pins Z (upd H a (.ins C dx (Dh f y fs))) s'->Q () s'):wpAny (model X.prog X.w) A (setAttr (.ref a) f u) Q E s:=by
 obtain⟨mA,O,r,wi,_,ho⟩:=Rh I.hok e;have hz:(fs.map (·.1)).length<=sizeLine:=by rw[js,sizeLine_eq];lia
 refine uf I.kIn O c.sa c.po n.taker c.hd wi hz fun h' O' sb=>h _ ?_;have hd:∃o,h'.get? dx=some o:=let ⟨o,_,_,e',_⟩:=O'.ns;⟨o,e'⟩;refine I.write (x:=a) (e:=dx) (by rw[e];exact True.intro) (.inr ho) (fun b q hb z=>(sb.2 b hb).trans z) hd ?_;refine⟨by rw[BK O.ne];exact ho,?_,O.ne,O'.obj,_,O'.ns,fun g=>?_,fun g hg=>?_⟩
 ·have:=QB f y fs;lia
 ·show Js ((Dh f y fs).lookup g) (if g=f then some u else mA g);rw[Py];by_cases q:g=f
  ·rw[ya q,ya q];exact ry
  ·rw[ua q,ua q];exact r g
 ·by_cases q:g=f
  ·rw[q];exact(O9 f y fs).1
  ·refine(O9 f y fs).2 g (wi g fun z=>hg ?_);show(if g=f then some u else mA g)=none;rw[ua q];exact z
theorem Inv.made(I:Inv X pins Z H s):Inv X pins Z (upd (upd H s.heap.objs.size (.own (s.heap.objs.size+1))) (s.heap.objs.size+1) (.ins C s.heap.objs.size []))
 { s with heap:=(s.heap.push PySem.W.emptyDict).push (PySem.W.instObj C s.heap.objs.size) }:=by
 have e1:(s.heap.push PySem.W.emptyDict).get? s.heap.objs.size=some PySem.W.emptyDict:=xa s.heap rfl;have e2:((s.heap.push PySem.W.emptyDict).push (PySem.W.instObj C s.heap.objs.size)).get? (s.heap.objs.size+1)=some (PySem.W.instObj C s.heap.objs.size):=by
  have:=xa (s.heap.push PySem.W.emptyDict) (o:=PySem.W.instObj C s.heap.objs.size) rfl
  rwa [ji0] at this
 have e3:(s.heap.push PySem.W.emptyDict).Ns s.heap.objs.size (fun _=>none):=⟨PySem.W.emptyDict,#[],_,e1,rfl,(fun e he=>absurd he (by simp)),fun _=>rfl⟩;have I1:=I.laid (a:=s.heap.objs.size) (o:=.own (s.heap.objs.size+1)) (h':=s.heap.push PySem.W.emptyDict) (t':=s.toks) (fun b u q=>qf _ q) (qq _) ⟨_,e1⟩;refine I1.laid (a:=s.heap.objs.size+1) (o:=.ins C s.heap.objs.size []) (t':=s.toks) (fun b u q=>qf _ q) (Nat.le_of_eq (ji0 _ _)) ?_;have ne:s.heap.objs.size≠s.heap.objs.size+1:=vx (Nat.lt_succ_self _);refine⟨by rw[BK ne,An],vj _,ne,e2,fun _=>none,(Heap.Ns1.of_empty e3).at fun o q=>qf _ q,fun _=>True.intro,fun y hy=>absurd rfl hy⟩
theorem wj{prog:Program}{w:World}{env:Env}{e:Expr}{f:Str}{s:Shared}{Q:Value->Shared->Prop}(hb:attributeBase e f env (eval e env)=eval e env)
 (h:wpAny (model prog w) A (eval e env) (fun o s₁=>wpAny (model prog w) A (getAttr o f true) Q E s₁) E s):wpAny (model prog w) A (eval (.Attribute e f pos) env) Q E s:=
 Attribute_any_ h (by rw[arm_eval_Attribute,hb])
end
noncomputable def yg(K:Fr)(ta:TE)(f:Str):TE:=fun Z H Q=>ta Z H fun x H1=>∃a C dx fs v,x=.ref a/\H1 a=some (.ins C dx fs)/\Cls K C/\Df K C f/\fs.lookup f=some v/\Q v H1
noncomputable def ACc(K:Fr)(ta tv:TE)(f:Str):TS:=fun D Z H=>tv Z H fun y H1=>ta Z H1 fun x H2=>∃a C dx fs,x=.ref a/\H2 a=some (.ins C dx fs)/\Cls K C/\Df K C f/\fs.length<1000/\
 D.nx Z (upd H2 a (.ins C dx (Dh f y fs)))
section
variable{X:Cx}{o e value:Expr}{f:Str}{pos pos' tpos:Pos}{ta tv:TE}
theorem Bf(he:PE X e ta)(hb:attributeBase e f X.env (eval e X.env)=eval e X.env):PE X (.Attribute e f pos) (yg X.K ta f):=by
 intro pins s Z H Q I h;refine wj hb (thn (he s Z H _ I h) fun u s1 hZ=>?_);obtain⟨x,H1,I1,rx,a,C,dx,fs,v,ex,ea,c,n,l,q⟩:=hZ;subst ex;obtain rfl:u=Value.ref a:=rx;exact du I1 ea c n l fun u' s2 I2 ru=>⟨v,H1,I2,ru,q⟩
theorem Fd(ha:PE X o ta)(hv:PE X value tv)(hs:swapsWith value (some (.Attribute o f pos')) pos.line X.env=pure false):PS X (.Assign [.Attribute o f pos'] value pos) (ACc X.K ta tv f):=by
 intro pins s Z H D I h;refine plainObj_wpAny_Assign_Attribute (thn (hv s Z H _ I h) fun u s1 ⟨y,H1,I1,ry,q⟩=>thn (ha s1 Z H1 _ I1 q) fun ov s2 hZ=>?_) hs;obtain⟨x,H2,I2,rx,a,C,dx,fs,ex,ea,c,n,l,q2⟩:=hZ;subst ex;obtain rfl:ov=Value.ref a:=rx;exact bw I2 ea c n l ry fun s3 I3=>⟨Z,_,I3,q2⟩
end
section
variable{X:Cx}{pins:List (Addr×Obj)}{Z:St}{H:Hp}{s:Shared}{A:Around}{E:Value->Shared->Prop}{Q:Value->Shared->Prop}{c:Value}{b:Bool}
inductive N7(K:Fr)(H:Hp):V->Value->Prop where
 | non:N7 K H .non (.type "NoneType")
 | bl (x:Bool):N7 K H (.bl x) (.type "bool")
 | int (i:Int):N7 K H (.int i) (.type "int")
 | str (x:Str):N7 K H (.str x) (.type "str")
 | flt (x:UInt64):N7 K H (.flt x) (.type "float")
 | lst {a:Addr} {xs:List V} (e:H a=some (.lst xs)):N7 K H (.ref a) (.type "list")
 | frz {a:Addr} {o:Obj} {xs:List V} (e:H a=some (.frz o (.lst xs))):N7 K H (.ref a) (.type "list")
 | tup {a:Addr} {xs:List V} (e:H a=some (.tup xs)):N7 K H (.ref a) (.type "tuple")
 | dK {a:Addr} {kvs:List (Key×V)} (e:H a=some (.dK kvs)):N7 K H (.ref a) (.type "dict")
 | dT {a:Addr} {kvs:List (List Key×V)} (e:H a=some (.dT kvs)):N7 K H (.ref a) (.type "dict")
 | ins {a C dx:Addr} {fs:List (Str×V)} (e:H a=some (.ins C dx fs)) (cl:Cls K C) (ha:PySem.W.findIn K (.ref C) "__class__"=some (some (.builtin "object.__class__")))
  (hn:PySem.W.specialIn K (.builtin "object.__class__") "__get__"=some (some (.builtin "getset_descriptor.__get__"))) (htk:PySem.W.takesIn K (.builtin "object.__class__")=some true)
  (hm:PySem.W.mroIn K C (.type "object")=some true):N7 K H (.ref a) (.ref C)
theorem kJ{x:V}{t:Value}(I:Inv X pins Z H s)(rx:RelV x u)(ty:N7 X.K H x t)(e:PySem.W.kitOne X.K t c=some b)(h:∀tk,Q (.bool b) { s with toks:=tk }):
 wpAny (model X.prog X.w) A (call (.builtin "isinstance") [u,c]) Q E s:=by
 cases ty with
 | non=>cases (show u=Value.none from rx);exact jb1 PySem.W.kitx_none I.kIn True.intro e (fun z=>nomatch z) h
 | bl y=>cases (show u=Value.bool y from rx);exact jb1 PySem.W.kitx_bool I.kIn True.intro e (fun z=>nomatch z) h
 | int i=>obtain⟨t,q⟩:=(show ∃t,u=Value.int i t from rx);cases q;exact jb1 PySem.W.kitx_int I.kIn True.intro e (fun z=>nomatch z) h
 | str y=>obtain⟨t,q⟩:=(show ∃t,u=Value.str y t from rx);cases q;exact jb1 PySem.W.kitx_str I.kIn True.intro e (fun z=>nomatch z) h
 | flt y=>obtain⟨t,q⟩:=(show ∃t,u=Value.float y t from rx);cases q;exact jb1 PySem.W.kitx_float I.kIn True.intro e (fun z=>nomatch z) h
 | @lst a xs ea=>
  cases (show u=Value.ref a from rx);obtain⟨_,_,n,_,h1⟩:=(show Ez X.prog X.w H s.heap a (.lst xs) from I.hok a _ ea);exact jb1 PySem.W.kitx_list I.kIn ⟨_,h1,rfl⟩ e (fun z=>nomatch z) h
 | @frz a ob xs ea=>
  cases (show u=Value.ref a from rx);obtain⟨_,_,_,n,_,h1⟩:=(show Ez X.prog X.w H s.heap a (.frz ob (.lst xs)) from I.hok a _ ea);exact jb1 PySem.W.kitx_list I.kIn ⟨_,h1,rfl⟩ e (fun z=>nomatch z) h
 | @tup a xs ea=>
  cases (show u=Value.ref a from rx);obtain⟨_,_,_,p⟩:=(show Ez X.prog X.w H s.heap a (.tup xs) from I.hok a _ ea);obtain⟨o,h1,h2,_⟩:=p;exact jb1 PySem.W.kitx_tuple I.kIn ⟨o,h1,h2⟩ e (fun z=>nomatch z) h
 | @dK a kvs ea=>
  cases (show u=Value.ref a from rx);obtain⟨_,_,vs,_,p⟩:=(show Ez X.prog X.w H s.heap a (.dK kvs) from I.hok a _ ea);obtain⟨o,es,ep,h1,h2,_⟩:=p;exact jb1 PySem.W.kitx_dict I.kIn ⟨o,h1,h2.1⟩ e (fun z=>nomatch z) h
 | @dT a kvs ea=>
  cases (show u=Value.ref a from rx);obtain⟨_,_,xs,_,o,es,ep,h1,h2,_⟩:=(show Ez X.prog X.w H s.heap a (.dT kvs) from I.hok a _ ea);exact jb1 PySem.W.kitx_dict I.kIn ⟨o,h1,h2.1⟩ e (fun z=>nomatch z) h
 | @ins a C dx fs ea cl ha hn htk hm=>
  cases (show u=Value.ref a from rx);obtain⟨mA,O,_⟩:=Rh I.hok ea;obtain⟨od,J,_⟩:=O.look;exact jb1 (PySem.W.kitx_own (cl.get _) cl.hd ha hn htk hm) I.kIn J e (fun z=>nomatch z) h
end
structure Eu(k:Nat)(A:Around):Prop where
 hd:A.handled=none
 dp:A.depth+3*k+5<recursionLimit
 un:A.units+16*k+200<cLine
 gd:A.guards=some []
theorem Eu.mono{j k:Nat}(r:Eu k A)(h:j<=k):Eu j A:=⟨r.hd,by have:=r.dp;lia,by have:=r.un;lia,r.gd⟩
theorem Eu.deeper{k:Nat}(r:Eu (k+1) A)(env:Env):Eu k (A.deeper env):=
 ⟨r.hd,by have:=r.dp;show A.depth+1+3*k+5<_;lia,by have:=r.un;show A.units+3+16*k+200<_;lia,r.gd⟩
theorem dW{C:Addr}{kw:List (Str×Value)}:(A.under (.builtin "type.__call__" ⟨.ref C::us,kw⟩)).depth=A.depth+1:=by
 first | rfl | simp[Around.under,Code.weight,Code.isCreation,Code.isGuard,Code.isCaller,Code.frames,Code.isFrame,guardIds]
theorem dU{C:Addr}{kw:List (Str×Value)}:(A.under (.builtin "type.__call__" ⟨.ref C::us,kw⟩)).units=A.units+1:=by
 first | rfl | simp[Around.under,Code.cUnits,Code.frames,Code.isFrame]
theorem Z6{C:Addr}{kw:List (Str×Value)}(h:A.guards=some []):(A.under (.builtin "type.__call__" ⟨.ref C::us,kw⟩)).guards=some []:=by
 have e:(Code.builtin "type.__call__" ⟨.ref C::us,kw⟩).guards=[]:=by
  unfold Code.guards;rw[ua (by show ¬guardIds.contains "type.__call__"=true;decide)]
 have e2:(A.under (.builtin "type.__call__" ⟨.ref C::us,kw⟩)).guards=pushGuards (Code.builtin "type.__call__" ⟨.ref C::us,kw⟩).guards A.guards:=rfl;rw[e2,e,h];rfl
theorem Eu.make{k:Nat}(r:Eu (k+1) A)(C:Addr)(us:List Value)(kw:List (Str×Value)):Eu k (A.under (.builtin "type.__call__" ⟨.ref C::us,kw⟩)):=
 ⟨r.hd,by have:=r.dp;rw[dW];lia,by have:=r.un;rw[dU];lia,Z6 r.gd⟩
theorem Eu.depth{k:Nat}(r:Eu k A):A.depth<recursionLimit:=by have:=r.dp;lia
theorem Eu.units{k:Nat}(r:Eu k A):A.units+64<cLine:=by have:=r.un;lia
noncomputable def Y8:TA:=fun _ H Q=>Q [] H
noncomputable def xW(ta:TE)(tr:TA):TA:=fun Z H Q=>ta Z H fun x H1=>tr Z H1 fun xs H2=>Q (x::xs) H2
section
variable{X:Cx}{e:Expr}{es:List Expr}{te:TE}{t:TA}{pos:Pos}
theorem Ac:PA X [] Y8:=fun _ _ _ _ H Q I h=>Calls.spliced_nil ⟨[],H,I,.nil,h⟩
theorem Aa(ha:PE X e te)(hr:PA X es t)(hs:‹starEach (e::es) X.env=(false,eval e X.env)::starEach es X.env›):PA X (e::es) (xW te t):=by
 intro pos pins s Z H Q I h;rw[hs];show wpAny _ _ (spliced ((false,eval e X.env)::backTo pos (starEach es X.env))) _ _ s;refine Calls.spliced_cons (thn (ha s Z H _ I h) fun u s1 hZ=>?_);obtain⟨x,H1,I1,r1,q1⟩:=hZ;exact thn (hr (pos:=pos) pins s1 Z H1 _ I1 q1) fun us s2 ⟨xs,H2,I2,r2,q2⟩=>⟨x::xs,H2,I2,.cons r1 r2,q2⟩
noncomputable def ABl(t:TA):TE:=fun Z H Q=>t Z H fun xs H1=>xs.length<=sizeLine/\∀p,H1 p=none->Q (.ref p) (upd H1 p (.tup xs))
noncomputable def uA(t:TA):TE:=fun Z H Q=>t Z H fun xs H1=>xs.length<=sizeLine/\∀p,H1 p=none->Q (.ref p) (upd H1 p (.lst xs))
theorem BW{x1}(h:PA X es t):PE X (.Tuple es x1 pos) (ABl t):=by
 intro pins s Z H Q I hq;refine wpAny_Tuple_spliced (thn (h (pos:=pos) pins s Z H _ I hq) fun us s1 ⟨xs,H1,I1,r,z,q⟩=>⟨by rw[<-r.length];exact z,?_⟩);have hf:H1 s1.heap.objs.size=none:=I1.hok.fresh (qq _);refine⟨.ref s1.heap.objs.size,upd H1 s1.heap.objs.size (.tup xs),I1.laid (t':=s1.toks) (fun b u e=>qf _ e) (qq _) ?_,rfl,q _ hf⟩;exact⟨z,us,r,⟨_,xa _ rfl,rfl,_,rfl⟩⟩
theorem FQ(h:PA X es t):PE X (.List es pos) (uA t):=by
 intro pins s Z H Q I hq;refine wpAny_List_spliced (thn (h (pos:=pos) pins s Z H _ I hq) fun us s1 ⟨xs,H1,I1,r,z,q⟩=>⟨by rw[<-r.length];exact z,?_⟩);have hf:H1 s1.heap.objs.size=none:=I1.hok.fresh (qq _);refine⟨.ref s1.heap.objs.size,upd H1 s1.heap.objs.size (.lst xs),I1.laid (t':=s1.toks) (fun b u e=>qf _ e) (qq _) ?_,rfl,q _ hf⟩;exact⟨z,us,0,r,xa _ rfl⟩
end
noncomputable abbrev Sp:=List V->Hp->VK->XK->Prop
noncomputable abbrev CXT:=List Env->Hp->Shared->XK->Value->Shared->Prop
structure fU(P:Program)(w:World)(K:Fr)(mg:Str->Option Value)(base:Heap)(A:Around)(outer:List Env)(s:Shared)(H:Hp):Prop where
 frames:A.frames=some outer
 mod:Mod K mg base
 bs:∀b o,base.get? b=some o->s.heap.get? b=some o/\H b=none
 bsz:base.objs.size<=s.heap.objs.size
 funs:s.heap.FunFrames base outer
 frf:∀b∈frs outer,H b=none
 hok:HOk P w H s.heap
 bare:AllBare s.gens
noncomputable def CE(outer:List Env)(P:Program)(w:World)(H:Hp)(s:Shared)(Q:VK)(u:Value)(s':Shared):Prop:=
 ∃v H',s'.os=s.os/\AllBare s'.gens/\Un (frs outer) [] H H' s.heap s'.heap/\HOk P w H' s'.heap/\RelV v u/\Q v H'
noncomputable def CR(CX:CXT)(outer:List Env)(P:Program)(w:World)(H:Hp)(s:Shared)(Q:VK)(E:XK)(r:Result)(s':Shared):Prop:=
 match r with
 | .ok (.ret u)=>CE outer P w H s Q u s'
 | .ok _=>False
 | .error e=>CX outer H s E e s'
structure FW(P:Program)(w:World)(K:Fr)(mg:Str->Option Value)(base:Heap)(CX:CXT)(k:Nat)(f:Addr)(fd:FuncData)(ps:List Str)(sp:Sp):Prop where
 len:∀vs H Q E,sp vs H Q E->vs.length=ps.length
 run:∀(A:Around) (outer:List Env) (s:Shared) (H:Hp) (args:Args) (us:List Value) (vs:List V) (Q:VK) (E:XK),Eu k A->fU P w K mg base A outer s H->BindsTo s fd args (ps.zip us)->Vals vs us->sp vs H Q E->
  codeAny (model P w) A (.call (.ref f) args) (CR CX outer P w H s Q E) s
theorem fU.make{P:Program}{w:World}{mg:Str->Option Value}{base:Heap}{outer:List Env}{s:Shared}(e:fU P w K mg base A outer s H)(C:Addr)(us:List Value)(kw:List (Str×Value)):
 fU P w K mg base (A.under (.builtin "type.__call__" ⟨.ref C::us,kw⟩)) outer s H:=⟨by first | exact e.frames | (simpa [Around.under,Code.envs,Code.isFrame,pushEnvs] using e.frames),e.mod,e.bs,e.bsz,e.funs,e.frf,e.hok,e.bare⟩
section
variable{X:Cx}{pins:List (Addr×Obj)}{Z:St}{H:Hp}{s s':Shared}
theorem Inv.env0(I:Inv X pins Z H s):fU X.prog X.w X.K X.mg X.base X.A X.stack s H:=
 ⟨I.ok.frames,I.ok.mod,I.bs,zw I.ok.bsz I.sz,I.stack,I.stkFree,I.hok,I.bare⟩
theorem Inv.after{Q:VK}(I:Inv X pins Z H s)(h:CE X.stack X.prog X.w H s Q u s'):EP X pins Z Q u s':=by
 obtain⟨v,H',os,bare,un,hok,r,q⟩:=h;obtain⟨hh,g,d,t,os'⟩:=s';obtain rfl:os'=s.os:=os;exact⟨v,H',I.call (h':=hh) (g':=g) (d':=d) (t':=t) (ch:=[]) un hok bare (fun b z=>absurd z (by simp)),r,q⟩
end
noncomputable def gB(sp:Sp)(dvs:List V)(E:XK)(t:TA):TE:=fun Z H Q=>t Z H fun vs H1=>sp (vs++dvs) H1 Q E
noncomputable def Y9(C:Addr)(m:Str)(sp:Sp)(dvs:List V)(E:XK)(ta:TE)(t:TA):TE:=fun Z H Q=>ta Z H fun x H1=>∃a dx fs,x=.ref a/\H1 a=some (.ins C dx fs)/\fs.lookup m=none/\
 t Z H1 fun vs H2=>sp (x::(vs++dvs)) H2 Q E
noncomputable def V4(C:Addr)(sp:Sp)(dvs:List V)(E:XK)(t:TA):TE:=fun Z H Q=>t Z H fun vs H1=>∀x dx,H1 x=none->H1 dx=none->dx≠x->
 sp (.ref x::(vs++dvs)) (upd (upd H1 dx (.own x)) x (.ins C dx [])) (fun v H2=>v=.non/\Q (.ref x) H2) E
noncomputable def Binds(K:Fr)(fd:FuncData)(ps:List Str)(ds:List Value):Prop:=
 ∀(s:Shared) (us:List Value),K.In s.heap->(us++ds).length=ps.length->BindsTo s fd ⟨us,[]⟩ (ps.zip (us++ds))
theorem Binds.all{fd:FuncData}{ps:List Str}(h:∀us:List Value,us.length=ps.length->bindArgs fd ⟨us,[]⟩=pure (ps.zip us)):Binds K fd ps []:=fun s us _ hl=>by
 rw[uj] at hl ⊢;exact .of_eq (h us hl)
noncomputable def Kr(CX:CXT)(X:Cx)(E:XK):Prop:=∀(pins:List (Addr×Obj)) (Z:St) (H:Hp) (s:Shared) (e:Value) (s':Shared),Inv X pins Z H s->CX X.stack H s E e s'->X.xe e s'
section
variable{X:Cx}{CX:CXT}{k:Nat}{f C:Addr}{fd:FuncData}{ps:List Str}{sp:Sp}{dvs:List V}{ds:List Value}{E:XK}{x m:Str}{p pos apos:Pos}{e o:Expr}{es:List Expr}{ta:TE}{t:TA}
theorem Ot{s:Shared}{Q:VK}{vs:List V}(F:FW X.prog X.w X.K X.mg X.base CX k f fd ps sp)(hr:Eu k X.A)(hb:Binds X.K fd ps ds)(hd:Vals dvs ds)(hx:Kr CX X E)
 (I:Inv X pins Z H s)(r:Vals vs us)(h:sp (vs++dvs) H Q E):wpAny (model X.prog X.w) X.A (call (.ref f) us) (EP X pins Z Q) X.xe s:=by
 have r2:Vals (vs++dvs) (us++ds):=r.append hd;have hl:(us++ds).length=ps.length:=by rw[<-r2.length];exact F.len _ _ _ _ h
 refine wpAny_call (jn0 (F.run X.A X.stack s H ⟨us,[]⟩ (us++ds) (vs++dvs) Q E hr I.env0 (hb s us I.kIn hl) r2 h) fun r s' hq=>?_);cases r with
 | error e=>exact hx pins Z H s e s' I hq
 | ok fl=>
  cases fl with
  | ret u=>exact I.after hq
  | next=>exact False.elim hq
  | brk=>exact False.elim hq
  | cont=>exact False.elim hq
theorem vJ(F:FW X.prog X.w X.K X.mg X.base CX k f fd ps sp)(hr:Eu k X.A)(hg:Gl X x)(hm:X.mg x=some (.ref f))(hk:PySem.W.keepIn X.K (.ref f)=true)(hb:Binds X.K fd ps ds)(hd:Vals dvs ds)(hx:Kr CX X E)
 (ha:PA X (e::es) t)(hdb:(x==("__debug__":Str))=false:=by decide)(he:‹starEach (e::es) X.env=(false,eval e X.env)::starEach es X.env›)(hpl:‹(backTo pos (starEach es X.env)).any (·.1)=false›):
 PE X (.Call (.Name x p) (e::es) [] pos) (gB sp dvs E t):=by
 intro pins s Z H Q I h;refine jc3 (Nb I hg hm ?_ hdb);refine jc8 (h₀:=X.base) I.ok.mod.kin hk (thn (ha (pos:=pos) pins s Z H _ I h) fun us s1 ⟨vs,H1,I1,r,q⟩=>⟨I1.kIn,?_⟩) he hpl;exact Ot F hr hb hd hx I1 r q
theorem vI{pl:Sem Bool}(he:PE X o ta)(c:Cls X.K C)(hm:Meth X.K C m f)(F:FW X.prog X.w X.K X.mg X.base CX k f fd ps sp)(hr:Eu k X.A)(hb:Binds X.K fd ps ds)(hd:Vals dvs ds)(hx:Kr CX X E)(ha:PA X (e::es) t)
 (hst:‹starEach (e::es) X.env=(false,eval e X.env)::starEach es X.env›)(hpl:‹(backTo pos (starEach es X.env)).any (·.1)=false›)
 (ht:‹eval (.Call (.Attribute o m apos) (e::es) [] pos) X.env=(do
  let ov <-eval o X.env
  standAt apos.atName
  let (f,first) <-holding [ov] (getMethod ov m pl)
  callWith pos f first (backTo pos (starEach (e::es) X.env)) (backToKw pos (keywordEach [] X.env)))›):
 PE X (.Call (.Attribute o m apos) (e::es) [] pos) (Y9 C m sp dvs E ta t):=by
 intro pins s Z H Q I h;refine jf7 (pl:=pl) (thn (he s Z H _ I h) fun u s1 hZ=>?_) ht;obtain⟨x,H1,I1,rx,a,dx,fs,ex,ea,l,q⟩:=hZ;subst ex;obtain rfl:u=Value.ref a:=rx;refine Jg I1 ea c hm l ?_;refine jc8 (first:=[.ref a]) (h₀:=X.base) I.ok.mod.kin hm.kp (thn (ha (pos:=pos) pins s1 Z H1 _ I1 q) fun us s2 ⟨vs,H2,I2,r,q2⟩=>⟨I2.kIn,?_⟩) hst hpl
 exact Ot (us:=.ref a::us) (vs:=.ref a::vs) F hr hb hd hx I2 (.cons rfl r) q2
theorem pK{pl:Sem Bool}(he:PE X o ta)(c:Cls X.K C)(hm:Meth X.K C m f)(F:FW X.prog X.w X.K X.mg X.base CX k f fd ps sp)(hr:Eu k X.A)(hb:Binds X.K fd ps ds)(hd:Vals dvs ds)(hx:Kr CX X E)
 (ht:‹eval (.Call (.Attribute o m apos) [] [] pos) X.env=(do
  let ov <-eval o X.env
  standAt apos.atName
  let (f,first) <-holding [ov] (getMethod ov m pl)
  callWith pos f first (backTo pos (starEach [] X.env)) (backToKw pos (keywordEach [] X.env)))›):
 PE X (.Call (.Attribute o m apos) [] [] pos) (Y9 C m sp dvs E ta Y8):=by
 intro pins s Z H Q I h;refine jf7 (pl:=pl) (thn (he s Z H _ I h) fun u s1 hZ=>?_) ht;obtain⟨x,H1,I1,rx,a,dx,fs,ex,ea,l,q⟩:=hZ;subst ex;obtain rfl:u=Value.ref a:=rx;refine Jg I1 ea c hm l ?_;exact jo6 (first:=[.ref a]) I1.kIn hm.kp (Ot (us:=[.ref a]) (vs:=[.ref a]) F hr hb hd hx I1 (.cons rfl .nil) q)
structure Mk(K:Fr)(C f:Addr):Prop where
 makes:PySem.W.makesIn K C=true
 init:PySem.W.findIn K (.ref C) "__init__"=some (some (.ref f))
 fn:PySem.W.isFn K (.ref f)=true
 kp:PySem.W.keepIn K (.ref C)=true
theorem Zo{s:Shared}{Q:VK}{vs:List V}(M:Mk X.K C f)(F:FW X.prog X.w X.K X.mg X.base CX k f fd ps sp)(hr:Eu (k+1) X.A)(hb:Binds X.K fd ps ds)(hd:Vals dvs ds)
 (hx:Kr CX X E)(I:Inv X pins Z H s)(r:Vals vs us)
 (h:∀x dx,H x=none->H dx=none->dx≠x->sp (.ref x::(vs++dvs)) (upd (upd H dx (.own x)) x (.ins C dx [])) (fun v H2=>v=.non/\Q (.ref x) H2) E):
 wpAny (model X.prog X.w) X.A (call (.ref C) us) (EP X pins Z Q) X.xe s:=by
 have hq:=h (s.heap.objs.size+1) s.heap.objs.size (I.hok.fresh (Nat.le_succ _)) (I.hok.fresh (qq _)) (vx (Nat.lt_succ_self _));have I2:=Inv.made (C:=C) I;have r2:Vals (V.ref (s.heap.objs.size+1)::(vs++dvs)) (Value.ref (s.heap.objs.size+1)::(us++ds)):=.cons rfl (r.append hd);have hl:(Value.ref (s.heap.objs.size+1)::us++ds).length=ps.length:=by
  have e:=r2.length;rw[F.len _ _ _ _ hq] at e;exact e.symm
 refine wpAny_call (qH (f:=f) I.kIn M.makes M.init (jc0.mp M.fn) (jn0 (F.run _ X.stack _ _ ⟨Value.ref (s.heap.objs.size+1)::us,[]⟩ (Value.ref (s.heap.objs.size+1)::(us++ds)) _ _ E (hr.make C us [])
  (I2.env0.make C us []) (hb _ (Value.ref (s.heap.objs.size+1)::us) I2.kIn hl) r2 hq) fun r s' hq'=>?_))
 cases r with
 | error e=>exact hx pins Z _ _ e s' I2 hq'
 | ok fl=>
  cases fl with
  | ret u=>
   obtain⟨v,H',I3,rv,ev,q3⟩:=I2.after hq';subst ev;exact⟨rv,⟨V.ref (s.heap.objs.size+1),H',I3,rfl,q3⟩⟩
  | next=>exact False.elim hq'
  | brk=>exact False.elim hq'
  | cont=>exact False.elim hq'
theorem gh(M:Mk X.K C f)(F:FW X.prog X.w X.K X.mg X.base CX k f fd ps sp)(hr:Eu (k+1) X.A)(hg:Gl X x)(hm:X.mg x=some (.ref C))(hb:Binds X.K fd ps ds)(hd:Vals dvs ds)(hx:Kr CX X E)
 (ha:PA X (e::es) t)(hdb:(x==("__debug__":Str))=false:=by decide)(he:‹starEach (e::es) X.env=(false,eval e X.env)::starEach es X.env›)(hpl:‹(backTo pos (starEach es X.env)).any (·.1)=false›):
 PE X (.Call (.Name x p) (e::es) [] pos) (V4 C sp dvs E t):=by
 intro pins s Z H Q I h;refine jc3 (Nb I hg hm ?_ hdb);refine jc8 (h₀:=X.base) I.ok.mod.kin M.kp (thn (ha (pos:=pos) pins s Z H _ I h) fun us s1 ⟨vs,H1,I1,r,q⟩=>⟨I1.kIn,?_⟩) he hpl;exact Zo M F hr hb hd hx I1 r q
theorem pL(M:Mk X.K C f)(F:FW X.prog X.w X.K X.mg X.base CX k f fd ps sp)(hr:Eu (k+1) X.A)(hg:Gl X x)(hm:X.mg x=some (.ref C))(hb:Binds X.K fd ps ds)(hd:Vals dvs ds)(hx:Kr CX X E)
 (hdb:(x==("__debug__":Str))=false:=by decide):PE X (.Call (.Name x p) [] [] pos) (V4 C sp dvs E Y8):=by
 intro pins s Z H Q I h;refine jc3 (Nb I hg hm ?_ hdb);exact jo6 I.kIn M.kp (Zo (us:=[]) M F hr hb hd hx I .nil h)
end
noncomputable def PK(X:Cx)(kws:List Keyword)(t:TA):Prop:=
 ∀(pos:Pos) (pins:List (Addr×Obj)) (s:Shared) (Z:St) (H:Hp) (Q:List V->Hp->Prop),Inv X pins Z H s->t Z H Q->wpAny (model X.prog X.w) X.A (evalAll ((backToKw pos (keywordEach kws X.env)).map (·.2))) (AP X pins Z Q) X.xe s
section
variable{X:Cx}{CX:CXT}{k:Nat}{f C:Addr}{fd:FuncData}{ps ks:List Str}{sp:Sp}{E:XK}{x m:Str}{p pos apos kpos:Pos}{e o:Expr}{es:List Expr}{kws:List Keyword}{te ta:TE}{t tk:TA}{nm:Option Str}
variable{g:List Value->List Value->List Value}{gV:List V->List V->List V}
end
structure DP(N P:List Str)(sc:Scope):Prop where
 kind:sc.kind=.function
 co:sc.isCoroutine=false
 gen:sc.isGenerator=false
 nd:N.Nodup
 pre:N.take P.length=P
 par:∀x∈P,sc.names.lookup x=some .local\/sc.names.lookup x=some .cell
 nofree:∀y∈sc.names,y.2≠.free
theorem Wy{kindOf:Str->Option NameKind}:∀{binds:List (Str×Value)} {m:Str->Option Value},(∀v,(x,v)∉binds)->bindL kindOf binds m x=m x
 | [],_,_=>rfl
 | (n,v)::r,m,h=>by
  unfold bindL;rw[Wy fun w hw=>h w (qh _ hw)];split
  ·have:x≠n:=by rintro rfl;exact h v jv
   simp[this]
  ·rfl
theorem W0{kindOf:Str->Option NameKind}:∀{binds:List (Str×Value)} {m:Str->Option Value},(∀v,(x,v)∉binds)->bindC kindOf binds m x=m x
 | [],_,_=>rfl
 | (n,v)::r,m,h=>by
  unfold bindC;rw[W0 fun w hw=>h w (qh _ hw)];split
  ·rfl
  ·have:x≠n:=by rintro rfl;exact h v jv
   simp[this]
theorem Wz{kindOf:Str->Option NameKind}{v:Value}:∀{P:List Str} {vs:List Value} {i:Nat} {m:Str->Option Value},P.Nodup->P[i]?=some x->vs[i]?=some v->kindOf x=some .local->
 bindL kindOf (P.zip vs) m x=some v
 | [],_,_,_,_,h,_,_=>by simp at h
 | _::_,[],_,_,_,_,h,_=>by simp at h
 | p::P,w::vs,0,m,nd,h1,h2,hk=>by
  simp at h1 h2;subst h1;subst h2;show bindL kindOf ((p,w)::P.zip vs) m p=_;unfold bindL;rw[Wy fun v hv=>(jo1.mp nd).1 (List.of_mem_zip hv).1,ya hk];simp
 | p::P,w::vs,i+1,m,nd,h1,h2,hk=>by
  show bindL kindOf ((p,w)::P.zip vs) m x=_;unfold bindL;exact Wz (i:=i) (jo1.mp nd).2 (by simpa using h1) (by simpa using h2) hk
theorem W2{kindOf:Str->Option NameKind}{v:Value}:∀{P:List Str} {vs:List Value} {i:Nat} {m:Str->Option Value},P.Nodup->P[i]?=some x->vs[i]?=some v->kindOf x≠some .local->
 bindC kindOf (P.zip vs) m x=some v
 | [],_,_,_,_,h,_,_=>by simp at h
 | _::_,[],_,_,_,_,h,_=>by simp at h
 | p::P,w::vs,0,m,nd,h1,h2,hk=>by
  simp at h1 h2;subst h1;subst h2;show bindC kindOf ((p,w)::P.zip vs) m p=_;unfold bindC;rw[W0 fun v hv=>(jo1.mp nd).1 (List.of_mem_zip hv).1,ua hk];simp
 | p::P,w::vs,i+1,m,nd,h1,h2,hk=>by
  show bindC kindOf ((p,w)::P.zip vs) m x=_;unfold bindC;exact W2 (i:=i) (jo1.mp nd).2 (by simpa using h1) (by simpa using h2) hk
noncomputable def start(N:List Str)(vs:List V):St:=vs.map some++List.replicate (N.length-vs.length) none
noncomputable def Vs(CX:CXT)(P:Program)(w:World)(K:Fr)(mg:Str->Option Value)(base:Heap)(N:List Str)(qual:Str)(scope:Scope)(f:Addr)(cd:Value)(A:Around)(outer:List Env)(s:Shared)(H:Hp)(E:XK):Cx where
 prog:=P
 w:=w
 K:=K
 mg:=mg
 base:=base
 A:=A.deeper (envOfC qual scope s.heap.objs.size f cd)
 N:=N
 s₀:=s
 H₀:=H
 env:=envOfC qual scope s.heap.objs.size f cd
 outer:=outer
 stack:=envOfC qual scope s.heap.objs.size f cd::outer
 ex:=[]
 calm:=true
 fn:=fun _=>true
 pn:=[]
 xe:=fun e s'=>wpAny (model P w) (A.deeper (envOfC qual scope s.heap.objs.size f cd)) («leaving» (envOfC qual scope s.heap.objs.size f cd) e) (fun _ s''=>CX outer H s E e s'') (fun e' s''=>CX outer H s E e' s'') s'
theorem aK{sc:Scope}{n:Nat}(h:sc.names.lookup x=some .cell):∃c,(cellsFrom n sc.names []).lookup x=some c:=by
 have q:=PySem.W.cellsFrom_some sc.names n [] (.inl h);exact jg4.mp q
theorem kO{CX:CXT}{P:Program}{w:World}{mg:Str->Option Value}{base:Heap}{N ps:List Str}{qual:Str}{scope:Scope}{f:Addr}{cd:Value}{outer:List Env}{s s1:Shared}{E:XK}{vs:List V}
 (S:DP N ps scope)(hd:A.handled=none)(e0:fU P w K mg base A outer s H)(hl:vs.length=ps.length)(r:Vals vs us)
 (x:InCallC s s.heap.objs.size (bindL (envOfC qual scope s.heap.objs.size f cd).kindOf (ps.zip us) fun _=>none) (cellsFrom (s.heap.objs.size+1) scope.names []) (bindC (envOfC qual scope s.heap.objs.size f cd).kindOf (ps.zip us) fun _=>none) s1):
 Inv (Vs CX P w K mg base N qual scope f cd A outer s H E) [] (start N vs) H s1:=by
 have hpl:ps.length<=N.length:=by have:=xk List.length S.pre;rw[jf0] at this;lia
 obtain⟨h1,tk,rfl,hk⟩:=x.done;have noA:∀b:Addr,b∉(Vs CX P w K mg base N qual scope f cd A outer s H E).ex:=fun b z=>absurd (show b∈([]:List Addr) from z) (by simp);refine⟨⟨e0.mod,S.kind,rfl,rfl,qq _,fun y z c h1 h2=>?_,fun y hy=>?_,fun y c _ h=>?_,fun _=>hd,Around.frames_deeper e0.frames,.inr ⟨rfl,rfl⟩,fun b z=>absurd z (noA b),e0.bs,e0.bsz,fun b _ _=>noA b,fun b z=>absurd z (noA b),e0.funs,e0.frf⟩,
  rfl,e0.bare,Un.kept hk,⟨_,x.toInCall.ns,fun i y v h1 h2 h3=>?_⟩,fun y c h=>⟨_,x.cell y c h⟩,e0.hok.fresh (qq _),fun y c h=>?_,fun p hp=>absurd (show p∈([]:List (Addr×Obj)) from hp) (by simp),e0.hok.kept hk,?_⟩
 ·exact name_of_addr x.apart (jh5 h1) (jh5 h2)
 ·have hy:scope.names.lookup y=some .cell\/scope.names.lookup y=some .free:=hy;rcases hy with hy | hy
  ·exact aK hy
  ·exact absurd rfl (S.nofree _ (jh5 hy))
 ·exact Nat.le_of_lt (x.above y c (jh5 h))
 ·have hi:i<vs.length:=by
   unfold start at h2;by_cases hi:i<vs.length
   ·exact hi
   ·rw[je5 (by simpa using hi)] at h2;rw[List.getElem?_replicate] at h2;split at h2<;>cases h2
  have ha:vs[i]?=some v:=by
   unfold start at h2;rw[jj6 (by simpa using hi),zo] at h2;cases e:vs[i]? with
   | none=>rw[e] at h2;cases h2
   | some a=>rw[e] at h2;cases h2;rfl
  obtain⟨u,hu,rv⟩:=r.get ha;have hp:ps[i]?=some y:=by
   rw[<-S.pre,jk2 (by lia)];exact h1
  have ndP:ps.Nodup:=by rw[<-S.pre];exact S.nd.sublist (List.take_sublist _ _)
  refine⟨u,rv,?_⟩;rcases S.par y (zv hp) with k | k
  ·exact .inl ⟨k,Wz ndP hp hu k⟩
  ·obtain⟨c,e⟩:=aK (n:=s.heap.objs.size+1) k;refine .inr ⟨.inl k,c,e,?_⟩;have q:=x.cell y c e;rw[W2 ndP hp hu (by show scope.names.lookup y≠_;rw[k];decide)] at q;exact q
 ·exact e0.hok.fresh (Nat.le_of_lt (x.above y c (jh5 h)))
 ·unfold start;show _=N.length;rw[qr,js,jb9];lia
theorem yO{CX:CXT}{P:Program}{w:World}{mg:Str->Option Value}{base:Heap}{k:Nat}{f:Addr}{name qual:Str}{params:Arguments}{body:List Stmt}{scope:Scope}{dV kV doc pm cdv ct oc:Value}{an od:Option Addr}
 {osl:Array (Option Value)}{N ps:List Str}{sp:Sp}(lk:K.lookup f=some ⟨oc,od,.func (PySem.W.fnOf name qual params body scope dV kV doc pm an cdv ct),osl⟩)(hcd:PySem.W.codeIn K cdv qual=true)(S:DP N ps scope)
 (len:∀vs H Q E,sp vs H Q E->vs.length=ps.length)
 (hbody:∀(A:Around) (outer:List Env) (s:Shared) (H:Hp) (vs:List V) (Q:VK) (E:XK),Eu k (A.deeper (envOfC qual scope s.heap.objs.size f cdv))->sp vs H Q E->
  ∃t,PSs (Vs CX P w K mg base N qual scope f cdv A outer s H E) body t/\t { nx:=fun _ H'=>Q .non H',rt:=Q } (start N vs) H):
 FW P w K mg base CX (k+1) f (PySem.W.fnOf name qual params body scope dV kV doc pm an cdv ct) ps sp:=by
 refine⟨len,fun A outer s H args us vs Q E hr e0 hb r hsp=>?_⟩;have hl:=len _ _ _ _ hsp;have KX:K.In s.heap:=e0.mod.kin.keeps fun b o e=>(e0.bs b o e).1;have lim:s.heap.NoLimit:=e0.mod.nolimit.keeps fun b o e=>(e0.bs b o e).1;have hkind:∀y∈ps.zip us,scope.names.lookup y.1=some .local\/(scope.names.lookup y.1=some .cell/\((cellsFrom (s.heap.objs.size+1) scope.names []).lookup y.1).isSome=true):=fun⟨n,v⟩ hy=>by
  rcases S.par n (List.of_mem_zip hy).1 with q | q
  ·exact .inl q
  ·exact .inr ⟨q,PySem.W.cellsFrom_some _ _ _ (.inl q)⟩
 refine codeAny_call_function hr.depth (KX _ _ lk) rfl S.co S.gen rfl (PySem.W.codeRec_of KX hcd) (hb _ _ _ _ ?_);refine wpAny_newFunctionEnv_cells S.kind hkind fun env he s1 x=>?_;subst he;refine⟨lim.keeps x.toInCall.keep,codeAny_func ?_⟩;obtain⟨t,ht,hq⟩:=hbody A outer s H vs Q E (hr.deeper _) hsp;have I:Inv (Vs CX P w K mg base N qual scope f cdv A outer s H E) [] (start N vs) H s1:=kO S hr.hd e0 hl r x;refine ja9 (ht s1 (start N vs) H _ I hq) (fun fl s' hs=>?_) fun e s' hs=>hs;have fin:∀{Z':St} {H':Hp} {v:V} {u:Value},Inv (Vs CX P w K mg base N qual scope f cdv A outer s H E) [] Z' H' s'->RelV v u->Q v H'->CE outer P w H s Q u s':=
  fun{Z' H' v u} J rv q=>⟨v,H',J.os,J.bare,J.base,J.hok,rv,q⟩
 cases fl with
 | ret u=>
  obtain⟨v,Z',H',J,rv,q⟩:=hs;exact fin J rv q
 | next=>
  obtain⟨Z',H',J,q⟩:=hs;exact fin (v:=V.non) (u:=Value.none) J rfl q
 | brk=>
  obtain⟨_,_,_,q⟩:=hs;exact False.elim q
 | cont=>
  obtain⟨_,_,_,q⟩:=hs;exact False.elim q
section
variable{X:Cx}{x:Str}{p pos:Pos}{e:Expr}{es:List Expr}{t:TA}{id T:String}{r:List V->Hp->VK->Prop}
noncomputable def tCB(r:List V->Hp->VK->Prop)(t:TA):TE:=fun Z H Q=>t Z H fun vs H1=>r vs H1 Q
theorem BX(hc:Hq X (.builtin id) r)(hg:Gl X x)(hm:X.mg x=none)(hv:bootBuiltins x=some (.builtin id))(ha:PA X (e::es) t)(hn:x≠"__name__":=by decide)(hdb:(x==("__debug__":Str))=false:=by decide)
 (he:‹starEach (e::es) X.env=(false,eval e X.env)::starEach es X.env›)(hpl:‹(backTo pos (starEach es X.env)).any (·.1)=false›):PE X (.Call (.Name x p) (e::es) [] pos) (tCB r t):=by
 intro pins s Z H Q I h;refine jc3 (Iu I hg hm hv ?_ hn hdb);exact PyProof.Rows.callWith_builtin1 (thn (ha (pos:=pos) pins s Z H _ I h) fun us s1 ⟨vs,H1,I1,r1,q1⟩=>hc pins s1 Z H1 vs us Q I1 r1 q1) he hpl
theorem BP(hc:Hq X (.type T) r)(hg:Gl X x)(hm:X.mg x=none)(hv:bootBuiltins x=some (.type T))(ha:PA X (e::es) t)(hn:x≠"__name__":=by decide)(hdb:(x==("__debug__":Str))=false:=by decide)
 (he:‹starEach (e::es) X.env=(false,eval e X.env)::starEach es X.env›)(hpl:‹(backTo pos (starEach es X.env)).any (·.1)=false›):PE X (.Call (.Name x p) (e::es) [] pos) (tCB r t):=by
 intro pins s Z H Q I h;refine jc3 (Iu I hg hm hv ?_ hn hdb);exact ko (thn (ha (pos:=pos) pins s Z H _ I h) fun us s1 ⟨vs,H1,I1,r1,q1⟩=>hc pins s1 Z H1 vs us Q I1 r1 q1) he hpl
end
end L2
namespace HT
open PySem PyProof.Rows
section
open PySem.SeqAt
open PySem.AutoSeq1 (wpAny_loadPart')
open PySem.MeetsSeq PySem.MeetsSeq2 PySem.MeetsSeq3
end
section
variable{prog:Program}{w:World}{A:Around}{E:Value->Shared->Prop}{s:Shared}
noncomputable def sIx(n d:Nat):Option Int->Nat
 | none=>d
 | some v=>if v<0 then (v+(n:Int)).toNat else min v.toNat n
theorem sIx_none(n d:Nat):sIx n d none=d:=rfl
theorem sIx_nat(n d k:Nat):sIx n d (some (k:Int))=min k n:=by
 show(if (k:Int)<0 then ((k:Int)+(n:Int)).toNat else min (k:Int).toNat n)=min k n;rw[ua (by lia),xi]
end
end HT
namespace L2
open PySem PySem.Spec PyProof.Rows
noncomputable abbrev TO:=St->Hp->(Option Int->Hp->Prop)->Prop
noncomputable def PO(X:Cx)(e:Option Expr)(t:TO):Prop:=
 ∀ ⦃pins:List (Addr×Obj)⦄ (s:Shared) (Z:St) (H:Hp) (Q:Option Int->Hp->Prop),Inv X pins Z H s->t Z H Q->
  wpAny (model X.prog X.w) X.A (evalPart e X.env) (fun u s'=>∃o H',Inv X pins Z H' s'/\IsPart u o/\Q o H') X.xe s
noncomputable def fu:TO:=fun _ H Q=>Q none H
noncomputable def xQ(t:TE):TO:=fun Z H Q=>t Z H fun x H1=>∃i,x=.int i/\Q (some i) H1
theorem intsAre_of{ns:List Int}:∀{us:List Value},Vals (ns.map V.int) us->IntsAre us ns:=by
 induction ns with
 | nil=>intro us r;rw[jo9] at r;cases r;exact .nil
 | cons n ns ih=>
  intro us r;rw[zi] at r;cases r with
  | cons r1 r2=>
   obtain⟨t,e⟩:=r1;subst e;exact .cons n t (ih r2)
section
variable{X:Cx}{e:Expr}{te:TE}{lo hi:Option Expr}{tl th:TO}{pos p2:Pos}
theorem Ed:PO X none fu:=by
 intro pins s Z H Q I h;rw[evalPart_none];exact xp ⟨none,H,I,.none,h⟩
theorem DN(h:PE X e te):PO X (some e) (xQ te):=by
 intro pins s Z H Q I hw;rw[evalPart_some];refine thn (h s Z H _ I hw) fun u s1 hZ=>?_;obtain⟨x,H1,I1,r1,q1⟩:=hZ;obtain⟨i,rfl,q⟩:=q1;obtain⟨t,rfl⟩:=r1;exact⟨some i,H1,I1,.int i t,q⟩
noncomputable def SlR(X:Cx)(r:V->Option Int->Option Int->Hp->VK->Prop):Prop:=
 ∀(pins:List (Addr×Obj)) (s:Shared) (Z:St) (H:Hp) (x:V) (v vl vu:Value) (lo hi:Option Int) (sl:Addr) (Q:VK),Inv X pins Z H s->RelV x v->s.heap.IsSliceOf sl vl vu .none->IsPart vl lo->IsPart vu hi->r x lo hi H Q->
  ∃T id,typeLookup (.type T) "__getitem__"=pure (some (.builtin id))/\s.TypeIs v T/\wpAny (model X.prog X.w) X.A (getItem v (.ref sl)) (EP X pins Z Q) X.xe s
noncomputable def tSl(r:V->Option Int->Option Int->Hp->VK->Prop)(te:TE)(tl th:TO):TE:=fun Z H Q=>te Z H fun x H1=>tl Z H1 fun l H2=>th Z H2 fun u H3=>r x l u H3 Q
theorem Ck{r:V->Option Int->Option Int->Hp->VK->Prop}(hr:SlR X r)(he:PE X e te)(hl:PO X lo tl)(hu:PO X hi th):PE X (.Subscript e (.Slice lo hi none p2) pos) (tSl r te tl th):=by
 intro pins s Z H Q I h;refine Subscript_ (thn (he s Z H _ I h) fun v s1 hZ=>?_);obtain⟨x,H1,I1,r1,q1⟩:=hZ;refine wpAny_Slice (thn (hl s1 Z H1 _ I1 q1) fun vl s2 ⟨l,H2,I2,pl,q2⟩=>thn (hu s2 Z H2 _ I2 q2) fun vu s3 hZ=>?_);obtain⟨u,H3,I3,pu,q3⟩:=hZ;rw[evalPart_none];refine xp ?_;have I4:Inv X pins Z H3 { s3 with heap:=s3.heap.push { cls:=.type "slice",data:=.fields #[vl,vu,.none] } }:=I3.kept (t':=s3.toks) fun b ob q=>qf _ q;obtain⟨T,id,hT,ht,hg⟩:=hr pins { s3 with heap:=s3.heap.push { cls:=.type "slice",data:=.fields #[vl,vu,.none] } } Z H3 x v vl vu l u s3.heap.objs.size Q I4 r1 (Heap.IsSliceOf.new ..) pl pu q3;show wpAny (model X.prog X.w) X.A (subscriptTail e (.Slice lo hi none p2) v (.ref s3.heap.objs.size)) (EP X pins Z Q) X.xe { s3 with heap:=s3.heap.push { cls:=.type "slice",data:=.fields #[vl,vu,.none] } };exact tail_any (ops:=[.ref s3.heap.objs.size,v]) ht hT hg (by with_unfolding_all rfl)
noncomputable def Hu(xs:List V)(lo hi:Option Int):List V:=(xs.drop (HT.sIx xs.length 0 lo)).take (HT.sIx xs.length xs.length hi-HT.sIx xs.length 0 lo)
theorem aJ(xs:List V)(lo hi:Option Int):(Hu xs lo hi).length<=xs.length:=by
 unfold Hu;rw[jf0,jb5];lia
end
noncomputable def ixN(n:Nat)(i:Int):Option Nat:=if 0<=i then (if i<n then some i.toNat else none) else if -(n:Int)<=i then some (i+n).toNat else none
noncomputable def atI{α:Type}(xs:List α)(i:Int):Option α:=(ixN xs.length i).bind fun j=>xs[j]?
theorem iI{n:Nat}{i:Int}{j:Nat}(h:ixN n i=some j):seqIndex? i n=some j/\j<n/\ -(n:Int)<=i/\i<n:=by
 unfold ixN at h;by_cases h0:0<=i
 ·rw[ya h0] at h;by_cases h1:i<n
  ·rw[ya h1] at h;have e:i.toNat=j:=yv h;exact⟨by rw[seqIndex_of h0 h1,e],by lia,by lia,h1⟩
  ·rw[ua h1] at h;cases h
 ·rw[ua h0] at h;by_cases h1: -(n:Int)<=i
  ·rw[ya h1] at h;have e:(i+n).toNat=j:=yv h;exact⟨by rw[seqIndex_neg (by lia) h1,e],by lia,h1,by lia⟩
  ·rw[ua h1] at h;cases h
theorem Yo{α:Type}{xs:List α}{i:Int}{v:α}(h:atI xs i=some v):∃j,seqIndex? i xs.length=some j/\xs[j]?=some v/\j<xs.length/\ -(xs.length:Int)<=i/\i<xs.length:=by
 unfold atI at h;cases e:ixN xs.length i with
 | none=>rw[e] at h;cases h
 | some j=>
  rw[e] at h;obtain⟨h1,h2,h3,h4⟩:=iI e;exact⟨j,h1,h,h2,h3,h4⟩
theorem Dm{α:Type}{xs:List α}{j:Nat}{v:α}(h:xs[j]?=some v):atI xs (j:Int)=some v:=by
 have hj:j<xs.length:=(zn.mp h).1;have e:ixN xs.length (j:Int)=some j:=by
  unfold ixN;rw[ya (by lia),ya (by lia)];simp
 unfold atI;rw[e];exact h
noncomputable def xF(b:Expr):Prop:=∀o i,subscripted b false o i=operate [o,i] (getItem o i)
noncomputable def IxR(X:Cx)(r:R2):Prop:=
 ∀(value slice:Expr) (pins:List (Addr×Obj)) (s:Shared) (Z:St) (H:Hp) (x y:V) (v u:Value) (Q:VK),Inv X pins Z H s->RelV x v->RelV y u->r x y H Q->
  subscripted slice false v u=operate [v,u] (getItem v u)->wpAny (model X.prog X.w) X.A (subscriptTail value slice v u) (EP X pins Z Q) X.xe s
noncomputable def MtR(X:Cx)(id:String)(r:V->List V->Hp->VK->Prop):Prop:=
 ∀(pins:List (Addr×Obj)) (s:Shared) (Z:St) (H:Hp) (x:V) (xs:List V) (v:Value) (us:List Value) (Q:VK),Inv X pins Z H s->RelV x v->Vals xs us->r x xs H Q->
  wpAny (model X.prog X.w) X.A (call (.builtin id) (v::us)) (EP X pins Z Q) X.xe s
section
variable{X:Cx}{a b:Expr}{ta tb:TE}{pos:Pos}
theorem Dy{r:R2}(hr:IxR X r)(ha:PE X a ta)(hb:PE X b tb)(hs:xF b:=by exact fun _ _=>rfl):PE X (.Subscript a b pos) (tOp r ta tb):=by
 intro pins s Z H Q I h;exact Subscript_ (ABT ha hb I h fun v u s2 x y H2 I2 rx ry q=>hr a b pins s2 Z H2 x y v u Q I2 rx ry q (hs _ _))
noncomputable def vD(K:Fr):R2:=fun x y H Q=>∃p xs i v,x=.ref p/\y=.int i/\SqL K H p xs/\atI xs i=some v/\Q v H
noncomputable def vC(K:Fr):R2:=fun x y H Q=>∃p xs i v,x=.ref p/\y=.int i/\SqT K H p xs/\atI xs i=some v/\Q v H
noncomputable def ADs:R2:=fun x y H Q=>∃z i c,x=.str z/\y=.int i/\z.length<=sizeLine/\atI z.cps.toList i=some c/\Q (.str ⟨#[c]⟩) H
theorem GR:IxR X (vD X.K):=by
 intro value slice pins s Z H x y v u Q I rx ry h hs;obtain⟨p,xs,i,z,rfl,rfl,hq,he,q⟩:=h;cases rx;obtain⟨t,rfl⟩:=ry;obtain⟨its,r,pl,hz⟩:=I.list hq;obtain⟨j,h1,h2,h3,h4,h5⟩:=Yo he;obtain⟨w,ew,rw'⟩:=r.get h2;have hl:=r.length;have hn:=MN;have fin:EP X pins Z Q w s:=⟨z,H,I,rw',q⟩;by_cases h0:0<=i
 ·have hj:i.toNat=j:=by
   rw[seqIndex_of h0 h5] at h1;exact yv h1
  exact item_listR pl.isList h0 (by lia) (by rw[hj];simpa using ew) fin hs
 ·have hj:(i+(its.toArray.size:Int)).toNat=j:=by
   rw[seqIndex_neg (by lia) h4] at h1;rw[xc,<-hl];exact yv h1
  exact subscriptTail_builtinR (x:=w) pl.isList.typeIs slot_list_getitem.lookup
   (wpAny_getItem_list_neg (Q:=fun r s'=>r=w/\EP X pins Z Q r s') pl.isList (by lia) (by rw[xc]<;>lia) (by lia) (by rw[hj];simpa using ew) ⟨rfl,fin⟩) hs
theorem MT:IxR X (vC X.K):=by
 intro value slice pins s Z H x y v u Q I rx ry h hs;obtain⟨p,xs,i,z,rfl,rfl,hq,he,q⟩:=h;cases rx;obtain⟨t,rfl⟩:=ry;obtain⟨its,r,pl,hz⟩:=I.tuple hq;obtain⟨j,h1,h2,h3,h4,h5⟩:=Yo he;obtain⟨w,ew,rw'⟩:=r.get h2;have hl:=r.length;have hn:=MN;have fin:EP X pins Z Q w s:=⟨z,H,I,rw',q⟩;exact subscriptTail_builtinR (x:=w) pl.typeIs slot_tuple_getitem.lookup
  (getItem_tuple (j:=j) (Q:=fun r s'=>r=w/\EP X pins Z Q r s') pl (by lia) (by lia) (by rw[xc,<-hl];exact h1) (by simpa using ew) ⟨rfl,fin⟩) hs
theorem dj:IxR X ADs:=by
 intro value slice pins s Z H x y v u Q I rx ry h hs;obtain⟨z,i,c,rfl,rfl,hz,he,q⟩:=h;obtain⟨t,rfl⟩:=rx;obtain⟨t',rfl⟩:=ry;obtain⟨j,h1,h2,h3,h4,h5⟩:=Yo he;have hl:z.cps.toList.length=z.length:=by simp[Str.length]
 rw[hl] at h1 h4 h5;have hn:=MN;exact tail_any (typeIs_str s z t) slot_str_getitem.lookup (getItem_str (c:=c) (by
  have e1:decide (i< -(2^63:Int))=false:=decide_eq_false (by lia);have e2:decide (i>=2^63)=false:=decide_eq_false (by lia);rw[e1,e2,jk4]) (by rw[h1];simpa using h2) ⟨.str ⟨#[c]⟩,H,I.tok _,⟨_,rfl⟩,q⟩) hs
theorem dR(its:List Value)(n j:Nat)(u:Value):Obj.mapSeq (·.setIfInBounds j u) { cls:=.type "list",data:=.seq its.toArray n }={ cls:=.type "list",data:=.seq (its.set j u).toArray n }:=by
 simp[Obj.mapSeq]
theorem Inv.lst{pins:List (Addr×Obj)}{Z:St}{H:Hp}{s:Shared}{p:Addr}{xs:List V}(I:Inv X pins Z H s)(h:H p=some (.lst xs)):
 ∃(its:List Value) (n:Nat),Vals xs its/\s.heap.get? p=some { cls:=.type "list",data:=.seq its.toArray n }/\xs.length<=sizeLine:=by
 obtain⟨z,its,n,r,e⟩:=I.hok p _ h;exact⟨its,n,r,e,z⟩
theorem Inv.lstUpd{pins:List (Addr×Obj)}{Z:St}{H:Hp}{s:Shared}{p:Addr}{xs ys:List V}{its its':List Value}{n n':Nat}{f:Obj->Obj}(I:Inv X pins Z H s)(h:H p=some (.lst xs))
 (ho:s.heap.get? p=some { cls:=.type "list",data:=.seq its.toArray n })(hf:f { cls:=.type "list",data:=.seq its.toArray n }={ cls:=.type "list",data:=.seq its'.toArray n' })(r:Vals ys its')(hz:ys.length<=sizeLine)(t:Nat):
 Inv X pins Z (upd H p (.lst ys)) { s with heap:=s.heap.update p f,toks:=t }:=by
 have e:(s.heap.update p f).get? p=some { cls:=.type "list",data:=.seq its'.toArray n' }:=by
  rw[jf2 f ho (by rw[hf]<;>rfl),hf]
 refine I.write (x:=p) (e:=p) (by rw[h];trivial) (.inl rfl) (fun b u hb q=>(ja5 _ _ (Ne.symm hb)).trans q) ⟨_,e⟩ ?_;exact⟨hz,its',n',r,e⟩
noncomputable def xu:V->V->V->Hp->(Hp->Prop)->Prop:=fun o i v H Q=>∃p xs k j,o=.ref p/\i=.int k/\H p=some (.lst xs)/\ixN xs.length k=some j/\Q (upd H p (.lst (xs.set j v)))
theorem set_list:ADX X xu:=by
 intro pins s Z H o i v ov iv u Q I ro ri rv h;obtain⟨p,xs,k,j,rfl,rfl,hp,hj,q⟩:=h;cases ro;obtain⟨t,rfl⟩:=ri;obtain⟨its,n,r,ho,hz⟩:=I.lst hp;obtain⟨h1,h2,h3,h4⟩:=iI hj;have hl:=r.length;have hn:=MN;have I':Inv X pins Z (upd H p (.lst (xs.set j v))) { s with heap:=s.heap.update p (Obj.mapSeq (·.setIfInBounds j u)) }:=
  I.lstUpd hp ho (dR its n j u) (r.set rv j) (by rw[List.length_set];exact hz) s.toks
 by_cases h0:0<=k
 ·have hk:k.toNat=j:=by
   rw[seqIndex_of h0 h4] at h1;exact yv h1
  exact PySem.W.ki_setAt ho h0 (by lia) (by rw[xc,<-hl];exact h4) (by rw[hk];exact⟨_,I',q⟩)
 ·have hk:(k+(its.toArray.size:Int)).toNat=j:=by
   rw[seqIndex_neg (by lia) h3] at h1;rw[xc,<-hl];exact yv h1
  exact PySem.W.ki_setBack ho (by lia) (by rw[xc,<-hl];exact h3) (by lia) (by rw[hk];exact⟨_,I',q⟩)
theorem XX(lo hi:Option Int)(n:Nat):(sliceBounds lo hi none n).1=((HT.sIx n 0 lo:Nat):Int)/\(sliceBounds lo hi none n).2.1=((HT.sIx n n hi:Nat):Int)/\(sliceBounds lo hi none n).2.2=1:=by
 refine⟨?_,?_,rfl⟩
 ·cases lo with
  | none=>simp[sliceBounds,HT.sIx]
  | some i=>
   simp only[sliceBounds,HT.sIx,Option.getD_none,show(1:Int)>0 by decide,if_true];by_cases h:i<0
   ·simp only[h,if_true]<;>lia
   ·simp only[h,if_false]<;>lia
 ·cases hi with
  | none=>simp[sliceBounds,HT.sIx]
  | some i=>
   simp only[sliceBounds,HT.sIx,Option.getD_none,show(1:Int)>0 by decide,if_true];by_cases h:i<0
   ·simp only[h,if_true]<;>lia
   ·simp only[h,if_false]<;>lia
theorem VN(its:List Value)(lo hi:Option Int):slicePick its.toArray lo hi none=((its.drop (HT.sIx its.length 0 lo)).take (HT.sIx its.length its.length hi-HT.sIx its.length 0 lo)).toArray:=by
 obtain⟨h1,h2,h3⟩:=XX lo hi its.toArray.size;unfold slicePick;rw[h1,h2,h3];simp only[sliceRange_one,pick_run,xc]<;>rfl
noncomputable def ACh(K:Fr):V->Option Int->Option Int->Hp->VK->Prop:=fun x lo hi H Q=>∃a xs,x=.ref a/\SqL K H a xs/\∀p,H p=none->Q (.ref p) (upd H p (.lst (Hu xs lo hi)))
theorem FJ:SlR X (ACh X.K):=by
 intro pins s Z H x v vl vu lo hi sl Q I rx hs pl pu h;obtain⟨a,xs,rfl,hx,q⟩:=h;cases rx;obtain⟨its,r,ht,hz⟩:=I.list hx;have hlen:=r.length;refine⟨"list",_,slot_list_getitem.lookup,ht.isList.typeIs,?_⟩;refine wpAny_getItem_list_slice ht.isList hs pl pu .none (by simp) ?_ (by rw[xc]<;>lia);rw[VN,<-hlen];refine⟨.ref s.heap.objs.size,_,I.laid (t':=s.toks) (o:=.lst (Hu xs lo hi)) (fun b ob q=>qf _ q) (qq _) ?_,rfl,q _ (I.hok.fresh (qq _))⟩;exact⟨zw (aJ xs lo hi) hz,_,0,(r.drop (HT.sIx xs.length 0 lo)).take (HT.sIx xs.length xs.length hi-HT.sIx xs.length 0 lo),xa _ rfl⟩
noncomputable def QC:V->Bool
 | .non=>true
 | .bl _=>true
 | .int _=>true
 | .str _=>true
 | _=>false
noncomputable def eqV:V->V->Bool
 | .non,.non=>true
 | .bl a,.bl b=>a==b
 | .bl a,.int b=>(if a then 1 else 0)==b
 | .int a,.bl b=>a==(if b then 1 else 0)
 | .int a,.int b=>a==b
 | .str a,.str b=>a==b
 | _,_=>false
theorem AAz{A:Around}{s:Shared}{y x:V}{u v:Value}(ry:RelV y u)(rx:RelV x v)(fy:QC y=true)(fx:QC x=true):SeqAt.EqAt A s u v (eqV y x):=by
 cases y with
 | non=>
  cases ry;cases x with
  | non=>cases rx;exact SeqAt.EqAt.same _
  | bl b=>cases rx;exact SeqAt.EqAt.none_bool b
  | int b=>obtain⟨t,rfl⟩:=rx;exact SeqAt.EqAt.none_int b t
  | str b=>obtain⟨t,rfl⟩:=rx;exact SeqAt.EqAt.none_str b t
  | _=>exact absurd (show false=true from fx) zk
 | bl a=>
  cases ry;cases x with
  | non=>cases rx;exact SeqAt.EqAt.bool_none a
  | bl b=>cases rx;exact SeqAt.EqAt.bool_bool a b
  | int b=>obtain⟨t,rfl⟩:=rx;exact SeqAt.EqAt.bool_int a b t
  | str b=>obtain⟨t,rfl⟩:=rx;exact SeqAt.EqAt.bool_str a b t
  | _=>exact absurd (show false=true from fx) zk
 | int a=>
  obtain⟨t',rfl⟩:=ry;cases x with
  | non=>cases rx;exact SeqAt.EqAt.int_none a t'
  | bl b=>cases rx;exact SeqAt.EqAt.int_bool a t' b
  | int b=>obtain⟨t,rfl⟩:=rx;exact SeqAt.EqAt.int_int a t' b t
  | str b=>obtain⟨t,rfl⟩:=rx;exact SeqAt.EqAt.int_str a t' b t
  | _=>exact absurd (show false=true from fx) zk
 | str a=>
  obtain⟨t',rfl⟩:=ry;cases x with
  | non=>cases rx;exact SeqAt.EqAt.str_none a t'
  | bl b=>cases rx;exact SeqAt.EqAt.str_bool a t' b
  | int b=>obtain⟨t,rfl⟩:=rx;exact SeqAt.EqAt.str_int a t' b t
  | str b=>obtain⟨t,rfl⟩:=rx;exact SeqAt.EqAt.str_str a t' b t
  | _=>exact absurd (show false=true from fx) zk
 | _=>exact absurd (show false=true from fy) zk
noncomputable def eqU(x:V)(u:Value):Bool:=match u with
 | .none=>eqV .non x
 | .bool b=>eqV (.bl b) x
 | .int i _=>eqV (.int i) x
 | .str z _=>eqV (.str z) x
 | _=>false
theorem qu{x y:V}{u:Value}(r:RelV y u)(f:QC y=true):eqU x u=eqV y x:=by
 cases y with
 | non=>cases r;rfl
 | bl b=>cases r;rfl
 | int i=>obtain⟨t,rfl⟩:=r;rfl
 | str z=>obtain⟨t,rfl⟩:=r;rfl
 | _=>exact absurd (show false=true from f) zk
theorem Yp{x:V}:∀{xs:List V} {us:List Value},Vals xs us->xs.all QC=true->us.any (eqU x)=xs.any fun y=>eqV y x
 | _,_,.nil,_=>rfl
 | y::xs,u::us,.cons r t,f=>by
  rw[List.all_cons,jb2] at f;rw[jf4,jf4,qu r f.1,Yp t f.2]
theorem Tr{A:Around}{s:Shared}{x:V}{v:Value}(rx:RelV x v)(fx:QC x=true):∀{xs:List V} {us:List Value},Vals xs us->xs.all QC=true->∀u∈us,SeqAt.EqAt A s u v (eqU x u)
 | _,_,.nil,_=>fun u hu=>by cases hu
 | y::xs,u::us,.cons r t,f=>fun u' hu=>by
  rw[List.all_cons,jb2] at f;rcases qv.mp hu with rfl | hu
  ·rw[qu r f.1];exact AAz r rx f.1 fx
  ·exact Tr rx fx t f.2 u' hu
noncomputable def inV(x:V)(xs:List V):Bool:=xs.any fun y=>eqV y x
noncomputable def rIn(K:Fr)(neg:Bool):R2:=fun x y H Q=>∃p xs,y=.ref p/\(SqL K H p xs\/SqT K H p xs)/\QC x=true/\xs.all QC=true/\Q (.bl (if neg then !inV x xs else inV x xs)) H
theorem M8:OpR X (compareOp .NotIn) (rIn X.K true):=by
 intro pins s Z H x y v u Q I rx ry h;obtain⟨p,xs,rfl,hq,fx,fs,q⟩:=h;cases ry;rcases hq with hq | hq
 ·obtain⟨its,r,pl,hz⟩:=I.list hq;refine SeqAt.notIn_listAt (eqU x) pl.isList (fun w hw=>Tr rx fx r fs w (by simpa using hw)) ⟨.bl _,H,I,rfl,?_⟩;rw[show its.toArray.any (eqU x)=its.any (eqU x) by simp,Yp r fs];exact q
 ·obtain⟨its,r,pl,hz⟩:=I.tuple hq;refine SeqAt.notIn_tupleAt (eqU x) pl (fun w hw=>Tr rx fx r fs w (by simpa using hw)) ⟨.bl _,H,I,rfl,?_⟩;rw[show its.toArray.any (eqU x)=its.any (eqU x) by simp,Yp r fs];exact q
theorem Bo:Hq X (.builtin "len") (fun xs H Q=>∃p ys,xs=[.ref p]/\(SqL X.K H p ys\/SqT X.K H p ys)/\Q (.int ys.length) H):=by
 intro pins s Z H xs us Q I r h;obtain⟨p,ys,rfl,hq,q⟩:=h;obtain⟨u,rfl,rx⟩:=vals1 r;cases rx;have hn:=MN;rcases hq with hq | hq
 ·obtain⟨its,r',pl,hz⟩:=I.list hq;have hlen:=r'.length;exact Calls.call_len_list pl.isList (by simp only[xc]<;>lia) ⟨.int ys.length,H,I.tok _,⟨s.toks+1,by rw[xc,hlen]⟩,q⟩
 ·obtain⟨its,r',pl,hz⟩:=I.tuple hq;have hlen:=r'.length;exact len_tuple pl (by simp only[xc]<;>lia) ⟨.int ys.length,H,I.tok _,⟨s.toks+1,by rw[xc,hlen]⟩,q⟩
theorem Ep:Hq X (.builtin "len") (fun xs H Q=>∃z,xs=[.str z]/\z.length<=sizeLine/\Q (.int z.length) H):=by
 intro pins s Z H xs us Q I r h;obtain⟨z,rfl,hz,q⟩:=h;obtain⟨u,rfl,t,rfl⟩:=vals1 r;have hn:=MN;exact len_str (by lia) ⟨.int z.length,H,I.tok _,⟨_,rfl⟩,q⟩
theorem Yh:Hq X (.type "list") (fun xs H Q=>∃p ys,xs=[.ref p]/\(SqL X.K H p ys\/SqT X.K H p ys)/\∀l,H l=none->Q (.ref l) (upd H l (.lst ys))):=by
 intro pins s Z H xs us Q I r h;obtain⟨p,ys,rfl,hq,q⟩:=h;obtain⟨u,rfl,rx⟩:=vals1 r;cases rx;have fin:∀(its:List Value),Vals ys its->ys.length<=sizeLine->∀(h':Heap) (c':Nat),(∀b o',s.heap.get? b=some o'->h'.get? b=some o')->
  h'.get? s.heap.objs.size=some { cls:=.type "list",dict:=none,data:=.seq its.toArray c',slots:= #[] }->EP X pins Z Q (.ref s.heap.objs.size) { s with heap:=h' }:=fun its r' hz h' c' kp e=>
  ⟨.ref s.heap.objs.size,_,I.laid (t':=s.toks) kp (qq _) (show Ez X.prog X.w _ h' _ (.lst ys) from ⟨hz,its,c',r',e⟩),rfl,q _ (I.hok.fresh (qq _))⟩
 rcases hq with hq | hq
 ·obtain⟨its,r',pl,hz⟩:=I.list hq;have hlen:=r'.length;obtain⟨o,ho,hc,n,hd⟩:=pl.isList;exact call_list_seq p (.inl rfl) ho hc hd (fun h' c' kp e=>fin its r' hz h' c' kp e) (by simp only[xc]<;>lia)
 ·obtain⟨its,r',pl,hz⟩:=I.tuple hq;have hlen:=r'.length;obtain⟨o,ho,hc,n,hd⟩:=pl;exact call_list_seq p (.inr rfl) ho hc hd (fun h' c' kp e=>fin its r' hz h' c' kp e) (by simp only[xc]<;>lia)
theorem Iw:Hq X (.type "tuple") (fun xs H Q=>∃p ys,xs=[.ref p]/\((SqL X.K H p ys/\∀l,H l=none->Q (.ref l) (upd H l (.tup ys)))\/(SqT X.K H p ys/\Q (.ref p) H))):=by
 intro pins s Z H xs us Q I r h;obtain⟨p,ys,rfl,h⟩:=h;obtain⟨u,rfl,rx⟩:=vals1 r;cases rx;rcases h with ⟨hq,q⟩ | ⟨hq,q⟩
 ·obtain⟨its,r',pl,hz⟩:=I.list hq;have hlen:=r'.length;refine call_tuple_list pl.isList (fun h' kp=>?_) (by simp only[xc]<;>lia);have I1:Inv X pins Z H { s with heap:=h' }:=I.kept (t':=s.toks) kp;have I2:Inv X pins Z (upd H h'.objs.size (.tup ys)) { s with heap:=h'.push { cls:=.type "tuple",data:=.seq its.toArray } }:=
   I1.laid (t':=s.toks) (fun b o e=>qf _ e) (qq _) (show Ez X.prog X.w _ _ _ (.tup ys) from ⟨hz,its,r',IsTup.new _ _⟩)
  exact⟨.ref h'.objs.size,_,I2,rfl,q _ (I1.hok.fresh (qq _))⟩
 ·obtain⟨its,r',pl,hz⟩:=I.tuple hq;exact call_tuple_same pl ⟨.ref p,H,I,rfl,q⟩
noncomputable def tyV(K:Fr)(T:String)(x:V)(H:Hp):Prop:=match x with
 | .str _=>T="str"
 | .int _=>T="int"
 | .ref p=>(T="list"/\∃xs,SqL K H p xs)\/(T="tuple"/\∃o,K.lookup p=some o/\o.cls=.type "tuple"/\o.dict=none)\/
  (T="dict"/\((∃kvs,H p=some (.dK kvs))\/∃kvs,H p=some (.dT kvs)))\/(T="set"/\∃S n,H p=some (.set S n))
 | _=>False
theorem mZ{pins:List (Addr×Obj)}{Z:St}{H:Hp}{s:Shared}{T:String}{x:V}{v:Value}(I:Inv X pins Z H s)(r:RelV x v)(ty:tyV X.K T x H):
 s.TypeIs v T/\∀a,v=.ref a->∃ob,s.heap.get? a=some ob/\ob.dict=none:=by
 cases x with
 | str z=>
  obtain⟨t,rfl⟩:=r;cases (show T="str" from ty);exact⟨typeIs_str s z t,fun _ e=>nomatch e⟩
 | int i=>
  obtain⟨t,rfl⟩:=r;cases (show T="int" from ty);exact⟨typeIs_int s i t,fun _ e=>nomatch e⟩
 | ref p=>
  cases r;rcases ty with ⟨rfl,xs,hq⟩ | ⟨rfl,o,hk,hc,hd⟩ | ⟨rfl,hk⟩ | ⟨rfl,S,n,hk⟩
  ·obtain⟨its,_,pl,_⟩:=I.list hq;refine⟨pl.isList.typeIs,fun a e=>?_⟩;cases e;obtain⟨o,n,e,c,hd,_⟩:=pl;exact⟨o,e,hd⟩
  ·refine⟨⟨o,I.kIn p o hk,hc⟩,fun a e=>?_⟩;cases e;exact⟨o,I.kIn _ o hk,hd⟩
  ·have z:∃o,s.heap.get? p=some o/\o.ExactDict:=by
    rcases hk with ⟨kvs,hk⟩ | ⟨kvs,hk⟩
    ·obtain⟨_,_,_,_,o,_,_,e,ex,_⟩:=I.hok p _ hk;exact⟨o,e,ex⟩
    ·obtain⟨_,_,_,_,o,_,_,e,ex,_⟩:=I.hok p _ hk;exact⟨o,e,ex⟩
   obtain⟨o,e,ex⟩:=z;refine⟨⟨o,e,ex.1⟩,fun a e2=>?_⟩;cases e2;exact⟨o,e,ex.2.1⟩
  ·obtain⟨o,_,_,_,e,ex,_⟩:=I.hok p _ hk;refine⟨⟨o,e,ex.1⟩,fun a e2=>?_⟩;cases e2;exact⟨o,e,ex.2.1⟩
 | _=>exact False.elim ty
noncomputable def ABu(K:Fr)(T:String)(r:V->List V->Hp->VK->Prop)(to:TE):TE:=fun Z H Q=>to Z H fun x H1=>tyV K T x H1/\r x [] H1 Q
noncomputable def tBM(K:Fr)(T:String)(r:V->List V->Hp->VK->Prop)(to:TE)(t:TA):TE:=fun Z H Q=>to Z H fun x H1=>tyV K T x H1/\t Z H1 fun xs H2=>r x xs H2 Q
variable{o e:Expr}{es:List Expr}{to:TE}{t:TA}{name:Str}{apos cpos:Pos}{T id:String}{r:V->List V->Hp->VK->Prop}
theorem X8(pa:PlainAttrs T)(slot:Slot T name id)(hty:typeOf (.builtin id)=pure (.type "method_descriptor"))(hm:MtR X id r)(ho:PE X o to)
 (hbase:‹attributeBase o name X.env (eval o X.env)=eval o X.env›)(hline:‹(apos.endLine==cpos.line)=true›):PE X (.Call (.Attribute o name apos) [] [] cpos) (ABu X.K T r to):=by
 intro pins s Z H Q I h;refine wpAny_Call_method0_late hbase hline (thn (ho s Z H _ I h) fun v s1 hZ=>?_);obtain⟨x,H1,I1,r1,ty,q1⟩:=hZ;obtain⟨h1,h2⟩:=mZ I1 r1 ty;exact⟨T,id,pa,slot,hty,h1,h2,Calls.callWith_builtin rfl (PySem.evalArgs_none (hm pins s1 Z H1 x [] v [] Q I1 r1 .nil q1))⟩
theorem Ge(pa:PlainAttrs T)(slot:Slot T name id)(hty:typeOf (.builtin id)=pure (.type "method_descriptor"))(hm:MtR X id r)(ho:PE X o to)(ha:PA X (e::es) t)
 (hbase:‹attributeBase o name X.env (eval o X.env)=eval o X.env›)
 (hfew:‹((backTo cpos (starEach (e::es) X.env)).all (fun x=>!x.1)&&(backToKw cpos (keywordEach [] X.env)).all (fun x=>x.1.isSome)
  &&decide ((e::es).length+([]:List Keyword).length+(if ([]:List Keyword).isEmpty then 0 else 1)<30))=true›)
 (hline:‹(apos.endLine==cpos.line)=true›)(hs:‹starEach (e::es) X.env=(false,eval e X.env)::starEach es X.env›)(hplain:‹(backTo cpos (starEach es X.env)).any (·.1)=false›):
 PE X (.Call (.Attribute o name apos) (e::es) [] cpos) (tBM X.K T r to t):=by
 intro pins s Z H Q I h;refine wpAny_Call_method_late hbase hfew hline rfl (thn (ho s Z H _ I h) fun v s1 hZ=>?_);obtain⟨x,H1,I1,r1,ty,q1⟩:=hZ;obtain⟨h1,h2⟩:=mZ I1 r1 ty;refine⟨T,id,pa,slot,hty,h1,h2,?_⟩;have hA:=ha (pos:=cpos) pins s1 Z H1 _ I1 q1;rw[hs] at hA ⊢;refine Calls.callWith_builtin (by show(false||(backTo cpos (starEach es X.env)).any (·.1))=false;rw[hplain]<;>rfl) (Calls.evalArgs_plain ?_);exact thn hA fun us s2 ⟨vs,H2,I2,r2,q2⟩=>hm pins s2 Z H2 x vs v us Q I2 r1 r2 q2
end
noncomputable def MtM(X:Cx)(id:String)(r:V->List V->Hp->VK->Prop):Prop:=
 ∀(pins:List (Addr×Obj)) (s:Shared) (Z:St) (H:Hp) (x:V) (xs:List V) (v:Value) (us:List Value) (Q:VK),Inv X pins Z H s->RelV x v->Vals xs us->r x xs H Q->
  wpAny (model X.prog X.w) X.A (call (.builtin id) (v::us)) (EP X pins Z Q) X.xe s
theorem Vals.one{x:V}{us:List Value}(h:Vals [x] us):∃u,us=[u]/\RelV x u:=by cases h with | cons r h=>cases h;exact⟨_,rfl,r⟩
theorem Vals.zero:∀{us:List Value},Vals [] us->us=[]
 | _,.nil=>rfl
theorem Vals.rep{xs:List V}{us:List Value}(h:Vals xs us):∀k:Nat,Vals (List.replicate k xs).flatten (List.replicate k us).flatten
 | 0=>.nil
 | k+1=>by
  rw[ja2,ja2,jd8,jd8];exact Vals.append h (Vals.rep h k)
theorem foldl_rep(its:List Value):∀(k:Nat) (acc:List Value),
 List.foldl (fun x1 x2=>x1++x2) acc.toArray (List.replicate k its.toArray)=(acc++(List.replicate k its).flatten).toArray
 | 0,acc=>by simp
 | k+1,acc=>by
  have e:acc.toArray++its.toArray=(acc++its).toArray:=by simp
  have e2:(acc++its)++(List.replicate k its).flatten=acc++(List.replicate (k+1) its).flatten:=by
   rw[ja2,jd8,ke]
  rw[<-e2,<-foldl_rep its k (acc++its),<-e,ja2,List.foldl_cons]
section
variable{X:Cx}{pins:List (Addr×Obj)}{Z:St}{H:Hp}{s:Shared}{l b:Addr}{xs ys zs:List V}
theorem Inv.lset{its its':List Value}{n:Nat}{f:Array Value->Array Value}{t':Nat}(I:Inv X pins Z H s)(hH:H l=some (.lst xs))
 (e:s.heap.get? l=some { cls:=.type "list",data:=.seq its.toArray n })(hf:f its.toArray=its'.toArray)(hv:Vals ys its')(hz:ys.length<=sizeLine):
 Inv X pins Z (upd H l (.lst ys)) { s with heap:=s.heap.update l (Obj.mapSeq f),toks:=t' }:=by
 have q:=PySem.IsL.update e f;rw[hf] at q;refine I.write (x:=l) (e:=l) (by rw[hH];exact trivial) (.inl rfl) (fun b' u hb hu=>(ja5 s.heap (Obj.mapSeq f) (Ne.symm hb)).trans hu) ⟨_,q⟩ ?_;exact⟨hz,its',_,hv,q⟩
theorem Inv.lnew{its:List Value}{t':Nat}(I:Inv X pins Z H s)(hv:Vals ys its)(hz:ys.length<=sizeLine):
 Inv X pins Z (upd H s.heap.objs.size (.lst ys)) { s with heap:=s.heap.push { cls:=.type "list",data:=.seq its.toArray },toks:=t' }:=
 I.laid (fun _ _ q=>qf _ q) (qq _) ⟨hz,its,0,hv,xa _ rfl⟩
theorem Inv.fresh(I:Inv X pins Z H s):H s.heap.objs.size=none:=I.hok.fresh (qq _)
theorem Inv.lstM(I:Inv X pins Z H s)(hH:H l=some (.lst xs)):xs.length<=sizeLine/\∃(its:List Value) (n:Nat),Vals xs its/\xs.length=its.length/\s.heap.get? l=some { cls:=.type "list",data:=.seq its.toArray n }:=by
 obtain⟨z,its,n,r,e⟩:=I.hok l _ hH;exact⟨z,its,n,r,r.length,e⟩
theorem Z3{n:Nat}(h:n<=sizeLine):Builtin.List.listTooLong n=false:=by
 unfold Builtin.List.listTooLong;exact decide_eq_false (by lia)
end
section
variable{X:Cx}
noncomputable def vG:V->List V->Hp->VK->Prop:=fun x vs H Q=>∃l xs y,x=.ref l/\vs=[y]/\H l=some (.lst xs)/\xs.length<sizeLine/\Q .non (upd H l (.lst (xs++[y])))
theorem WN:MtM X "list.append" vG:=by
 intro pins s Z H x vs v us Q I rx rv h;obtain⟨l,xs,y,rfl,rfl,hH,hz,q⟩:=h;cases rx;obtain⟨u,rfl,ru⟩:=rv.one;obtain⟨z,its,n,r,hl,e⟩:=I.lstM hH;refine call_meets F.slot_list_append ⟨_,e,rfl⟩ F.entry_list_append (F.args_list_append_2 _ _) (PySem.list_append l its.toArray n u (by rw[xc];lia)) ⟨e,?_⟩;refine⟨.non,_,I.lset (its':=its++[u]) hH e (by simp) (r.append (.cons ru .nil)) ?_,rfl,q⟩;rw[qr,List.length_singleton];lia
noncomputable def RW:V->List V->Hp->VK->Prop:=fun x vs H Q=>∃l b xs zs,x=.ref l/\vs=[.ref b]/\H l=some (.lst xs)/\H b=some (.lst zs)/\xs.length+zs.length<=sizeLine/\Q .non (upd H l (.lst (xs++zs)))
theorem JL:MtM X "list.extend" RW:=by
 intro pins s Z H x vs v us Q I rx rv h;obtain⟨l,b,xs,zs,rfl,rfl,hH,hB,hz,q⟩:=h;cases rx;obtain⟨u,rfl,ru⟩:=rv.one;cases ru;obtain⟨z,its,n,r,hl,e⟩:=I.lstM hH;obtain⟨z2,its2,n2,r2,hl2,e2⟩:=I.lstM hB;have hsz:its.toArray.size+its2.toArray.size<=sizeLine:=by rw[xc,xc];lia
 have hlong:¬(!its.toArray.isEmpty&&Builtin.List.listTooLong (its.toArray.size+its2.toArray.size))=true:=by
  rw[Z3 hsz,Bool.and_false];exact zk
 refine call_meets F.slot_list_extend ⟨_,e,rfl⟩ F.entry_list_extend (F.args_list_extend_2 _ _)
  (AutoSeq1.list_extend_list_list_0 l its.toArray n b its2.toArray n2 hlong (by rw[xc];lia) (by lia)) ⟨e,e2,?_⟩
 refine⟨.non,_,I.lset (its':=its++its2) hH e (by simp) (r.append r2) ?_,rfl,q⟩;rw[qr];lia
noncomputable def ACm:R2:=fun x y H Q=>∃l b xs zs,x=.ref l/\y=.ref b/\H l=some (.lst xs)/\H b=some (.lst zs)/\xs.length+zs.length<=sizeLine/\∀p,H p=none->Q (.ref p) (upd H p (.lst (xs++zs)))
theorem YD:OpR X (binaryOp .Add) ACm:=by
 intro pins s Z H x y v u Q I rx ry h;obtain⟨l,b,xs,zs,rfl,rfl,hH,hB,hz,q⟩:=h;cases rx;cases ry;obtain⟨z,its,n,r,hl,e⟩:=I.lstM hH;obtain⟨z2,its2,n2,r2,hl2,e2⟩:=I.lstM hB;refine PySem.P.add_list e e2 ?_ (by rw[xc,xc];lia);have ea:its.toArray++its2.toArray=(its++its2).toArray:=by simp
 rw[ea];exact⟨.ref _,_,I.lnew (t':=s.toks) (r.append r2) (by rw[qr];lia),rfl,q _ I.fresh⟩
noncomputable def ACi:R2:=fun x y H Q=>∃l k xs,x=.ref l/\y=.int k/\H l=some (.lst xs)/\ -(2^63)<=k/\k<2^63/\xs.length*k.toNat<=sizeLine/\
 ∀p,H p=none->Q (.ref p) (upd H p (.lst (List.replicate k.toNat xs).flatten))
theorem len_rep{α:Type}(xs:List α)(k:Nat):(List.replicate k xs).flatten.length=k*xs.length:=by
 induction k with
 | zero=>simp
 | succ k ih=>rw[ja2,jd8,qr,ih,jp2,Nat.add_comm]
theorem dG:OpR X (binaryOp .Mult) ACi:=by
 intro pins s Z H x y v u Q I rx ry h;obtain⟨l,k,xs,rfl,rfl,hH,h1,h2,hz,q⟩:=h;cases rx;obtain⟨t,rfl⟩:=ry;obtain⟨z,its,n,r,hl,e⟩:=I.lstM hH;have hlen:its.toArray.size*k.toNat<=sizeLine:=by rw[xc,<-hl];exact hz
 have hcap:¬its.toArray.size*k.toNat>(2^63-1)/8:=by
  have:(sizeLine:Nat)<=(2^63-1)/8:=by decide
  lia
 have hfit:¬(!Builtin.List.listFitsIndex k)=true:=by
  rw[fitsIndex_both h1 h2];exact zk
 have hlong:¬Builtin.List.listTooLong (its.toArray.size*k.toNat)=true:=by
  rw[Z3 hlen];exact zk
 have hnew:List.foldl (fun x1 x2=>x1++x2) #[] (List.replicate (if its.toArray.isEmpty=true then 0 else k.toNat) its.toArray)=(List.replicate k.toNat its).flatten.toArray:=by
  have f0:∀m:Nat,List.foldl (fun x1 x2=>x1++x2) #[] (List.replicate m its.toArray)=(List.replicate m its).flatten.toArray:=fun m=>by
   have:=foldl_rep its m [];rw[ji8] at this;exact this
  rw[f0];cases its with
  | nil=>simp
  | cons a r'=>rw[ua (by simp)]
 refine wpAny_binaryOp_repeat_ref (T:="list") (U:="int") (by decide) ⟨_,e,rfl⟩ (fun s'=>typeIs_int s' k t) noFill_list_mul F.fills_int_mul F.slot_int_rmul repeat_list F.slot_int_index.lookup
  (call_meets F.slot_int_rmul (typeIs_int s k t) F.entry_int_rmul (F.args_int_rmul_2 _ _) (int___rmul___int_list k t l its.toArray n)
   ⟨e,rfl,⟨_,e,rfl⟩,call_meets F.slot_list_mul ⟨_,e,rfl⟩ F.entry_list_mul (F.args_list_mul_2 _ _) (AutoListH.list___mul___list_int_3 l its.toArray n k t hfit hcap hlong) ⟨e,?_⟩⟩)
 rw[hnew];exact⟨.ref _,_,I.lnew (t':=s.toks) (r.rep k.toNat) (by rw[len_rep,Nat.mul_comm];exact hz),rfl,q _ I.fresh⟩
end
section
variable{prog:Program}{w:World}{A:Around}{E:Value->Shared->Prop}{s:Shared}
end
section
variable{X:Cx}
end
end L2
namespace Att
open PySem PySem.W PySem.Calls PyProof.Rows
theorem Qx{P:Params}{h:Heap}:∀(ns:List Int) (vs:List Value),WellAll P h vs (ns.map WData.int)->IntsAre vs ns:=by
 intro ns
 induction ns with
 | nil=>
  intro vs w;rw[jo9] at w;cases w;exact .nil
 | cons n ns ih=>
  intro vs w;rw[zi] at w;cases w with
  | cons a b=>
   cases a;exact .cons _ _ (ih _ b)
theorem jT{l:OpenLaw}{n:Nat}(hn:l.most=some n){P:Params}{h:Heap}{args:List WData}{vals:List Value}
 (hpre:l.row.toRowW.claim.pre args=true)(hwl:WellAll P h vals args):
 ∃a vs ns,vals=[Value.ref a]/\args=[WData.list (ns.map WData.int)]/\h.get? a=some { cls:=.type "list",data:=.seq vs.toArray }/\IntsAre vs ns/\ns.length<=n:=by
 have hsh:WShape.hasAll [] args [.list .int]=true:=(pre_splitW hpre).1;have hc:l.pre.holds [] { args:=args }=true:=(pre_splitW hpre).2;obtain⟨d,r,rfl,h1,h2⟩:=hasAllW_cons hsh;obtain rfl:=hasAllW_nil h2;obtain⟨xs,rfl,h3⟩:=hasW_list h1;obtain⟨ns,rfl⟩:=items_int h3;have hlen:ns.length<=n:=by
  unfold OpenLaw.pre at hc;have h4:(WTm.not (.lt (.lit (.int (n:Int))) (.len (.arg 0)))).holds [] { args:=[.list (ns.map .int)] }=true:=by
   have h4:=(holds_andW hc).1;rw[hn] at h4;exact h4
  have h5:=condW_of h4 (w_not (w_lt w_lit (w_len_list (w_arg rfl))));rw[js] at h5;refine Nat.le_of_not_lt fun q=>?_;have q':(n:Int)<((ns.length:Nat):Int):=by lia
  first
   | (rw [decide_eq_true q'] at h5;exact absurd h5 (by decide))
   | (simp at h5;lia)
 cases hwl with
 | cons w1 w2=>
  cases w2;cases w1 with
  | list ho hall=>exact⟨_,_,ns,rfl,rfl,ho,Qx ns _ hall,hlen⟩
theorem jm(l:OpenLaw)(args:List WData):l.row.toRowW.claim.post args (.bool true) args=true:=
 postW_of (r:=l.row.toRowW) (X:=(true==true))
  (show WShape.has [] (.bool true) .bool=true by first | rfl | decide | simp[WShape.has,WShape.arms,WShape.armsAll])
  (show (WTm.eq .res (.lit (.bool true))).value [] { args:=args,res:=some (.bool true),after:=args }=some (.bool (true==true)) from w_eq_bool (w_res rfl) w_lit) rfl
section
variable{prog:Program}{w:World}{A:Around}{E:Value->Shared->Prop}{s:Shared}{K:Frag}
end
end Att
namespace L2
open PySem PySem.Spec PyProof.Rows
theorem V2:∀{vs:List Value} {ns:List Int},IntsAre vs ns->Vals (ns.map V.int) vs
 | _,_,.nil=>.nil
 | _,_,.cons n t h=>.cons ⟨t,rfl⟩ (V2 h)
noncomputable def Only(H:Hp):Prop:=∀b,H b=none\/∃o xs,H b=some (.frz o (.lst xs))
theorem qL{P:Program}{w:World}{K:Fr}{mg mb:Str->Option Value}{CX:CXT}{k:Nat}{fa a:Addr}{fd:FuncData}{x:Str}{sp:Sp}{s₁:Shared}{vs:List Value}{ns:List Int}
 (KX:K.In s₁.heap)(hns:s₁.heap.Ns mainGlobals mg)(hb:s₁.heap.Ns builtinsNs mb)(hbb:∀x:Str,x≠"__name__"->mb x=bootBuiltins x)(hlim:s₁.heap.NoLimit)(hg:s₁.gens= #[])
 (ha:s₁.heap.get? a=some { cls:=.type "list",data:=.seq vs.toArray })(hi:IntsAre vs ns)(hl:ns.length<=sizeLine)(hr:Eu k callerA)
 (F:∀base:Heap,K.In base->base.Ns mainGlobals mg->FW P w K mg base CX k fa fd [x] sp)(hbind:∀(s:Shared) (u:Value),BindsTo s fd ⟨[u],[]⟩ [(x,u)])
 (hsp:∀H:Hp,Only H->SqL K H a (ns.map V.int)->sp [.ref a] H (fun v _=>v=.bl true) fun _ _ _=>False)
 (hCX:∀H e s',CX [] H s₁ (fun _ _ _=>False) e s'->False):
 codeAny (model P w) callerA (.call (.ref fa) ⟨[.ref a],[]⟩) (fun r s'=>r=.ok (.ret (.bool true))/\OldK s₁.heap s'.heap/\s'.os=s₁.os/\AllBare s'.gens) s₁:=by
 have rv:=V2 hi;have lenV:=hi.length;have core:∀H:Hp,Only H->SqL K H a (ns.map V.int)->HOk P w H s₁.heap->(∀b,H b≠none->b=a)->(H a≠none->K.lookup a=none)->
  codeAny (model P w) callerA (.call (.ref fa) ⟨[.ref a],[]⟩) (fun r s'=>r=.ok (.ret (.bool true))/\OldK s₁.heap s'.heap/\s'.os=s₁.os/\AllBare s'.gens) s₁:=by
  intro H hO hS hok hA hK;have ab:∀{b:Addr} {o:Obj},s₁.heap.get? b=some o->H b=none->(YZ s₁.heap H).get? b=some o:=fun e n=>qY e n;have noA:∀{b:Addr} {o:Obj} {es:Array DictEntry} {ep:Nat},s₁.heap.get? b=some o->o.data=.dict es ep->H b=none:=fun{b o es ep} e d=>by
   cases q:H b with
   | none=>rfl
   | some u=>
    have e':b=a:=hA b (by rw[q];simp);subst e';rw[ha] at e;cases e;have d':Data.seq vs.toArray _=Data.dict es ep:=d;cases d'
  have nsK:∀{b:Addr} {m:Str->Option Value},s₁.heap.Ns b m->(YZ s₁.heap H).Ns b m:=fun{b m} ⟨o,es,ep,e,d,r⟩=>⟨o,es,ep,ab e (noA e d),d,r⟩;have hKb:K.In (YZ s₁.heap H):=fun b o e=>ab (KX b o e) (by
   cases q:H b with
   | none=>rfl
   | some u=>
    have e':b=a:=hA b (by rw[q];simp);subst e';rw[hK (by rw[q];simp)] at e;cases e)
  have hM:Mod K mg (YZ s₁.heap H):=⟨hKb,nsK hns,⟨mb,nsK hb,hbb⟩,let ⟨mc,h1,h2⟩:=hlim;⟨mc,nsK h1,h2⟩⟩;have e0:fU P w K mg (YZ s₁.heap H) callerA [] s₁ H:=⟨rfl,hM,fun b o e=>vQ e,Nat.le_of_eq (kY _ _),trivial,fun b hb=>absurd (show b∈([]:List Addr) from hb) (by simp),hok,.of_eq hg⟩;refine jn0 ((F _ hKb (nsK hns)).run callerA [] s₁ H ⟨[.ref a],[]⟩ [.ref a] [.ref a] _ _ hr e0 (hbind s₁ (.ref a)) (.cons rfl .nil) (hsp H hO hS)) fun r s' h=>?_;cases r with
  | error e=>exact(hCX H e s' h).elim
  | ok fl=>
   cases fl with
   | next=>exact False.elim h
   | brk=>exact False.elim h
   | cont=>exact False.elim h
   | ret u=>
    obtain⟨v,H',os,bare,un,hok',r',q⟩:=h;have q':v=.bl true:=q;subst q';obtain rfl:u=Value.bool true:=r';refine⟨rfl,OldK.of_keep fun b o e=>?_,os,bare⟩;cases q:H b with
    | none=>exact un.keep b o e q (by intro z;exact absurd (show b∈([]:List Addr) from z) (by simp)) (by simp)
    | some u=>
     rcases hO b with z | ⟨ob,xs,z⟩
     ·rw[q] at z;cases z
     ·have z2:=un.frzs b ob _ z;obtain⟨e1,_⟩:=hok b _ z;obtain⟨e2,_⟩:=hok' b _ z2;rw[e] at e1;cases e1;exact e2
 cases hk:K.lookup a with
 | some o=>
  have e:=KX a o hk;rw[ha] at e;cases e;refine core (fun _=>none) (fun _=>.inl rfl) (.inr ⟨_,vs.toArray,_,hk,rfl,rfl,rfl,by rw[xc,lenV];exact hl,by simpa using rv⟩) (fun b u z=>by have z':(none:Option HO)=some u:=z;cases z') (fun b z=>absurd rfl z) fun z=>absurd rfl z
 | none=>
  refine core (fun b=>if b=a then some (.frz { cls:=.type "list",data:=.seq vs.toArray } (.lst (ns.map V.int))) else none) (fun b=>?_) (.inl (.inr ⟨{ cls:=.type "list",data:=.seq vs.toArray },ya rfl⟩)) (fun b u z=>?_) (fun b z=>?_) fun _=>hk
  ·by_cases hb:b=a
   ·exact .inr ⟨_,_,ya hb⟩
   ·exact .inl (ua hb)
  ·by_cases hb:b=a
   ·have z':=(ya hb).symm.trans z;cases z';subst hb;exact⟨ha,by rw[js];exact hl,vs,_,rv,ha⟩
   ·have z':=(ua hb).symm.trans z;cases z'
  ·by_cases hb:b=a
   ·exact hb
   ·exact absurd (ua hb) z
noncomputable def inClass(s:Stmt)(j:Nat):Stmt:=match s with
 | .ClassDef _ _ _ body _ _ _ _ _ _ _=>body.getD j (.Pass ⟨0,0,0,0⟩)
 | _=>.Pass ⟨0,0,0,0⟩
noncomputable def Ff(s:Stmt):Arguments:=match s with
 | .FunctionDef _ a _ _ _ _ _ _ _ _=>a
 | _=>{ posonlyargs:=[],args:=[],vararg:=none,kwonlyargs:=[],kw_defaults:=[],kwarg:=none,defaults:=[] }
noncomputable def Dl(s:Stmt):List Stmt:=match s with
 | .FunctionDef _ _ b _ _ _ _ _ _ _=>b
 | _=>[]
noncomputable def BZ(s:Stmt):Scope:=match s with
 | .FunctionDef _ _ _ _ _ _ sc _ _ _=>sc
 | _=>{ kind:=.function,names:=[],isGenerator:=false,isCoroutine:=false }
noncomputable abbrev CX0:CXT:=fun _ _ _ _ _ _=>False
noncomputable abbrev E0:XK:=fun _ _ _=>False
theorem M3{X:Cx}:Kr CX0 X E0:=fun _ _ _ _ _ _ _ h=>h.elim
structure Fun(K:Fr)(x qual:Str)(st:Stmt)(f:Addr)(fd:FuncData):Prop where
 ex:∃(oc:Value) (od:Option Addr) (kV doc pm:Value) (an:Option Addr) (cdv ct:Value) (osl:Array (Option Value)),
  fd=PySem.W.fnOf x qual (Ff st) (Dl st) (BZ st) .none kV doc pm an cdv ct/\K.lookup f=some ⟨oc,od,.func fd,osl⟩/\PySem.W.codeIn K cdv qual=true
 kp:PySem.W.keepIn K (.ref f)=true
section
variable{P:Program}{w:World}{K:Fr}{mg:Str->Option Value}{base:Heap}
theorem Fun.ok{x qual:Str}{st:Stmt}{f:Addr}{fd:FuncData}{N ps:List Str}{k:Nat}{sp:Sp}(F:Fun K x qual st f fd)(S:DP N ps (BZ st))(len:∀{vs H Q E},sp vs H Q E->vs.length=ps.length)
 (hbody:∀{cdv:Value} {A:Around} {outer:List Env} {s:Shared} (nd:N.Nodup) (H:Hp) (vs:List V) (Q:VK) (E:XK),Eu k (A.deeper (envOfC qual (BZ st) s.heap.objs.size f cdv))->sp vs H Q E->
  ∃t,PSs (Vs CX0 P w K mg base N qual (BZ st) f cdv A outer s H E).nox (Dl st) t/\t { nx:=fun _ H'=>Q .non H',rt:=Q } (start N vs) H):FW P w K mg base CX0 (k+1) f fd ps sp:=by
 obtain⟨oc,od,kV,doc,pm,an,cdv,ct,osl,rfl,lk,hcd⟩:=F.ex;refine yO lk hcd S (fun _ _ _ _=>len) fun A outer s H vs Q E hr hsp=>?_;obtain⟨t,h,q⟩:=hbody S.nd H vs Q E hr hsp;exact⟨t,h.nox,q⟩
theorem Fun.binds{x qual:Str}{st:Stmt}{f:Addr}{fd:FuncData}{ps:List Str}(F:Fun K x qual st f fd)
 (h:∀(kV doc pm:Value) (an:Option Addr) (cdv ct:Value) (us:List Value),us.length=ps.length->bindArgs (PySem.W.fnOf x qual (Ff st) (Dl st) (BZ st) .none kV doc pm an cdv ct) ⟨us,[]⟩=pure (ps.zip us)):Binds K fd ps []:=by
 obtain⟨oc,od,kV,doc,pm,an,cdv,ct,osl,rfl,lk,hcd⟩:=F.ex;exact .all (h kV doc pm an cdv ct)
theorem qi{x qual:Str}{st:Stmt}{f:Addr}{oc:Value}{od an:Option Addr}{osl:Array (Option Value)}{kV doc pm cdv ct:Value}(l:K.lookup f=some ⟨oc,od,.func (PySem.W.fnOf x qual (Ff st) (Dl st) (BZ st) .none kV doc pm an cdv ct),osl⟩)
 (c:PySem.W.codeIn K cdv qual=true)(k:PySem.W.keepIn K (.ref f)=true):Fun K x qual st f (PySem.W.fnOf x qual (Ff st) (Dl st) (BZ st) .none kV doc pm an cdv ct):=⟨⟨oc,od,kV,doc,pm,an,cdv,ct,osl,rfl,l,c⟩,k⟩
end
theorem iJ{A:Around}{k:Nat}(hr:Eu k A):A.units+1<cLine:=yk (jk0 (by decide:1<=64) _) hr.units
theorem Cw{n:Nat}(h:n<=1000):n<sizeLine:=yk h (by decide)
section
variable{X:Cx}
theorem pv(i:Nat){x:Str}{pos:Pos}(hN:‹X.N[i]?=some x›)(hv:Vis X.env.scope x:=by first | exact Or.inl rfl | exact Or.inr (Or.inl rfl) | exact Or.inr (Or.inr rfl))(hd:(x==("__debug__":Str))=false:=by decide)
 (hcd:(x==("__classdict__":Str))=false:=by decide):PE X (.Name x pos) (Lw i):=pJ hN hv hd hcd
end
theorem En{A B:Prop}(h:B):if false=true then A else B:=by
 rw[ua zk];exact h
theorem FT{A B:Prop}(h:A):if true=true then A else B:=by
 rw[ya rfl];exact h
theorem Gf{c A B:Prop}[Decidable c](hc:c)(h:B):if (!decide c)=true then A else B:=by
 rw[decide_eq_true hc];exact En h
noncomputable def Av(H H':Hp):Prop:=∀b o,H b=some o->H' b=some o
theorem Av.refl(H:Hp):Av H H:=fun _ _ h=>h
theorem Av.trans{H H1 H2:Hp}(a:Av H H1)(b:Av H1 H2):Av H H2:=fun c o h=>b c o (a c o h)
theorem Av.free{H H':Hp}(e:Av H H'){l:Addr}(h:H' l=Option.none):H l=Option.none:=by
 cases q:H l with
 | none=>rfl
 | some o=>
  rw[e l o q] at h;cases h
theorem Av.seq{K:Fr}{H H':Hp}{a:Addr}{xs:List V}(e:Av H H')(h:SqL K H a xs):SqL K H' a xs:=by
 rcases h with (h | ⟨o,h⟩) | h
 ·exact .inl (.inl (e _ _ h))
 ·exact .inl (.inr ⟨o,e _ _ h⟩)
 ·exact .inr h
end L2
set_option maxHeartbeats 4000000
namespace L2
open PySem PySem.Spec PyProof.Rows
noncomputable def Bt(k:Nat)(x:Int):Prop:=x.natAbs<2^k
theorem Bt.bits{k:Nat}{x:Int}(h:Bt k x):Builtin.Int.intBits x<=k:=PySem.intBits_le_iff.mpr h
theorem Bt.mono{k m:Nat}{x:Int}(h:Bt k x)(l:k<=m):Bt m x:=xh h (vc (by decide) l)
theorem Bt.le{k:Nat}{x y:Int}(h:Bt k y)(l:x.natAbs<=y.natAbs):Bt k x:=yk l h
theorem Bt.mul{k m:Nat}{x y:Int}(h:Bt k x)(g:Bt m y):Bt (k+m) (x*y):=by
 unfold Bt at*
 rw[jm1,jl8];exact Nat.mul_lt_mul'' h g
theorem Bt.add{k:Nat}{x y:Int}(h:Bt k x)(g:Bt k y):Bt (k+1) (x+y):=by
 unfold Bt at*
 have:=Int.natAbs_add_le x y;rw[jp1];lia
theorem Bt.neg{k:Nat}{x:Int}(h:Bt k x):Bt k (-x):=by unfold Bt at *;lia
noncomputable def jB(i j:Int):Prop:=∃n m:Nat,Bt n i/\Bt m j/\n+m<=134217728
theorem jB.ok{i j:Int}(h:jB i j):IntMulOk i j:=by
 obtain⟨n,m,h1,h2,h3⟩:=h;have a:=h1.bits;have b:=h2.bits;have hs:((Builtin.Int.intBits i+Builtin.Int.intBits j:Nat):Int)<=2^27:=by
  have e:(2:Int)^27=134217728:=by decide
  rw[e];lia
 have hb:Builtin.Int.intTooBig ((Builtin.Int.intBits i+Builtin.Int.intBits j:Nat):Int)=false:=decide_eq_false (Int.not_lt.mpr hs);unfold IntMulOk
 first
  | (rw [show (((Builtin.Int.intBits i:Nat):Int)+((Builtin.Int.intBits j:Nat):Int))=((Builtin.Int.intBits i+Builtin.Int.intBits j:Nat):Int) by lia,hb];simp)
  | (rw [hb];simp)
  | (intro z;simp only[jb2] at z;simp_all)
variable{H:Hp}{Q:VK}
section
variable{X:Cx}{a b c:Expr}{ta tb tc:TE}{pos:Pos}
theorem CP:OpR X (binaryOp .Mult) (rI jB fun i j=>.int (i*j)):=opI fun _ _ _ _ _ _ _ hc q=>mul_int q hc.ok
theorem Pz{j:Int}(h:Bt 9000 j):j.natAbs.log2<9000:=by
 by_cases h0:j.natAbs=0
 ·rw[h0];ac_rfl
 ·exact(Nat.log2_lt h0).mpr h
noncomputable def sX(_ j:Int):Prop:=0<j/\Bt 9000 j
noncomputable def ADe(_ j:Int):Prop:=j≠0/\Bt 9000 j
theorem Bg:OpR X (binaryOp .FloorDiv) (rI sX fun i j=>.int (i/j)):=opI fun i j _ _ _ _ _ hc q=>by
 have h1:(0:Int)<j:=hc.1;exact floordiv_int (by lia) (by rw[Int.fdiv_eq_ediv_of_nonneg i (by lia)];exact q) (.inl (PyProof.noPylong_of_log2 (Pz hc.2)))
theorem pX:OpR X (binaryOp .FloorDiv) (rI ADe fun i j=>.int (i.fdiv j)):=opI fun i j _ _ _ _ _ hc q=>
 floordiv_int hc.1 q (.inl (PyProof.noPylong_of_log2 (Pz hc.2)))
noncomputable def AEi(i j:Int):Prop:=0<=j/\∃n:Nat,Bt n i/\(n:Int)+j<=134217728
theorem M7:OpR X (binaryOp .LShift) (rI AEi fun i j=>.int (i*2^j.toNat)):=opI fun i j _ _ _ _ _ hc q=>by
 obtain⟨h0,n,hn,h1⟩:=hc;have:=hn.bits;refine lshift_int h0 ?_ q;have e:(2:Int)^27=134217728:=by decide
 rw[e];lia
noncomputable def AAH(K:Fr):List V->Hp->VK->Prop:=fun xs H Q=>∃x c t b,xs=[x,.ty c]/\N7 K H x t/\PySem.W.kitOne K t (.type c)=some b/\Q (.bl b) H
theorem Uk:Hq X (.builtin "isinstance") (AAH X.K):=by
 intro pins s Z H xs us Q I r h;obtain⟨x,c,t,b,rfl,ty,e,q⟩:=h;obtain⟨u,w',rfl,r1,r2⟩:=vals2 r;cases (show w'=Value.type c from r2);exact kJ I r1 ty e fun tk=>⟨.bl b,H,I.tok tk,rfl,q⟩
structure Cal(P:Program)(w:World)(K:Fr)(mg:Str->Option Value)(base:Heap)(k:Nat)(x:Str)(ps:List Str)(sp:Sp):Prop where
 ex:∃(f:Addr) (fd:FuncData),FW P w K mg base CX0 k f fd ps sp/\Binds K fd ps []/\PySem.W.keepIn K (.ref f)=true/\mg x=some (.ref f)
theorem Ag{k:Nat}{x:Str}{ps:List Str}{sp:Sp}{e:Expr}{es:List Expr}{t:TA}{p:Pos}(C:Cal X.prog X.w X.K X.mg X.base k x ps sp)(ha:PA X (e::es) t)(hr:Eu k X.A:=by walk_at"hr")(hg:Gl X x:=by exact rfl)
 (hdb:(x==("__debug__":Str))=false:=by decide)(he:‹starEach (e::es) X.env=(false,eval e X.env)::starEach es X.env›)(hpl:‹(backTo pos (starEach es X.env)).any (·.1)=false›):
 PE X (.Call (.Name x p) (e::es) [] pos) (gB sp [] E0 t):=by
 obtain⟨f,fd,F,b,kp,m⟩:=C.ex;exact vJ F hr hg m kp b .nil M3 ha hdb he hpl
noncomputable def ABt(t:TS):TS:=fun D Z H=>∃J:St->Hp->Prop,t { D with nx:=J } Z H/\∀Z' H',J Z' H'->D.nx Z' H'
theorem Ej{st:Stmt}{t:TS}(h:PS X st t):PS X st (ABt t):=by
 intro pins s Z H D I hw;obtain⟨J,h1,h2⟩:=hw;refine thn (h s Z H { D with nx:=J } I h1) fun f s1 q=>?_;cases f with
 | next=>
  obtain⟨Z',H',I',q⟩:=q;exact⟨Z',H',I',h2 _ _ q⟩
 | ret v=>exact q
 | brk=>exact q
 | cont=>exact q
theorem EY{t:TS}{D:Ends}{Z:St}(J:St->Hp->Prop)(h1:t { D with nx:=J } Z H)(h2:∀Z' H',J Z' H'->D.nx Z' H'):ABt t D Z H:=⟨J,h1,h2⟩
theorem ACf{g:Int->Int->V}{i j:Int}(h:Q (g i j) H):rI0 g (.int i) (.int j) H Q:=⟨i,j,rfl,rfl,h⟩
theorem Ds{C:Int->Int->Prop}{g:Int->Int->V}{i j:Int}(c:C i j)(h:Q (g i j) H):rI C g (.int i) (.int j) H Q:=⟨i,j,rfl,rfl,c,h⟩
theorem ADp{g:Int->V}{i:Int}(h:Q (g i) H):rU g (.int i) H Q:=⟨i,rfl,h⟩
theorem ACg{x y:V}(s:ug x y=true)(h:Q (.bl (decide (x=y))) H):rEq x y H Q:=⟨s,h⟩
theorem ACe{x y:V}(s:ug x y=true)(h:Q (.bl (!decide (x=y))) H):rNe x y H Q:=⟨s,h⟩
theorem gZ{k:Bool}{Q:Bool->Prop}(h:Q k):∃k',V.bl k=.bl k'/\Q k':=⟨k,rfl,h⟩
theorem cV(n:String):RelV (.ty n) (.type n):=rfl
theorem DG(i:Int)(t:Tok):RelV (.int i) (.int i t):=⟨t,rfl⟩
theorem Gb{Z:St}{Q:List V->Hp->Prop}(h:Q [] H):Y8 Z H Q:=h
theorem Xy{K:Fr}{n:Nat}{t:TGs}{a:Addr}{xs:List V}{Z:St}{Q:St->Hp->Prop}(hs:SqT K H a xs)(hl:xs.length=n)(h:t xs Z H Q):qe K n t (.ref a) Z H Q:=⟨a,xs,rfl,hs,hl,h⟩
theorem o6{t:TG}{u:TGs}{v:V}{r:List V}{Z:St}{Q:St->Hp->Prop}(h:t v Z H fun Z' H'=>u r Z' H' Q):Wa t u (v::r) Z H Q:=⟨v,r,rfl,h⟩
theorem uy{Z:St}{Q:St->Hp->Prop}(h:Q Z H):wA [] Z H Q:=⟨rfl,h⟩
theorem Ar{K:Fr}{p:Addr}{xs:List V}{i:Int}{v:V}(hs:SqT K H p xs)(e:atI xs i=some v)(h:Q v H):vC K (.ref p) (.int i) H Q:=⟨p,xs,i,v,rfl,rfl,hs,e,h⟩
theorem BL{K:Fr}{p:Addr}{xs:List V}{i:Int}{v:V}(hs:SqL K H p xs)(e:atI xs i=some v)(h:Q v H):vD K (.ref p) (.int i) H Q:=⟨p,xs,i,v,rfl,rfl,hs,e,h⟩
theorem Td{K:Fr}{x:V}{c:String}{t:Value}{b:Bool}(ty:N7 K H x t)(e:PySem.W.kitOne K t (.type c)=some b)(h:Q (.bl b) H):AAH K [x,.ty c] H Q:=⟨x,c,t,b,rfl,ty,e,h⟩
theorem Gg{c A B:Prop}[Decidable c](hc:c)(h:A):if decide c=true then A else B:=by
 rw[decide_eq_true hc];exact FT h
theorem CJ{c A B:Prop}[Decidable c](hc:¬c)(h:B):if decide c=true then A else B:=by
 rw[decide_eq_false hc];exact En h
theorem Z8{c A B:Prop}[Decidable c](hc:¬c)(h:A):if (!decide c)=true then A else B:=by
 rw[decide_eq_false hc];exact FT h
theorem CK{c A B:Prop}[Decidable c](h1:c->A)(h2:¬c->B):if decide c=true then A else B:=by
 by_cases h:c
 ·exact Gg h (h1 h)
 ·exact CJ h (h2 h)
theorem Av.tup{K:Fr}{H':Hp}{a:Addr}{xs:List V}(e:Av H H')(h:SqT K H a xs):SqT K H' a xs:=by
 rcases h with (h | ⟨o,h⟩) | h
 ·exact .inl (.inl (e _ _ h))
 ·exact .inl (.inr ⟨o,e _ _ h⟩)
 ·exact .inr h
theorem Ax{p:Addr}(h:H p=none)(o:HO):Av H (upd H p o):=fun b u q=>by rw[BK (Bp q h)];exact q
theorem Fg{i j:Int}(h0:0<j)(h1:j<18446744073709551616):sX i j:=⟨h0,Bt.mono (k:=64) (by unfold Bt;lia) (by decide)⟩
theorem pG(k:Nat):(0:Int)<1*2^k:=by
 have e:(1:Int)*2^k=((2^k:Nat):Int):=by rw[jg3];simp
 rw[e];have:=ki k;lia
theorem Ey(x y:Nat):Builtin.bitAnd (x:Int) (y:Int)=((x &&& y:Nat):Int):=PyProof.Rows.bitAnd_pp (jk6 x) (jk6 y)
theorem VD(x:Nat):decide ((0:Int)<=Builtin.bitNot (x:Int))=false:=decide_eq_false (by unfold Builtin.bitNot;lia)
theorem G9(x y:Nat):Builtin.bitOr (x:Int) (y:Int)=((x ||| y:Nat):Int):=by
 have e:∀z:Int,Builtin.bitNot (Builtin.bitNot z)=z:=fun z=>by unfold Builtin.bitNot;lia
 unfold Builtin.bitOr Builtin.bitAnd;rw[VD,VD];dsimp only;rw[e,e,e,xi,xi]
theorem VB(x y:Nat):Builtin.bitXor (x:Int) (y:Int)=((x ^^^ y:Nat):Int):=by
 show Builtin.bitOr (x:Int) (y:Int)-Builtin.bitAnd (x:Int) (y:Int)=_;rw[G9,Ey];have h:x ||| y=(x ^^^ y)+(x &&& y):=by
  have a:(x ^^^ y) &&& (x &&& y)=0:=by
   refine Qb fun i=>?_;rw[jb0,Nat.testBit_xor,jb0,jf1];cases x.testBit i<;>cases y.testBit i<;>rfl
  have b:x ||| y=(x ^^^ y) ||| (x &&& y):=by
   refine Qb fun i=>?_;rw[jd4,jd4,Nat.testBit_xor,jb0];cases x.testBit i<;>cases y.testBit i<;>rfl
  have c:=PyProof.Rows.bitOr_and ((x ^^^ y:Nat):Int) ((x &&& y:Nat):Int);rw[G9,Ey,a,<-b] at c;lia
 lia
end
end L2
namespace Att
open PySem PySem.W PySem.Calls PyProof.Rows
theorem Pn:∀{ns:List Int} {n:Int},n∈ns->Builtin.Int.intBits n<=WData.weightAll (ns.map WData.int)
 | m::ns,n,h=>by
  rw[zi];show _<=WData.weight (.int m)+1+WData.weightAll (ns.map WData.int);rcases qv.mp h with rfl | h
  ·have e:WData.weight (.int n)=Builtin.Int.intBits n:=by first | rfl | (unfold Builtin.Int.intBits;rfl) | simp[WData.weight,Builtin.Int.intBits]
   lia
  ·have:=Pn h;lia
theorem bC{ns:List Int}(h:WData.layableAll [WData.list (ns.map WData.int)]=true):∀n∈ns,L2.Bt 1048576 n:=fun n hn=>by
 have h1:WData.layable (WData.list (ns.map WData.int))=true:=(Bool.and_eq_true_iff.mp h).1;have h2:WData.weight (WData.list (ns.map WData.int))<=2^20:=of_decide_eq_true (Bool.and_eq_true_iff.mp h1).2;have h3:=Pn hn;have e:WData.weight (WData.list (ns.map WData.int))=WData.weightAll (ns.map WData.int):=by first | rfl | simp[WData.weight]
 refine PySem.intBits_le_iff.mp ?_;lia
theorem attach_callB{l:OpenLaw}{n:Nat}{q:Program}{loose:List Str}{XP:(Str->Option Value)->Heap->Prop}{YP:World->Heap->Prop}{d:DefRec}
 (hn:l.most=some n)(hdf:d.params.defaults=[])
 (call:∀(w:World) (s₀ s₁:Shared) (mg mb:Str->Option Value) (fa:Addr) (o:Obj) (pm cd doc:Value) (a:Addr) (vs:List Value) (ns:List Int),
  Ground q loose [] XP w s₀ mg mb s₁.heap->YP w s₁.heap->
  s₁.heap.get? fa=some o->o.data=.func (docDef d.name d.params d.body d.scope pm cd doc)->s₁.heap.CodeRec cd d.name->mg d.name=some (.ref fa)->
  s₁.heap.get? a=some { cls:=.type "list",data:=.seq vs.toArray }->IntsAre vs ns->ns.length<=n->(∀n∈ns,L2.Bt 1048576 n)->s₁.gens= #[]->
  codeAny (model l.prog w) callerA (.call (.ref fa) ⟨[.ref a],[]⟩) (fun r s'=>r=.ok (.ret (.bool true))/\OldK s₁.heap s'.heap/\s'.os=s₁.os/\AllBare s'.gens) s₁):
 WalkO q loose XP YP l.row.toRowW d [] (fun f vs=>PySem.call f vs):=by
 intro w s₀ s₁ mg mb G Y fa o pm cd doc dV kV ho hd hcd hD hmg hg args vals as hpre hlay hrd hwl hlo;obtain rfl:dV=.none:=Dflts.none hD hdf;obtain rfl:kV=.none:=Dflts.noKw hD;obtain⟨a,vs,ns,rfl,rfl,hobj,hints,hlen⟩:=jT hn hpre hwl;refine enter_call (jn0 (call w s₀ s₁ mg mb fa o pm cd doc a vs ns G Y ho (fd_plain hd) hcd hmg hobj hints hlen (bC hlay) hg) fun r s' hq=>?_);obtain⟨rfl,h2,h3,h4⟩:=hq;exact⟨.inl ⟨.bool true,.bool true,[],rfl,fun _=>rfl,.bool true,jm l _,fun _=>⟨List.Pairwise.nil,fun _ hm=>(nomatch hm)⟩⟩,h2,h3,h4⟩
end Att
namespace L2
open PySem PySem.Spec PyProof.Rows
noncomputable def gM(K:Fr):Sp:=fun vs H Q _=>∃(a:Addr) (ns:List Int),vs=[.ref a]/\SqL K H a (ns.map V.int)/\ns.length<=63/\(∀n∈ns,Bt 1048576 n)/\∀H',Q (.bl true) H'
theorem mX{l:PySem.W.OpenLaw}{k:Nat}{q:Program}{loose:List Str}{XP:(Str->Option Value)->Heap->Prop}{YP:World->Heap->Prop}{d:DefRec}{K:Params->Fr}
 (hn:l.most=some 63)(hdf:d.params.defaults=[])(hr:Eu k callerA)
 (hY:∀(w:World) (h:Heap),YP w h->(K w.params).In h)
 (F:∀(w:World) (mg:Str->Option Value) (fa:Addr) (h:Heap),(K w.params).In h->h.Ns mainGlobals mg->mg d.name=some (.ref fa)->
  ∃fd:FuncData,(∀(s:Shared) (u:Value),BindsTo s fd ⟨[u],[]⟩ [("_law_script",u)])/\
   ∀base:Heap,(K w.params).In base->base.Ns mainGlobals mg->FW l.prog w (K w.params) mg base CX0 k fa fd ["_law_script"] (gM (K w.params))):
 PySem.W.WalkO q loose XP YP l.row.toRowW d [] (fun f vs=>PySem.call f vs):=by
 refine Att.attach_callB hn hdf fun w s₀ s₁ mg mb fa o pm cd doc a vs ns G Y ho hd hcd hmg hobj hints hlen hbits hg=>?_;have KX:=hY w _ Y;obtain⟨fd,hb,hF⟩:=F w mg fa _ KX G.T.g hmg;exact qL KX G.T.g G.T.b G.T.builtins G.T.nolimit hg hobj hints (zw hlen (by decide)) hr hF hb (fun H hO hS=>⟨a,ns,rfl,hS,hlen,hbits,fun _=>rfl⟩) fun H e s'=>fun z=>z
noncomputable def Mf(X:Cx)(M:List Str)(x:Str)(scope:Scope)(cl:List (Str×Addr))(C:Addr)(s₀:Shared)(H₀:Hp)(fp:List Addr):Cx:=
 { X with N:=x::M,s₀:=s₀,H₀:=H₀,env:=compEnvC scope cl C X.env,outer:=X.stack,ex:=fp,fn:=fun _=>false,pn:=[],xe:=fun _ _=>False }
noncomputable def De(X:Cx)(M:List Str)(xs:List Str)(scope:Scope)(cl:List (Str×Addr))(C:Addr)(s₀:Shared)(H₀:Hp)(fp:List Addr):Cx:=
 { X with N:=xs++M,s₀:=s₀,H₀:=H₀,env:=compEnvC scope cl C X.env,outer:=X.stack,ex:=fp,fn:=fun _=>false,pn:=[],xe:=fun _ _=>False }
structure Oa(X:Cx)(M:List Str)(xs:List Str)(scope:Scope)(cl:List (Str×Addr)):Prop where
 clos:closureFor scope X.env=pure cl
 cell:∀y∈scope.names,y.2≠.cell
 kind:scope.kind=.function
 names:∀y∈scope.names,y.2=.local->scope.names.lookup y.1=some .local
 xl:∀x∈xs,scope.names.lookup x=some .local
 nd:(xs++M).Nodup
 len:M.length=X.N.length
 sub:∀y c,cl.lookup y=some c->X.env.cells.lookup y=some c
 has:∀y,((relabel scope X.env).names.lookup y=some .cell\/(relabel scope X.env).names.lookup y=some .free)->∃c,cl.lookup y=some c
 vis:∀(i:Nat) (y:Str),M[i]?=some y->Vis (relabel scope X.env) y->X.N[i]?=some y/\((relabel scope X.env).names.lookup y=some .cell\/(relabel scope X.env).names.lookup y=some .free)/\(X.env.scope.names.lookup y=some .cell\/X.env.scope.names.lookup y=some .free)
noncomputable abbrev Yu(X:Cx)(M:List Str)(x:Str)(scope:Scope)(cl:List (Str×Addr)):Prop:=Oa X M [x] scope cl
noncomputable def lr(X:Cx)(ifs:List Expr)(t:TT):Prop:=
 ∀(pins:List (Addr×Obj)) (s:Shared) (Z:St) (H:Hp) (Q:Bool->Hp->Prop),Inv X pins Z H s->t Z H Q->
  wpAny (model X.prog X.w) X.A (forIn ifs true fun c r=>if r=true then do let ok <-isTrue c X.env (eval c X.env);pure (ForInStep.yield ok) else pure (ForInStep.yield r)) (TP X pins Z Q) X.xe s
noncomputable def fZ:TT:=fun _ H Q=>Q true H
variable{K:Fr}{Z:St}{H:Hp}{xs:List V}{scope:Scope}{elt iter:Expr}{pos:Pos}{tt:TT}{te:TE}{x:Str}{Q:VK}{ta:TA}
section
variable{X:Cx}
theorem Dq:lr X [] fZ:=fun pins s Z H Q I h=>by
 rw[jp3];exact xp ⟨H,I,h⟩
theorem Tg{c:Expr}{t:TT}(hc:PT X c t):lr X [c] t:=fun pins s Z H Q I h=>by
 rw[jk7];refine qc ?_;rw[ya rfl];refine qc (thn (hc s Z H Q I h) fun b s1 q=>xp ?_);dsimp only;rw[jp3];exact xp q
noncomputable def gA(wi:TI)(tt:TT)(te:TE):TE:=fun Z H Q=>wi Z H fun J H1=>∀D,H1 D=none->∃W:Nat->Nat->List V->Hp->Prop,(∃m,W 0 m [] (upd H1 D (.lst [])))/\
 ∀i m ys H2,W i m ys H2->H2 D=some (.lst ys)/\((J.stop i H2/\Q (.ref D) H2)\/(J.go i H2/\ys.length<sizeLine/\∃m',m'<m/\∀x H3,J.yld i H2 x H3->
  tt (some x::Z) H3 fun b H4=>if b=true then te (some x::Z) H4 fun y H5=>H5 D=some (.lst ys)/\W (i+1) m' (ys++[y]) (upd H5 D (.lst (ys++[y]))) else W (i+1) m' ys H4))
noncomputable def jA(tt:TT)(te:TE)(Z:St)(Q:VK):It->Hp->Prop:=fun J H1=>∀D,H1 D=none->∃W:Nat->Nat->List V->Hp->Prop,(∃m,W 0 m [] (upd H1 D (.lst [])))/\
 ∀i m ys H2,W i m ys H2->H2 D=some (.lst ys)/\((J.stop i H2/\Q (.ref D) H2)\/(J.go i H2/\ys.length<sizeLine/\∃m',m'<m/\∀x H3,J.yld i H2 x H3->
  tt (some x::Z) H3 fun b H4=>if b=true then te (some x::Z) H4 fun y H5=>H5 D=some (.lst ys)/\W (i+1) m' (ys++[y]) (upd H5 D (.lst (ys++[y]))) else W (i+1) m' ys H4))
theorem rD{M:List Str}{pins:List (Addr×Obj)}{s:Shared}{xs:List Str}{cl:List (Str×Addr)}{C:Addr}{fp:List Addr}(I:Inv X pins Z H s)(ok:Oa X M xs scope cl)(hC:s.heap.objs.size<=C)
 (hf:∀b∈fp,Ju X pins H b)(hb:∀b∈fp,b<s.heap.objs.size):(De X M xs scope cl C s H fp).Ok where
 mod:=I.ok.mod
 kind:=ok.kind
 glob:=I.ok.glob
 blt:=I.ok.blt
 above:=hC
 inj:=fun y z c h1 h2=>I.ok.inj y z c (ok.sub y c h1) (ok.sub z c h2)
 has:=ok.has
 cab:=fun y c h=>by cases h
 hd:=I.ok.hd
 frames:=I.ok.frames
 stk:=.inl rfl
 exf:=fun b h=>⟨vx (xh (hb b h) hC),fun y c e=>(hf b h).2.2.2.2.1 y c (ok.sub y c e)⟩
 bs:=I.bs
 bsz:=zw I.ok.bsz I.sz
 noex:=fun b o e h=>by
  rcases(hf b h).2.2.2.1 with z | z
  ·exact I.ok.noex b o e z
  ·exact absurd (xh (xb (I.ok.bs b o e).1) z) (jf6 _)
 exfs:=fun b h z=>by
  rcases qv.mp (I.stkSub b z) with e | e
  ·exact(hf b h).2.1 e
  ·exact(hf b h).2.2.1 e
 funs:=I.stack
 frf:=I.stkFree
noncomputable def VF(k:Nat)(g:TG)(tt:TT)(te:TE)(Z:St)(Q:VK):It->Hp->Prop:=fun J H1=>∀D,H1 D=none->∃W:Nat->Nat->List V->Hp->Prop,(∃m,W 0 m [] (upd H1 D (.lst [])))/\
 ∀i m ys H2,W i m ys H2->H2 D=some (.lst ys)/\((J.stop i H2/\Q (.ref D) H2)\/(J.go i H2/\ys.length<sizeLine/\∃m',m'<m/\∀x H3,J.yld i H2 x H3->∀ρ:St,ρ.length=k->
  g x (ρ++Z) H3 fun σ2 H4=>∃ρ2:St,ρ2.length=k/\σ2=ρ2++Z/\tt σ2 H4 fun b H5=>if b=true then te σ2 H5 fun y H6=>H6 D=some (.lst ys)/\W (i+1) m' (ys++[y]) (upd H6 D (.lst (ys++[y]))) else W (i+1) m' ys H5))
noncomputable def nH(k:Nat)(wi:TI)(g:TG)(tt:TT)(te:TE):TE:=fun Z H Q=>wi Z H (VF k g tt te Z Q)
section
variable{prog:Program}{w:World}{A:Around}{R:Result->Shared->Prop}
noncomputable abbrev NB(prog:Program)(w:World)(A:Around)(env:Env)(R:Result->Shared->Prop):Value->Shared->Prop:=notedBy (model prog w) A env fun e s'=>R (.error e) s'
theorem eQ{s:Shared}{tg:Expr}{ifs:List Expr}{it acc:Value}{env:Env}(I:Nat->Shared->Prop)
 (turn:∀n s,I n s->wpAny (model prog w) A (pyNext it)
  (fun r s1=>match r with
   | none=>R (.ok .next) s1
   | some v=>wpAny (model prog w) A (letOwnedTupleGo tg it v)
    (fun _ s2=>wpAny (model prog w) A (assign tg env v)
     (fun _ s3=>wpAny (model prog w) A (forIn ifs true fun c r=>if r=true then (isTrue c env (eval c env) >>= fun ok=>pure (ForInStep.yield ok)) else pure (ForInStep.yield r))
      (fun b s4=>if b=true then wpAny (model prog w) A (eval elt env)
       (fun x s5=>wpAny (model prog w) A (call (.builtin "list.append") [acc,x]) (fun _ s6=>∃m,m<n/\I m s6) (NB prog w A env R) s5) (NB prog w A env R) s4
       else ∃m,m<n/\I m s4) (NB prog w A env R) s3) (NB prog w A env R) s2) (NB prog w A env R) s1) (NB prog w A env R) s)
 (n:Nat)(h:I n s):codeAny (model prog w) A (.compLoop (.ListComp elt [⟨tg,iter,ifs,0⟩] scope pos) 0 it acc env) R s:=by
 refine codeAny_loop rfl I (fun n s hI=>?_) n h;refine(show wpAny _ A ((compTurn (.ListComp elt [⟨tg,iter,ifs,0⟩] scope pos) 0 it acc env).onRaise _) _ _ s from wpAny_noted ?_);rw[compTurn_list];refine qc (jn4 (qc (ja9 (turn n s hI) (fun r s1 h1=>?_) fun _ _ z=>z)));cases r with
 | none=>exact xp h1
 | some v=>
  refine qc (ja9 h1 (fun _ s2 h2=>?_) fun _ _ z=>z);refine qc (ja9 h2 (fun _ s3 h3=>qc (ja9 h3 (fun b s4 h4=>?_) fun _ _ z=>z)) fun _ _ z=>z);cases b with
  | false=>exact xp ⟨rfl,h4⟩
  | true=>
   refine qc (qc (ja9 h4 (fun x s5 h5=>?_) fun _ _ z=>z));exact qc (ja9 h5 (fun _ s6 h6=>xp (xp ⟨rfl,h6⟩)) fun _ _ z=>z)
end
theorem Ue{M:List Str}{tg:Expr}{xs:List Str}{ifs:List Expr}{cl:List (Str×Addr)}{g:TG}(hc:X.calm=true)(ok:Oa X M xs scope cl)
 (ht:∀C s₀ H₀ fp,lr (De X M xs scope cl C s₀ H₀ fp) ifs tt)(hg:∀C s₀ H₀ fp,PG (De X M xs scope cl C s₀ H₀ fp) tg g)(he:∀C s₀ H₀ fp,PE (De X M xs scope cl C s₀ H₀ fp) elt te)
 {pins:List (Addr×Obj)}{Z:St}{H2:Hp}{s2:Shared}{it:Addr}{fp:List Addr}{tn:Nat->Heap->Prop}{J:It}{Q:VK}(I2:Inv X pins Z H2 s2)(T:Turn X.prog X.w X.K tg J fp it tn)(st2:tn 0 s2.heap)(f2:∀b∈fp,Ju X pins H2 b)
 (hW:VF xs.length g tt te Z Q J H2)(post:Value->Addr->Result->Shared->Prop)
 (fin:∀D C H3 s4,Inv X pins Z H3 s4->(∃m,s4.heap.Ns C m)->Ju X pins H3 C->Q (.ref D) H3->post (.ref D) C (.ok .next) s4):
 wpAny (model X.prog X.w) X.A (newList []) (fun acc s₃=>wpAny (model X.prog X.w) X.A (newFunctionEnv scope X.env.globals cl [] X.env.qual none .none (some X.env)) (fun cenv s₄=>
  codeAny (model X.prog X.w) X.A (.compStart (.ListComp elt [⟨tg,iter,ifs,0⟩] scope pos) 0 (.ref it) acc { cenv with scope:=relabel scope X.env }) (post acc cenv.locals) s₄) X.xe s₃) X.xe s2:=by
 refine jl9 (wpAny_newFunctionEnv ok.cell (by intro y hy;simp at hy) (fun h₁ hns₁ hsb₁=>?_) ok.kind);dsimp only at hns₁ hsb₁ ⊢;generalize hH2:s2.heap.push { cls:=.type "list",dict:=none,data:=.seq ([]:List Value).toArray }=G2 at hns₁ hsb₁ ⊢;have hC:G2.objs.size=s2.heap.objs.size+1:=by rw[<-hH2,ji0]
 have hDC:s2.heap.objs.size≠G2.objs.size:=by rw[hC];exact vx (Nat.lt_succ_self _)
 have hCle:s2.heap.objs.size<=G2.objs.size:=by rw[hC];exact Nat.le_succ _
 have below:∀b,b<s2.heap.objs.size->b≠G2.objs.size/\b≠s2.heap.objs.size:=fun b hb=>⟨by rw[hC];exact vx (Nat.lt_succ_of_lt hb),vx hb⟩;have old:∀b o,s2.heap.get? b=some o->h₁.get? b=some o:=fun b o e=>hsb₁.extBut b o (below b (xb e)).1 (qf _ (hH2 ▸ qf _ e));have hacc:h₁.get? s2.heap.objs.size=some { cls:=.type "list",data:=.seq ([]:List Value).toArray }:=hsb₁.extBut _ _ hDC (qf _ (hH2 ▸ xa _ rfl));have fpb:∀b∈fp,b<s2.heap.objs.size:=fun b hb=>by
  obtain⟨o,e,_⟩:=T.obj _ _ st2 b hb;exact xb e
 have hD0:H2 s2.heap.objs.size=none:=I2.hok.fresh (qq _);have hC0:H2 G2.objs.size=none:=I2.hok.fresh hCle;generalize hDD:s2.heap.objs.size=D at*
 generalize hCC:G2.objs.size=C at*
 obtain⟨W,⟨m0,w0⟩,turn⟩:=hW D hD0;have okX:(De X M xs scope cl C s2 H2 fp).Ok:=rD I2 ok (by rw[hDD];exact hCle) f2 (by rw[hDD];exact fpb);have lenN:(List.replicate xs.length none++Z:St).length=(De X M xs scope cl C s2 H2 fp).N.length:=by
  show(List.replicate xs.length none++Z).length=(xs++M).length;rw[qr,qr,jb9,I2.len,ok.len]
 have locs:∀(h':Heap) (m:Str->Option Value),(∀y c,X.env.cells.lookup y=some c->∀v,s2.heap.IsCell c v->h'.IsCell c v)->
  ∀(j:Nat) (y:Str) (v:V),(xs++M)[j]?=some y->(List.replicate xs.length none++Z:St)[j]?=some (some v)->Vis (relabel scope X.env) y->∃u,RelV v u/\Look (compEnvC scope cl C X.env) h' m y u:=by
  intro h' m hcell j y v e1 e2 e3;rcases Nat.lt_or_ge j xs.length with jl | jl
  ·rw[jj6 (by rw[jb9];exact jl),List.getElem?_replicate,ya jl] at e2;cases e2
  ·obtain⟨i,rfl⟩:∃i,j=xs.length+i:=⟨j-xs.length,by lia⟩;have e0:M[i]?=some y:=by
    rw[je5 (jb6 _ _),Nat.add_sub_cancel_left] at e1;exact e1
   have e2':Z[i]?=some (some v):=by
    rw[je5 (by rw[jb9];exact jb6 _ _),jb9,Nat.add_sub_cancel_left] at e2;exact e2
   obtain⟨e1',k1,k2⟩:=ok.vis i y e0 e3;obtain⟨m2,_,hl⟩:=I2.loc;obtain⟨u,r,l⟩:=hl i y v e1' e2' (k2.elim (fun z=>.inr (.inl z)) fun z=>.inr (.inr z));obtain⟨c',hc'⟩:=ok.has y k1;rcases l with ⟨z,_⟩ | ⟨_,c,hcc,z⟩
   ·have z':X.env.scope.names.lookup y=some .local:=z;rcases k2 with q | q<;>(rw [q] at z';cases z')
   ·have q:=ok.sub y c' hc';rw[hcc] at q;cases q;exact⟨u,r,.inr ⟨k1,c',hc',hcell y c' hcc _ z⟩⟩
 have I0:Inv (De X M xs scope cl C s2 H2 fp) [] (List.replicate xs.length none++Z) (upd H2 D (.lst [])) { s2 with heap:=h₁,toks:=s2.toks+([]:List (Str×Value)).length }:=by
  refine⟨okX,rfl,I2.bare,?_,⟨_,hns₁,locs h₁ _ (fun y c e v z=>?_)⟩,fun y c e=>?_,?_,fun y c e=>?_,fun p hp=>?_,?_,lenN⟩
  ·exact Un.laid old (Nat.le_of_eq hDD) hD0
  ·obtain⟨o,ho,hd⟩:=z;exact⟨o,old c o ho,hd⟩
  ·obtain⟨v,o,ho,hd⟩:=I2.cell y c (ok.sub y c e);exact⟨v,o,old c o ho,hd⟩
  ·show upd H2 D (.lst []) C=none;rw[BK (Ne.symm hDC)];exact hC0
  ·have hn:=I2.freeC y c (ok.sub y c e);obtain⟨v,o,ho,hd⟩:=I2.cell y c (ok.sub y c e);rw[BK (fun z=>by have:=xb ho;rw[hDD,z] at this;exact jf6 _ this)];exact hn
  ·exact absurd hp (by show p∉([]++[]:List (Addr×Obj));simp)
  ·refine I2.hok.laid old (Nat.le_of_eq hDD) ⟨vj _,[],_,.nil,hacc⟩
 have fpk:∀{H':Hp},(∀b∈fp,H' b=none)->∀b∈fp,Ju (De X M xs scope cl C s2 H2 fp) [] H' b:=fun hn b hb=>by
  refine⟨hn b hb,(below b (fpb b hb)).1,okX.exfs b hb,.inl hb,fun y c e=>(f2 b hb).2.2.2.2.1 y c (ok.sub y c e),fun p hp=>?_⟩;exact absurd hp (by show p∉([]++[]:List (Addr×Obj));simp)
 have loop:∀s₃:Shared,s₃={ s2 with heap:=h₁,toks:=s2.toks+([]:List (Str×Value)).length }->
  codeAny (model X.prog X.w) X.A (.compLoop (.ListComp elt [⟨tg,iter,ifs,0⟩] scope pos) 0 (.ref it) (.ref D) (compEnvC scope cl C X.env))
   (post (.ref D) C) s₃:=by
  rintro s₃ rfl;refine eQ (fun n s'=>∃i ys w' H',w'.length=xs.length/\Inv (De X M xs scope cl C s2 H2 fp) [] (w'++Z) H' s'/\tn i s'.heap/\(∀b∈fp,H' b=none)/\W i n ys H') ?_ m0
   ⟨0,[],List.replicate xs.length none,_,jb9,I0,T.keep _ _ _ st2 (fun b _ o e=>old b o e),fun b hb=>by rw[BK (below b (fpb b hb)).2];exact(f2 b hb).1,w0⟩
  rintro n s3 ⟨i,ys,w3,H3,l3,I3,st3,fr3,wt⟩;obtain⟨hD3,hh⟩:=turn i n ys H3 wt;rcases hh with ⟨stop,q⟩ | ⟨go,hlen,m',hm,step⟩
  ·refine thn (T.done (De X M xs scope cl C s2 H2 fp) rfl rfl rfl hc i [] s3 (w3++Z) H3 _ I3 (fpk fr3) st3 stop) fun r s4 ⟨hr,I4⟩=>?_;subst hr;obtain⟨m4,hn4,_⟩:=id I4.loc;have hC4:H3 C=none:=I4.free;exact fin D C H3 s4 (I2.call' (ch:=fp) I4.os I4.base I4.hok I4.bare fun b hb=>⟨(f2 b hb).2.2.2.1,(f2 b hb).2.1,(f2 b hb).2.2.2.2.1,(f2 b hb).2.2.2.2.2⟩) ⟨m4,hn4⟩ (I2.fpOk (by rw[hDD];exact hCle) hC4) q
  ·refine ja9 (T.item (De X M xs scope cl C s2 H2 fp) rfl rfl rfl hc i [] s3 (w3++Z) H3 (fun _ _=>False) I3 (fpk fr3) st3 go) (fun r s4 h4=>?_) (fun _ _ z=>z.elim);obtain⟨u,hr,h4⟩:=h4;subst hr;refine ja9 h4 (fun _ s4 h4=>?_) (fun _ _ z=>z.elim);obtain⟨x',H5,I5,r5,y5,st5,fr5⟩:=h4;have I5':=I5.pinned (fpk fr5) (T.obj _ _ st5);refine ja9 (hg C s2 H2 fp s4 _ H5 x' u _ I5' r5 (step x' H5 y5 w3 l3)) (fun _ s6 h6=>?_) (fun _ _ z=>z.elim);obtain⟨σ6,H6,I6,w6,l6,rfl,q6⟩:=h6;have back:∀{s7:Shared} {H7:Hp} {w7:St},Inv (De X M xs scope cl C s2 H2 fp) ([]++Tf fp s4.heap) (w7++Z) H7 s7->tn (i+1) s7.heap/\(∀b∈fp,H7 b=none)/\Inv (De X M xs scope cl C s2 H2 fp) [] (w7++Z) H7 s7:=fun{s7 H7 w7} I7=>by
    refine⟨T.keep _ _ _ st5 fun b hb o e=>(I7.pin (b,o) (vi _ (vi _ (Je hb e)))).1,fun b hb=>?_,I7.unpinned⟩;obtain⟨o,e,d⟩:=T.obj _ _ st5 b hb;exact(I7.pin (b,o) (vi _ (vi _ (Je hb e)))).2.1
   refine ja9 (ht C s2 H2 fp _ s6 _ H6 _ I6 q6) (fun ok' s7 h7=>?_) (fun _ _ z=>z.elim);obtain⟨H7,I7,q7⟩:=h7;cases ok' with
   | false=>
    have q7':W (i+1) m' ys H7:=by simpa using q7
    rw[ua zk];obtain⟨b1,b2,b3⟩:=back I7;exact⟨m',hm,i+1,ys,_,H7,l6,b3,b1,b2,q7'⟩
   | true=>
    rw[ya rfl] at q7 ⊢;refine ja9 (he C s2 H2 fp s7 _ H7 _ I7 q7) (fun y s8 h8=>?_) (fun _ _ z=>z.elim);obtain⟨v8,H8,I8,r8,hD8,w8⟩:=h8;refine ja9 (WN (X:=De X M xs scope cl C s2 H2 fp) _ s8 _ H8 (.ref D) [v8] (.ref D) [y] (fun _ H9=>H9=upd H8 D (.lst (ys++[v8]))) I8 rfl (.cons r8 .nil) ⟨D,ys,v8,rfl,rfl,hD8,hlen,rfl⟩) (fun _ s9 h9=>?_) (fun _ _ z=>z.elim);obtain⟨v9,H9,I9,_,e9⟩:=h9;subst e9;obtain⟨b1,b2,b3⟩:=back I9;exact⟨m',hm,i+1,_,_,_,l6,b3,b1,b2,w8⟩
 exact codeAny_compStart_list (loop _ rfl) (T.self _ 0 _ _ _ (T.keep _ _ _ st2 (fun b _ o e=>old b o e)) (loop _ rfl))
theorem lK{M:List Str}{px:Pos}{ifs:List Expr}{cl:List (Str×Addr)}(hc:X.calm=true)(ok:Yu X M x scope cl)
 (ht:∀C s₀ H₀ fp,lr (Mf X M x scope cl C s₀ H₀ fp) ifs tt)(he:∀C s₀ H₀ fp,PE (Mf X M x scope cl C s₀ H₀ fp) elt te)
 {pins:List (Addr×Obj)}{Z:St}{H2:Hp}{s2:Shared}{it:Addr}{fp:List Addr}{tn:Nat->Heap->Prop}{J:It}{Q:VK}(I2:Inv X pins Z H2 s2)(T:Turn X.prog X.w X.K (.Name x px) J fp it tn)(st2:tn 0 s2.heap)(f2:∀b∈fp,Ju X pins H2 b)
 (hW:jA tt te Z Q J H2)(post:Value->Addr->Result->Shared->Prop)
 (fin:∀D C H3 s4,Inv X pins Z H3 s4->(∃m,s4.heap.Ns C m)->Ju X pins H3 C->Q (.ref D) H3->post (.ref D) C (.ok .next) s4):
 wpAny (model X.prog X.w) X.A (newList []) (fun acc s₃=>wpAny (model X.prog X.w) X.A (newFunctionEnv scope X.env.globals cl [] X.env.qual none .none (some X.env)) (fun cenv s₄=>
  codeAny (model X.prog X.w) X.A (.compStart (.ListComp elt [⟨.Name x px,iter,ifs,0⟩] scope pos) 0 (.ref it) acc { cenv with scope:=relabel scope X.env }) (post acc cenv.locals) s₄) X.xe s₃) X.xe s2:=
 Ue (g:=J3 0) hc ok ht (fun C s₀ H₀ fp=>Cm ok.nd rfl (.inl (lookup_relabel_local (ok.xl _ (.head _)))) (.inr (lookup_relabel_local (ok.xl _ (.head _))))) he I2 T st2 f2 (fun D hD=>by
  obtain⟨W,w0,turn⟩:=hW D hD;refine⟨W,w0,fun i m ys H3 wt=>?_⟩;obtain⟨hD3,hh⟩:=turn i m ys H3 wt;refine⟨hD3,hh.imp id fun h=>?_⟩;obtain⟨go,hlen,m',hm,step⟩:=h;refine⟨go,hlen,m',hm,fun x' H5 y5 ρ hρ=>?_⟩
  match ρ,hρ with
  | [a],_=>exact⟨[some x'],rfl,rfl,step x' H5 y5⟩) post fin
theorem El{M:List Str}{px:Pos}{ifs:List Expr}{cl:List (Str×Addr)}{wi:TI}(hc:X.calm=true)(ok:Yu X M x scope cl)(hi:PI X (.Name x px) iter wi)
 (ht:∀C s₀ H₀ fp,lr (Mf X M x scope cl C s₀ H₀ fp) ifs tt)(he:∀C s₀ H₀ fp,PE (Mf X M x scope cl C s₀ H₀ fp) elt te)
 (hs:∀x,foldedSetIterable iter X.env x=pure x:=by intro _;rfl):
 PE X (.ListComp elt [⟨.Name x px,iter,ifs,0⟩] scope pos) (gA wi tt te):=by
 intro pins s Z H Q I h;rw[eval_ListComp];refine wpAny_comprehension_free (use:=none) rfl hs ok.clos ok.kind ok.names (thn (hi s Z H _ I h) fun xv s1 h1=>thn h1 fun itv s2 h2=>?_);obtain⟨it,fp,tn,J,H2,e,I2,T,st2,f2,hW⟩:=h2;subst e;refine lK hc ok ht he I2 T st2 f2 hW (compPost (model X.prog X.w) X.A X.xe none (EP X pins Z Q)) fun D C H3 s4 I4 hm fC q=>?_;obtain⟨m,hn⟩:=hm;exact⟨m,hn,fun h' hsb=>⟨.ref D,H3,I4.turned (t':=s4.toks) (fun b o hb e=>hsb.extBut b o hb e) fC.1 fC.2.1 fC.2.2.2.1 fC.2.2.2.2.1 fC.2.2.2.2.2,rfl,q⟩⟩
theorem Yy:∀{bs:List Bool} {us:List Value},Vals (bs.map V.bl) us->us=bs.map Value.bool
 | [],_,.nil=>rfl
 | b::bs,u::us,.cons r t=>by
  cases (show u=Value.bool b from r);rw[Yy t];rfl
theorem cY(bs:List Bool):((List.range bs.length).all fun i=>(bs[i]?).getD true)=bs.all id:=by
 induction bs with
 | nil=>rfl
 | cons b bs ih=>
  rw[qm,List.range_succ_eq_map,List.all_cons,List.all_map,List.all_cons,<-ih];rfl
theorem vo{s:Shared}{h':Heap}{o:Obj}(hk:∀b x,b∉[s.heap.objs.size]->(s.heap.push o).get? b=some x->h'.get? b=some x):∀b x,s.heap.get? b=some x->h'.get? b=some x:=
 fun b x e=>hk b x (fun hm=>by rw[vb.mp hm] at e;exact jf6 _ (xb e)) (qf _ e)
theorem Ul(hc:X.calm=true):Hq X (.builtin "all") (fun xs H Q=>∃(p:Addr) (bs:List Bool),xs=[.ref p]/\SqL X.K H p (bs.map V.bl)/\Q (.bl (bs.all id)) H):=by
 intro pins s Z H xs us Q I r h;obtain⟨p,bs,rfl,hq,q⟩:=h;obtain⟨u,rfl,ru⟩:=vals1 r;cases (show u=Value.ref p from ru);obtain⟨its,rv,pl,_⟩:=I.list hq;obtain rfl:=Yy rv;have hl:=pl.isList;have hlt:p<s.heap.objs.size:=by obtain⟨_,e,_⟩:=id hl;exact xb e
 refine call_all_walk (jm0 hl ?_);refine⟨s.heap.objs.size,[s.heap.objs.size,p],[s.heap.objs.size],(bs.map Value.bool).toArray.size,_,_,fun i=>(bs[i]?).getD true,rfl,Walks.list (A:=X.A.in1) (I.ok.hd hc) _ p (vx hlt) (bs.map Value.bool).toArray,
  ⟨⟨_,xa _ rfl,rfl,rfl⟩,hl.push _⟩,fun i v s' Q' E' hP hQ=>?_,fun h' tk hk=>?_⟩
 ·have hP':(bs.map Value.bool)[i]?=some v:=by simpa using hP
  rw[zo] at hP';cases e:bs[i]? with
  | none=>rw[e] at hP';cases hP'
  | some b=>
   rw[e] at hP';cases hP';simp only[e,Option.getD_some] at hQ;exact ja4 hQ
 ·have e:((List.range (bs.map Value.bool).toArray.size).all fun i=>(bs[i]?).getD true)=bs.all id:=by
   rw[xc,js];exact cY bs
  rw[e];exact⟨.bl _,H,I.kept (vo hk),rfl,q⟩
theorem lookup_mem{κ β:Type}[BEq κ][LawfulBEq κ]{k:κ}{v:β}:∀{l:List (κ×β)},l.lookup k=some v->(k,v)∈l
 | (a,b)::r,h=>by
  rw[List.lookup_cons] at h;cases e:k==a with
  | true=>
   rw[e] at h;cases h;rw[eq_of_beq e];exact jv
  | false=>
   rw[e] at h;exact qh _ (lookup_mem h)
theorem Vp{env:Env}(h:∀y∈scope.names,y.2≠.free):(relabel scope env).names=scope.names:=
 map_eq_self fun x hx=>by
  obtain⟨n,k⟩:=x;have:(k==NameKind.free)=false:=by simpa using h _ hx
  simp[this]
theorem GK(N:List Str)(hN:X.N=N)(hf:∀y∈scope.names,y.2≠.free/\y.2≠.cell)(hk:scope.kind=.function)(hn:∀y∈scope.names,y.2=.local->scope.names.lookup y.1=some .local)
 (hx:scope.names.lookup x=some .local)(nd:(x::N).Nodup)(vis:∀y∈N,scope.names.lookup y≠some .local):Yu X N x scope []:=by
 have e:=Vp (env:=X.env) fun y hy=>(hf y hy).1;refine⟨closureFor_none fun y hy=>(hf y hy).1,fun y hy=>(hf y hy).2,hk,hn,fun y h=>vb.mp h ▸ hx,nd,by rw[hN],fun y c h=>(by cases h),fun y h=>?_,fun i y hy h=>?_⟩
 ·rw[e] at h;rcases h with h | h
  ·exact absurd rfl (hf _ (lookup_mem h)).2
  ·exact absurd rfl (hf _ (lookup_mem h)).1
 ·rcases h with h | h | h
  ·rw[e] at h;exact absurd h (vis y (zv hy))
  ·rw[e] at h;exact absurd rfl (hf _ (lookup_mem h)).2
  ·rw[e] at h;exact absurd rfl (hf _ (lookup_mem h)).1
structure Walk(J:It)(ok:Hp->Prop)(xs:List V):Prop where
 go:∀i H,ok H->i<xs.length->J.go i H
 yld:∀i H x H',ok H->J.yld i H x H'->i<xs.length->H'=H/\xs[i]?=some x
 stop:∀i H,ok H->xs.length<=i->J.stop i H
theorem JS{a:Addr}:Walk (Itl K a) (fun H=>SqL K H a xs) xs:=
 ⟨fun i H h hi=>⟨xs,xs[i],h,by simp[hi]⟩,fun i H x H' h y hi=>⟨y.1,y.2 xs h⟩,fun i H h hi=>⟨xs,h,hi⟩⟩
theorem mV{a:Addr}:Walk (Itt K a) (fun H=>SqT K H a xs) xs:=
 ⟨fun i H h hi=>⟨xs,xs[i],h,by simp[hi]⟩,fun i H x H' h y hi=>⟨y.1,y.2 xs h⟩,fun i H h hi=>⟨xs,h,hi⟩⟩
theorem mW{lo:Int}{n:Nat}:Walk (Itr lo n) (fun _=>True) ((List.range n).map fun i=>V.int (lo+(i:Nat))):=
 ⟨fun i H _ hi=>(by show i<n;simpa using hi),fun i H x H' _ y hi=>⟨y.1,by
  have hi':i<n:=by simpa using hi
  rw[y.2];simp[hi']⟩,fun i H _ hi=>(by show n<=i;simpa using hi)⟩
theorem ie{J:It}{ok:Hp->Prop}(Wk:Walk J ok xs)(hz:xs.length<sizeLine)(hok:∀D ys,H D=none->ok (upd H D (.lst ys)))(p:V->Bool)(f:V->V)
 (ht:∀x∈xs,∀D ys (Q':Bool->Hp->Prop),H D=none->Q' (p x) (upd H D (.lst ys))->tt (some x::Z) (upd H D (.lst ys)) Q')
 (he:∀x∈xs,p x=true->∀D ys (Q':VK),H D=none->Q' (f x) (upd H D (.lst ys))->te (some x::Z) (upd H D (.lst ys)) Q')
 (h:∀D,H D=none->Q (.ref D) (upd H D (.lst ((xs.filter p).map f)))):
 ∀D,H D=none->∃W:Nat->Nat->List V->Hp->Prop,(∃m,W 0 m [] (upd H D (.lst [])))/\
  ∀i m ys H2,W i m ys H2->H2 D=some (.lst ys)/\((J.stop i H2/\Q (.ref D) H2)\/(J.go i H2/\ys.length<sizeLine/\∃m',m'<m/\∀x H3,J.yld i H2 x H3->
   tt (some x::Z) H3 fun b H4=>if b=true then te (some x::Z) H4 fun y H5=>H5 D=some (.lst ys)/\W (i+1) m' (ys++[y]) (upd H5 D (.lst (ys++[y]))) else W (i+1) m' ys H4)):=by
 intro D hD;refine⟨fun i m ys H2=>i<=xs.length/\m=xs.length-i/\ys=((xs.take i).filter p).map f/\H2=upd H D (.lst ys),⟨_,vj _,rfl,by simp,rfl⟩,?_⟩;rintro i m ys H2 ⟨hi,rfl,hys,rfl⟩;refine⟨An,?_⟩;by_cases hlt:i<xs.length
 ·have hl:ys.length<=i:=by
   rw[hys,js];exact zw (List.length_filter_le _ _) (by rw[jf0];lia)
  refine .inr ⟨Wk.go i _ (hok D ys hD) hlt,by lia,xs.length-(i+1),by lia,fun x H3 hy=>?_⟩;obtain⟨e3,ex⟩:=Wk.yld i _ x H3 (hok D ys hD) hy hlt;subst e3;have hm:x∈xs:=zv ex;have et:xs.take (i+1)=xs.take i++[x]:=by rw[vk,ex];rfl
  refine ht x hm D ys _ hD ?_;cases hp:p x with
  | false=>
   rw[ua zk];refine⟨hlt,rfl,?_,rfl⟩;rw[et,List.filter_append,hys];simp[hp]
  | true=>
   rw[ya rfl];refine he x hm hp D ys _ hD ⟨An,hlt,rfl,?_,by rw[tL]⟩;rw[et,List.filter_append,hys];simp[hp]
 ·have e:i=xs.length:=by lia
  subst e;refine .inl ⟨Wk.stop _ _ (hok D ys hD) (qq _),?_⟩;rw[hys,Qr];exact h D hD
theorem Xx{R:It->Hp->Prop}(h:ta Z H fun vs H1=>∃j:Int,vs=[.int j]/\ -(2^62)<=j/\j<2^62/\R (Itr 0 j.toNat) H1):yL ta Z H R:=h
theorem ux{R:It->Hp->Prop}(h:ta Z H fun vs H1=>∃i j:Int,vs=[.int i,.int j]/\(-(2^62)<=i/\i<2^62/\ -(2^62)<=j/\j<2^62)/\R (Itr i (j-i).toNat) H1):ADK ta Z H R:=h
theorem Fb{wi:TI}(h:wi Z H (jA tt te Z Q)):gA wi tt te Z H Q:=h
theorem Ni{J:It}{ok:Hp->Prop}(Wk:Walk J ok xs)(hz:xs.length<sizeLine)(hok:∀D ys,H D=none->ok (upd H D (.lst ys)))(p:V->Bool)(f:V->V)
 (ht:∀x∈xs,∀D ys (Q':Bool->Hp->Prop),H D=none->Q' (p x) (upd H D (.lst ys))->tt (some x::Z) (upd H D (.lst ys)) Q')
 (he:∀x∈xs,p x=true->∀D ys (Q':VK),H D=none->Q' (f x) (upd H D (.lst ys))->te (some x::Z) (upd H D (.lst ys)) Q')
 (h:∀D,H D=none->Q (.ref D) (upd H D (.lst ((xs.filter p).map f)))):jA tt te Z Q J H:=ie Wk hz hok p f ht he h
theorem eV{i:Nat}{a:Addr}(ei:Z[i]?=some (some (.ref a)))(hS:SqT K H a xs)(hz:xs.length<sizeLine)(p:V->Bool)(f:V->V)
 (ht:∀x∈xs,∀D ys (Q':Bool->Hp->Prop),H D=none->Q' (p x) (upd H D (.lst ys))->tt (some x::Z) (upd H D (.lst ys)) Q')
 (he:∀x∈xs,p x=true->∀D ys (Q':VK),H D=none->Q' (f x) (upd H D (.lst ys))->te (some x::Z) (upd H D (.lst ys)) Q')
 (h:∀D,H D=none->Q (.ref D) (upd H D (.lst ((xs.filter p).map f)))):gA (vy K (Lw i)) tt te Z H Q:=
 by unfold gA vy;exact MF ei ⟨a,rfl,⟨_,hS⟩,ie mV hz (fun D ys hD=>(Ax hD _).tup hS) p f ht he h⟩
theorem Gu{Q:Bool->Hp->Prop}(h:Q true H):fZ Z H Q:=h
theorem Iv{cl:List (Str×Addr)}(xs M N:List Str)(hl:M.length=N.length)(hN:X.N=N)(clos:closureFor scope X.env=pure cl)(hc:(scope.names.all fun y=>y.2 != .cell)=true)(hk:scope.kind=.function)
 (hn:(scope.names.all fun y=>y.2 != .local||scope.names.lookup y.1==some .local)=true)(hx:(xs.all fun x=>scope.names.lookup x==some .local)=true)(nd:(xs++M).Nodup)
 (hs:∀p∈cl,X.env.cells.lookup p.1=some p.2)
 (hh:((relabel scope X.env).names.all fun p=>(p.2 != .cell&&p.2 != .free)||(cl.lookup p.1).isSome)=true)
 (hv:((M.zip N).all fun q=>match (relabel scope X.env).names.lookup q.1 with
  | some .local=>false
  | some .cell=>q.1==q.2&&(X.env.scope.names.lookup q.1==some .cell||X.env.scope.names.lookup q.1==some .free)
  | some .free=>q.1==q.2&&(X.env.scope.names.lookup q.1==some .cell||X.env.scope.names.lookup q.1==some .free)
  | _=>true)=true):Oa X M xs scope cl:=by
 refine⟨clos,fun y hy=>?_,hk,fun y hy hl=>?_,(fun x hm=>by simpa using jb4.mp hx x hm),nd,by rw[hN];exact hl,fun y c h=>hs _ (lookup_mem h),fun y h=>?_,fun i y hy h=>?_⟩
 ·have:=jb4.mp hc y hy;simpa using this
 ·have:=jb4.mp hn y hy;simpa [hl] using this
 ·rcases h with h | h
  ·have:=jb4.mp hh _ (lookup_mem h);exact jg4.mp (by simpa using this)
  ·have:=jb4.mp hh _ (lookup_mem h);exact jg4.mp (by simpa using this)
 ·have hi:i<N.length:=by
   have:=(zn.mp hy).1;lia
  have hz:(y,N[i])∈M.zip N:=by
   have:(M.zip N)[i]?=some (y,N[i]):=List.getElem?_zip_eq_some.mpr ⟨hy,by simp[hi]⟩;exact zv this
  have z:=jb4.mp hv _ hz;have fin:y=N[i]->X.N[i]?=some y:=fun e=>by rw[hN,e];simp[hi]
  rcases h with h | h | h
  ·dsimp only at z;rw[h] at z;cases z
  ·dsimp only at z;rw[h] at z;simp only[jb2,jc0,jn6] at z;exact⟨fin z.1,.inl h,z.2⟩
  ·dsimp only at z;rw[h] at z;simp only[jb2,jc0,jn6] at z;exact⟨fin z.1,.inr h,z.2⟩
theorem Dv{cl:List (Str×Addr)}(M N:List Str)(hl:M.length=N.length)(hN:X.N=N)(clos:closureFor scope X.env=pure cl)(hc:(scope.names.all fun y=>y.2 != .cell)=true)(hk:scope.kind=.function)
 (hn:(scope.names.all fun y=>y.2 != .local||scope.names.lookup y.1==some .local)=true)(hx:scope.names.lookup x=some .local)(nd:(x::M).Nodup)
 (hs:∀p∈cl,X.env.cells.lookup p.1=some p.2)
 (hh:((relabel scope X.env).names.all fun p=>(p.2 != .cell&&p.2 != .free)||(cl.lookup p.1).isSome)=true)
 (hv:((M.zip N).all fun q=>match (relabel scope X.env).names.lookup q.1 with
  | some .local=>false
  | some .cell=>q.1==q.2&&(X.env.scope.names.lookup q.1==some .cell||X.env.scope.names.lookup q.1==some .free)
  | some .free=>q.1==q.2&&(X.env.scope.names.lookup q.1==some .cell||X.env.scope.names.lookup q.1==some .free)
  | _=>true)=true):Yu X M x scope cl:=Iv [x] M N hl hN clos hc hk hn (by simp[hx]) nd hs hh hv
noncomputable def mH(lo c:Int)(n:Nat):It:=⟨fun i _=>i<n,fun i H x H'=>H'=H/\x=.int (lo+i*c),fun i _=>n<=i⟩
theorem Y5{P:Program}{w:World}{tg:Expr}(it:Addr)(lo c:Int)(n:Nat):Turn P w K tg (mH lo c n) [it] it (fun i h=>IsRangeIter h it (lo+(i:Nat)*c) ((n:Int)-(i:Nat)) c) where
 mem:=by simp
 obj:=fun i h st b hb=>by
  have e:b=it:=by simpa using hb
  subst e;exact⟨_,st,fun v z=>by
   have z':Data.fields _=Data.cell v:=z;cases z'⟩
 keep:=fun i h h' st k=>k it (by simp) _ st
 item:=by
  intro X hP hw hK hc i pins s Z H E I hf st hg;subst hP hw hK;obtain⟨f0,f1,f2,f3,f4,f5⟩:=hf it (by simp);have W:=Walks.range (prog:=X.prog) (w:=X.w) (I.ok.hd hc) it lo c n;refine W.item i s _ _ hg st fun v h' tk hv st' kk=>?_;obtain⟨t,rfl⟩:=hv;have I1:Inv X pins Z H { s with heap:=h',toks:=tk }:=I.turned (fun b o hb e=>kk b o (by simpa using hb) e) f0 f1 f3 f4 f5;exact⟨_,rfl,Z9 (s:={ s with heap:=h',toks:=tk }) (n:="range_iterator") st' rfl rfl (by decide) ⟨.int (lo+i*c),H,I1,⟨t,rfl⟩,⟨rfl,rfl⟩,st',fun b hb=>(hf b hb).1⟩⟩
 done:=by
  intro X hP hw hK hc i pins s Z H E I hf st hg;subst hP hw hK;obtain⟨f0,f1,f2,f3,f4,f5⟩:=hf it (by simp);exact wpAny_pyNext_range_end (I.ok.hd hc) st (by have:n<=i:=hg;lia) fun h' eb=>⟨rfl,I.turned (t':=s.toks) (fun b o hb e=>eb b o hb e) f0 f1 f3 f4 f5⟩
 self:=fun _ _ _ _ _ st h=>wpAny_pyIter_rangeiter st h
noncomputable def yK(ta:TA):TI:=fun Z H R=>ta Z H fun vs H1=>∃i j c:Int,vs=[.int i,.int j,.int c]/\0<c/\c<1073741824/\Builtin.Range.small i j c=true/\∃n:Nat,(n:Int)=Builtin.Range.rangeSize i j c/\R (mH i c n) H1
theorem WK{tg:Expr}{a b d:Expr}{p:Pos}(hg:Gl X "range")(hm:X.mg "range"=none)(ha:PA X [a,b,d] ta)(hs:‹starEach [a,b,d] X.env=(false,eval a X.env)::starEach [b,d] X.env›)
 (hpl:‹(backTo pos (starEach [b,d] X.env)).any (·.1)=false›):PI X tg (.Call (.Name "range" p) [a,b,d] [] pos) (yK ta):=by
 intro pins s Z H R I h;refine Call_ (Iu I hg hm boot_range (ko (thn (ha (pos:=pos) pins s Z H _ I h) fun us s1 hZ=>?_) hs hpl));obtain⟨vs,H1,I1,r1,q1⟩:=hZ;obtain⟨lo,hi,c,e,c0,c1,sm,n,hn,q⟩:=q1;subst e;cases r1 with
 | cons r rr=>
  cases rr with
  | cons r' rr=>
   cases rr with
   | cons r'' rr=>
    cases rr;obtain⟨t,rfl⟩:=r;obtain⟨t',rfl⟩:=r';obtain⟨t'',rfl⟩:=r'';refine PySem.call_range_3 (by lia) ?_ (Or.inl (PyProof.noPylong_small (by lia)));refine wpAny_pyIter_range (IsRange.new ..) sm ?_;have I2:Inv X pins Z H1 { s1 with heap:=s1.heap.push { cls:=.type "range",data:=.fields #[.int lo t,.int hi t',.int c t''] },toks:=s1.toks }:=I1.kept fun b o e=>qf _ e;refine⟨(s1.heap.push { cls:=.type "range",data:=.fields #[.int lo t,.int hi t',.int c t''] }).objs.size,[(s1.heap.push { cls:=.type "range",data:=.fields #[.int lo t,.int hi t',.int c t''] }).objs.size],_,_,H1,rfl,
     I2.kept (t':=s1.toks) fun b o e=>qf _ e,Y5 _ lo c n,?_,fun b hb=>?_,q⟩
    ·have e1:lo+((0:Nat):Int)*c=lo:=by simp
     have e2:(n:Int)-((0:Nat):Int)=Builtin.Range.rangeSize lo hi c:=by rw[<-hn];simp
     show IsRangeIter _ _ (lo+((0:Nat):Int)*c) ((n:Int)-((0:Nat):Int)) c;rw[e1,e2];exact xa _ rfl
    ·have e:b=(s1.heap.push { cls:=.type "range",data:=.fields #[.int lo t,.int hi t',.int c t''] }).objs.size:=by simpa using hb
     subst e;exact I2.fpOk (qq _) (I2.hok.fresh (qq _))
theorem gW{R:It->Hp->Prop}(h:ta Z H fun vs H1=>∃i j c:Int,vs=[.int i,.int j,.int c]/\0<c/\c<1073741824/\Builtin.Range.small i j c=true/\∃n:Nat,(n:Int)=Builtin.Range.rangeSize i j c/\R (mH i c n) H1):yK ta Z H R:=h
theorem qz{a b:Int}:decide (V.int a=V.int b)=decide (a=b):=by
 rw[ja1];simp
theorem Lx{i j c:Int}(i0:0<=i)(i1:i<4294967296)(j0:0<=j)(j1:j<4294967296)(c0:0<c)(c1:c<4294967296):Builtin.Range.small i j c=true:=by
 have e:Builtin.Range.rangeSize i j c=if i<j then (j-i-1)/c+1 else 0:=by
  unfold Builtin.Range.rangeSize;rw[ya c0]
 have b1:∀x:Int,0<=x->x/c<=x:=fun x hx=>je7 _ hx;have b2:∀x:Int,0<=x->0<=x/c:=fun x hx=>jg0 hx (by omega);unfold Builtin.Range.small;rw[e];simp only[Builtin.Range.rangeFitsLong,jb2,jn6,decide_eq_true_eq,jc0,ya c0];split
 ·have:=b1 (j-i-1) (by omega);have:=b2 (j-i-1) (by omega);omega
 ·omega
theorem Te{wi:TI}{g:TG}{tb:TS}{D:Ends}(h:wi Z H fun J H1=>∃W:Nat->Nat->St->Hp->Prop,(∃m,W 0 m Z H1)/\∀i m Z H,W i m Z H->
 (J.stop i H/\D.nx Z H)\/(J.go i H/\∃N:St->Hp->Prop,(∀Z' H',N Z' H'->∃m',m'<m/\W (i+1) m' Z' H')/\∀x H',J.yld i H x H'->g x Z H' fun σ2 H2=>tb { D with nx:=N,ct:=N,bk:=D.nx } σ2 H2)):ABs wi g tb D Z H:=h
theorem JF{tl:TE}{R:It->Hp->Prop}(h:tl Z H fun x H1=>∃a,x=.ref a/\(∃xs,SqL K H1 a xs)/\R (Itl K a) H1):yM K tl Z H R:=h
theorem xr{tl:TE}{R:It->Hp->Prop}(h:tl Z H fun x H1=>∃a,x=.ref a/\(∃xs,SqT K H1 a xs)/\R (Itt K a) H1):vy K tl Z H R:=h
theorem Ek{H':Hp}{l:Addr}{o:HO}(h:H l=none)(s:Av H H'):Av H (upd H' l o):=fun b u e=>by
 rw[BK (Bp e h)];exact s b u e
end
noncomputable def AEU(h:Heap)(e:Addr)(cls:Value)(dd:Option Addr)(head:Value):Prop:=∃vs sl,h.get? e=some ⟨cls,dd,.fields vs,sl⟩/\vs[1]?=some head
noncomputable def XTr(h base:Heap)(e:Addr)(cls:Value)(dd:Option Addr)(fl:Value):Prop:=∃T,AEU h e cls dd (.ref T)/\base.get? T=none/\T≠e/\∃oT ts,h.get? T=some oT/\oT.data=.fields ts/\ts[3]?=some fl
structure Sea(base:Heap)(l:List Env)(e:Addr)(h:Heap):Prop where
 stays:base.StaysIn h
 new:base.get? e=none
 frames:h.FunFrames base l
section
variable{M:Model}{A:Around}{E:Value->Shared->Prop}{s:Shared}{base:Heap}{env:Env}{outer l:List Env}{L e:Addr}{cls:Value}{dd:Option Addr}
end
noncomputable def Old(fs:List Addr)(H:Hp)(h B:Heap):Prop:=∀b u,h.get? b=some u->b∉fs->∃u',B.get? b=some u'/\(H b=none->u'=u)
noncomputable def Tra(H:Hp)(h B:Heap):Prop:=∀b o,H b=some o->∃u,h.get? b=some u/\B.get? b=some u
section
variable{P:Program}{w:World}{fs:List Addr}{H H':Hp}{h h1 h2 B:Heap}
end
noncomputable def CX1(P:Program)(w:World):CXT:=fun outer H s E e s'=>∃(ea:Addr) (cls:Value) (dx:Option Addr) (B:Heap) (H':Hp),e=.ref ea/\s'.os=s.os/\AllBare s'.gens/\Un (frs outer) [] H H' s.heap s'.heap/\
 HOk P w H' s'.heap/\Sea B outer ea s'.heap/\XTr s'.heap B ea cls dx .none/\Old (frs outer) H s.heap B/\Tra H' s'.heap B/\E cls dx H'
section
variable{X:Cx}{pins:List (Addr×Obj)}{Z:St}{H H':Hp}{s:Shared}
end
section
variable{P:Program}{w:World}{K:Fr}{mg:Str->Option Value}{base:Heap}
end
structure AEh(P:Program)(w:World)(K:Fr)(mg:Str->Option Value)(base:Heap)(k:Nat)(x:Str)(ps:List Str)(sp:Sp):Prop where
 ex:∃(f:Addr) (fd:FuncData),FW P w K mg base (CX1 P w) k f fd ps sp/\Binds K fd ps []/\PySem.W.keepIn K (.ref f)=true/\mg x=some (.ref f)
section
variable{X:Cx}{EE:Value->Option Addr->St->Hp->Prop}
end
noncomputable def ABf(a:Addr)(cls:Value)(dx:Option Addr):HO:=.ext fun h=>∃vs sl,h.get? a=some ⟨cls,dx,.fields vs,sl⟩
section
variable{X:Cx}{pins:List (Addr×Obj)}{Z:St}{H:Hp}{s:Shared}{ea:Addr}{cls:Value}{dx:Option Addr}
end
section
variable{X:Cx}{pins:List (Addr×Obj)}{Z:St}{H:Hp}{s:Shared}
end
section
variable{X:Cx}
end
section
variable{prog:Program}{w:World}{A:Around}{E:Value->Shared->Prop}{s:Shared}{K:Fr}{x D:Addr}{ox:Obj}{odo:Option Obj}{name:Str}
structure ABa(K:Fr)(D:Addr):Prop where
 ga:PySem.W.findIn K (.ref D) "__getattribute__"=some (some (.builtin "BaseException.__getattribute__"))
 gk:PySem.W.findIn K (.ref D) "__getattr__"=some none
 be:PySem.W.mroIn K D (.type "BaseException")=some true
 ob:PySem.W.mroIn K D (.type "object")=some true
 ca:PySem.W.findIn K (.ref D) "__class__"=some (some (.builtin "object.__class__"))
 cl:(PySem.W.clsIn K D).isSome=true
 sp:PySem.W.specialIn K (.builtin "object.__class__") "__get__"=some (some (.builtin "getset_descriptor.__get__"))
 tk:PySem.W.takesIn K (.builtin "object.__class__")=some true
end
section
variable{X:Cx}
end
structure W4(k:Nat)(A:Around):Prop where
 dp:A.depth+3*k+5<recursionLimit
 un:A.units+16*k+200<cLine
 gd:A.guards=some []
theorem Eu.toN{k:Nat}{A:Around}(r:Eu k A):W4 k A:=⟨r.dp,r.un,r.gd⟩
section
variable{P:Program}{w:World}{K:Fr}{mg:Str->Option Value}{base:Heap}
end
section
variable{X:Cx}
end
theorem HD(a:Addr):RelV (.ref a) (.ref a):=rfl
variable{sp:Sp}
section
variable{X:Cx}
end
section
variable{prog:Program}{w:World}{A:Around}{E:Value->Shared->Prop}{h:Heap}{g:Array GenState}{d:Drawn}{t:Nat}{os:OsState}{K:Fr}{f:Addr}
variable{nm q:Str}{C N:Addr}{bs bm:List Value}{hdct:Bool}{sn:List Str}{sub:List Value}{ab:Bool}{col:Option Bool}{dd:Option Addr}{k0 k1 k2 k3 k5:Option Value}
end
section
variable{prog:Program}{w:World}{A:Around}{E:Value->Shared->Prop}{h:Heap}{g:Array GenState}{d:Drawn}{t:Nat}{os:OsState}{K:Fr}{e:Addr}
variable{nm q:Str}{C N:Addr}{bs bm:List Value}{hdct:Bool}{sn:List Str}{sub:List Value}{ab:Bool}{col:Option Bool}{dd:Option Addr}{k0 k1 k2 k3 k5:Option Value}{newId:String}
variable{x CF:Addr}{cd:ClassData}{name:Str}{v:Value}{vs:Array Value}{sl:Array (Option Value)}
end
section
variable{K:Fr}{C CF:Addr}{h:Heap}
end
section
variable{X:Cx}{pins:List (Addr×Obj)}{Z:St}{H:Hp}{s:Shared}{h':Heap}
variable{o value:Expr}{f:Str}{pos pos':Pos}{ta tv:TE}
end
section
variable{M:Model}{A:Around}{E:Value->Shared->Prop}
end
section
variable{X:Cx}{EE:Value->Option Addr->St->Hp->Prop}
end
noncomputable def Ca(i:Int):Str:=Str.ofString (toString i)
noncomputable def shI(is:List Int):Str:=tupleText (is.map Ca)
inductive sU(K:Fr)(H:Hp):V->Str->Prop
 | int {i:Int}:i.natAbs.log2<1920->sU K H (.int i) (Ca i)
 | str {z:Str}:z.length<=sizeLine->sU K H (.str z) z
 | tup {a:Addr} {is:List Int}:SqT K H a (is.map V.int)->(∀i∈is,i.natAbs.log2<1920)->(shI is).length<=sizeLine->sU K H (.ref a) (shI is)
theorem shownAll_ints:∀is:List Int,PyData.shownAll (is.map PyData.int)=is.map Ca
 | []=>by simp[PyData.shownAll]
 | i::is=>by simp only[zi,PyData.shownAll,PyData.shown,shownAll_ints is];rfl
theorem showableAll_ints:∀is:List Int,(∀i∈is,i.natAbs.log2<1920)->PyData.showableAll (is.map PyData.int)=true
 | [],_=>by simp[PyData.showableAll]
 | i::is,h=>by
  simp only[zi,PyData.showableAll,PyData.showable,showableAll_ints is fun j hj=>h j (qh _ hj),Bool.and_true,decide_eq_true_eq];exact h i (jv ..)
theorem J2:∀is:List Int,PyData.hasDictAll (is.map PyData.int)=false
 | []=>by simp[PyData.hasDictAll]
 | i::is=>by simp only[zi,PyData.hasDictAll,PyData.hasDict,J2 is,Bool.or_self]
theorem depthAll_ints:∀is:List Int,PyData.depthAll (is.map PyData.int)<=1
 | []=>by simp[PyData.depthAll]
 | i::is=>by
  have:=depthAll_ints is;simp only[zi,PyData.depthAll,PyData.depth];lia
theorem readsAll_ints{h:Heap}:∀{is:List Int} {us:List Value},Vals (is.map V.int) us->ReadsAll h us (is.map PyData.int) []
 | [],_,.nil=>.nil
 | i::is,_,.cons r t=>by
  obtain⟨tk,rfl⟩:=(show ∃tk,_=Value.int i tk from r);exact .cons (as:=[]) (bs:=[]) (.int i tk) (readsAll_ints t)
section
variable{X:Cx}{pins:List (Addr×Obj)}{Z:St}{H:Hp}{s:Shared}
theorem AAy{k:Nat}{x:V}{u:Value}{y:Str}(hr:W4 k X.A)(I:Inv X pins Z H s)(r:RelV x u)(f:sU X.K H x y)(q:Q (.str y) H):wpAny (model X.prog X.w) X.A (formatField u Str.empty) (EP X pins Z Q) X.xe s:=by
 cases f with
 | int h=>
  obtain⟨t,rfl⟩:=(show ∃t,u=Value.int _ t from r);exact wpAny_formatField_int h ⟨.str (Ca _),H,I.tok _,⟨_,rfl⟩,q⟩
 | str h=>
  obtain⟨t,rfl⟩:=(show ∃t,u=Value.str y t from r);exact wpAny_formatField_str ⟨.str y,H,I,⟨_,rfl⟩,q⟩ ⟨.str y,H,I.tok _,⟨_,rfl⟩,q⟩ h
 | @tup a is hs hi hz=>
  cases (show u=Value.ref a from r);obtain⟨its,vr,⟨o,ho,hc,n,hd⟩,hl⟩:=I.tuple hs;have rd:Reads s.heap (.ref a) (.tuple (is.map PyData.int)) []:=.tuple ho hc hd (readsAll_ints vr);have e:(PyData.tuple (is.map PyData.int)).shown=shI is:=by simp only[PyData.shown,shownAll_ints];rfl
  have hdp:(PyData.tuple (is.map PyData.int)).depth<=3:=by
   have:=depthAll_ints is;simp only[PyData.depth];lia
  refine formatField_of_reads rd (by simp only[PyData.showable];exact showableAll_ints is hi) (PyData.noDict_hsm (by simp only[PyData.hasDict];exact J2 is)) hr.gd (by have:=hr.un;lia) (fun _ _ z=>z) (fun h' u tk hk=>?_) (by rw[e];exact hz);rw[e];exact⟨.str (shI is),H,I.kept hk,⟨_,rfl⟩,q⟩
end
noncomputable def nF(K:Fr)(tv:TE):TE:=fun Z H Q=>tv Z H fun x H1=>∃y,sU K H1 x y/\Q (.str y) H1
noncomputable abbrev TJ:=Str->St->Hp->VK->Prop
noncomputable def PJ(X:Cx)(es:List Expr)(t:TJ):Prop:=∀ ⦃pins:List (Addr×Obj)⦄ (s:Shared) (Z:St) (H:Hp) (out:Str) (Q:VK),Inv X pins Z H s->t out Z H Q->wpAny (model X.prog X.w) X.A (joinParts out (evalEach es X.env)) (EP X pins Z Q) X.xe s
noncomputable def ADH:TJ:=fun out _ H Q=>out.length<=sizeLine/\Q (.str out) H
noncomputable def WW(te:TE)(t:TJ):TJ:=fun out Z H Q=>te Z H fun x H1=>∃y,x=.str y/\(out++y).length<=sizeLine/\t (out++y) Z H1 Q
noncomputable def xU(t:TJ):TE:=fun Z H Q=>t Str.empty Z H Q
section
variable{X:Cx}{k:Nat}{e e₂:Expr}{es:List Expr}{te:TE}{t:TJ}{pos:Pos}
theorem Jc(hr:W4 k X.A)(h:PE X e te):PE X (.FormattedValue e (-1) none pos) (nF X.K te):=by
 intro pins s Z H Q I hw;refine FormattedValue_plain (thn (h s Z H _ I hw) fun u s1 hZ=>?_);obtain⟨x,H1,I1,r,y,f,q⟩:=hZ;exact AAy hr I1 r f q
theorem Oz:PJ X [] ADH:=fun pins s Z H out Q I h=>joinParts_nil ⟨.str out,H,I.tok _,⟨_,rfl⟩,h.2⟩ h.1
theorem DY(h1:PE X e te)(h2:PJ X es t):PJ X (e::es) (WW te t):=by
 intro pins s Z H out Q I h;show wpAny _ _ (joinParts out (eval e X.env::evalEach es X.env)) _ _ _;refine joinParts_cons (thn (h1 s Z H _ I h) fun u s1 hZ=>?_);obtain⟨x,H1,I1,r,y,ex,hz,q⟩:=hZ;subst ex;obtain⟨tk,rfl⟩:=(show ∃tk,u=Value.str y tk from r);exact⟨hz,h2 s1 Z H1 (out++y) Q I1 q⟩
theorem K4(h:PJ X (e::e₂::es) t):PE X (.JoinedStr (e::e₂::es) pos) (xU t):=fun pins s Z H Q I hw=>JoinedStr_many (h s Z H Str.empty Q I hw)
end
noncomputable def xO(K:Fr)(ta:TE)(f:Str):TE:=fun Z H Q=>ta Z H fun x H1=>∃a C d fs v,x=.ref a/\H1 a=some (ABf a (.ref C) (some d))/\H1 d=some (.xd fs)/\ABa K C/\PySem.W.hasDictIn K C=true/\PySem.W.findIn K (.ref C) f=some none/\fs.lookup f=some v/\Q v H1
section
variable{X:Cx}{e:Expr}{f:Str}{pos:Pos}{ta:TE}
end
section
variable{X:Cx}{EE:Value->Option Addr->St->Hp->Prop}
structure mK(P:Program)(w:World)(K:Fr)(mg:Str->Option Value)(base:Heap)(CX:CXT)(k:Nat)(C:Addr)(m:Str)(ps:List Str)(sp:Sp):Prop where
 ex:∃(f:Addr) (fd:FuncData),FW P w K mg base CX k f fd ps sp/\Binds K fd ps []/\Meth K C m f
structure mL(P:Program)(w:World)(K:Fr)(mg:Str->Option Value)(base:Heap)(CX:CXT)(k:Nat)(x:Str)(C:Addr)(ps:List Str)(sp:Sp):Prop where
 ex:∃(f:Addr) (fd:FuncData),FW P w K mg base CX k f fd ps sp/\Binds K fd ps []/\Mk K C f/\mg x=some (.ref C)
variable{C:Addr}{m x:Str}{k:Nat}{ps:List Str}{sp:Sp}{o e:Expr}{es:List Expr}{ta:TE}{t:TA}{apos pos p:Pos}
theorem CZ{pl:Sem Bool}(O:mK X.prog X.w X.K X.mg X.base CX0 k C m ps sp)(c:Cls X.K C)(he:PE X o ta)(ha:PA X (e::es) t)(hr:Eu k X.A:=by walk_at"hr")
 (hst:‹starEach (e::es) X.env=(false,eval e X.env)::starEach es X.env›)(hpl:‹(backTo pos (starEach es X.env)).any (·.1)=false›)
 (ht:‹eval (.Call (.Attribute o m apos) (e::es) [] pos) X.env=(do
  let ov <-eval o X.env
  standAt apos.atName
  let (f,first) <-holding [ov] (getMethod ov m pl)
  callWith pos f first (backTo pos (starEach (e::es) X.env)) (backToKw pos (keywordEach [] X.env)))›):
 PE X (.Call (.Attribute o m apos) (e::es) [] pos) (Y9 C m sp [] E0 ta t):=by
 obtain⟨f,fd,F,hb,M⟩:=O.ex;exact vI (pl:=pl) he c M F hr hb .nil M3 ha hst hpl ht
theorem Cu{pl:Sem Bool}(O:mK X.prog X.w X.K X.mg X.base CX0 k C m ps sp)(c:Cls X.K C)(he:PE X o ta)(hr:Eu k X.A:=by walk_at"hr")
 (ht:‹eval (.Call (.Attribute o m apos) [] [] pos) X.env=(do
  let ov <-eval o X.env
  standAt apos.atName
  let (f,first) <-holding [ov] (getMethod ov m pl)
  callWith pos f first (backTo pos (starEach [] X.env)) (backToKw pos (keywordEach [] X.env)))›):
 PE X (.Call (.Attribute o m apos) [] [] pos) (Y9 C m sp [] E0 ta Y8):=by
 obtain⟨f,fd,F,hb,M⟩:=O.ex;exact pK (pl:=pl) he c M F hr hb .nil M3 ht
theorem Gd(O:mL X.prog X.w X.K X.mg X.base CX0 k x C ps sp)(ha:PA X (e::es) t)(hr:Eu (k+1) X.A:=by walk_at"hr")(hg:Gl X x:=by exact rfl)
 (hdb:(x==("__debug__":Str))=false:=by decide)(he:‹starEach (e::es) X.env=(false,eval e X.env)::starEach es X.env›)(hpl:‹(backTo pos (starEach es X.env)).any (·.1)=false›):
 PE X (.Call (.Name x p) (e::es) [] pos) (V4 C sp [] E0 t):=by
 obtain⟨f,fd,F,hb,M,hm⟩:=O.ex;exact gh M F hr hg hm hb .nil M3 ha hdb he hpl
end
theorem Ka{i:Int}(h:i.natAbs.log2<1920):(Ca i).length<=1921:=by
 have e:=int_text_length_le (k:=1920) (by decide) h;unfold Ca;rw[PySem.ofString_length];lia
theorem fits{s:Str}{n:Nat}(h:s.length<=n)(hn:n<=100000):s.length<=sizeLine:=zw h (zw hn (by decide))
theorem Kw{out:Str}(h:out.length<=sizeLine)(q:Q (.str out) H):ADH out Z H Q:=⟨h,q⟩
theorem Jy{t:TJ}{out:Str}(n:Nat)(hn:out.length<=n)(hz:n+x.length<=100000)(h:(out++x).length<=n+x.length->t (out++x) Z H Q):WW (tC (.str x)) t out Z H Q:=by
 have e:(out++x).length<=n+x.length:=by rw[strLen_append];lia
 exact⟨x,rfl,fits e hz,h e⟩
theorem Tc{j:Nat}{i:Int}{t:TJ}{out:Str}(n:Nat)(hn:out.length<=n)(hz:n+1921<=100000)(hv:Z[j]?=some (some (.int i)))(hi:i.natAbs.log2<1920)(h:(out++Ca i).length<=n+1921->t (out++Ca i) Z H Q):
 WW (nF K (Lw j)) t out Z H Q:=by
 have e:(out++Ca i).length<=n+1921:=by have:=Ka hi;rw[strLen_append];lia
 unfold WW nF;exact MF hv ⟨Ca i,.int hi,Ca i,rfl,fits e hz,h e⟩
theorem xq{j:Nat}{z:Str}{t:TJ}{out:Str}(n m:Nat)(hn:out.length<=n)(hm:z.length<=m)(hz:n+m<=100000)(hv:Z[j]?=some (some (.str z)))(h:(out++z).length<=n+m->t (out++z) Z H Q):
 WW (nF K (Lw j)) t out Z H Q:=by
 have e:(out++z).length<=n+m:=by rw[strLen_append];lia
 unfold WW nF;exact MF hv ⟨z,.str (fits hm (by lia)),z,rfl,fits e hz,h e⟩
section
variable{X:Cx}
theorem Ou{t:TT}{ta tb:TE}(h:t Z H fun c H1=>if c=true then ta Z H1 Q else tb Z H1 Q):tIf t ta tb Z H Q:=h
noncomputable def ACl(K:Fr):R2:=fun x y H Q=>∃(a b:Addr) (ns ms:List Int),x=.ref a/\y=.ref b/\SqL K H a (ns.map V.int)/\SqL K H b (ms.map V.int)/\Q (.bl (decide (ns=ms))) H
theorem AAa(hu:X.A.units+64<cLine):OpR X (compareOp .Eq) (ACl X.K):=by
 intro pins s Z H x y v u Q I rx ry h;obtain⟨a,b,ns,ms,rfl,rfl,ha,hb,q⟩:=h;cases rx;cases ry;obtain⟨its,r,pl,_⟩:=I.list ha;obtain⟨its',r',pl',_⟩:=I.list hb;exact PySem.W.ke_eq_ints pl.isList pl'.isList (intsAre_of r) (intsAre_of r') hu ⟨.bl _,H,I,rfl,q⟩
theorem z9{a b:Addr}{ns ms:List Int}(ha:SqL K H a (ns.map V.int))(hb:SqL K H b (ms.map V.int))(q:Q (.bl (decide (ns=ms))) H):ACl K (.ref a) (.ref b) H Q:=⟨a,b,ns,ms,rfl,rfl,ha,hb,q⟩
noncomputable def ADq(K:Fr):List V->Hp->VK->Prop:=fun xs H Q=>∃(p:Addr) (ns:List Int),xs=[.ref p]/\SqL K H p (ns.map V.int)/\Q (.int ns.sum) H
theorem Nj(hc:X.calm=true):Hq X (.builtin "sum") (ADq X.K):=by
 intro pins s Z H xs us Q I r h;obtain⟨p,ns,rfl,hq,q⟩:=h;obtain⟨u,rfl,ru⟩:=vals1 r;cases (show u=Value.ref p from ru);obtain⟨its,rv,pl,_⟩:=I.list hq;have hi:=intsAre_of rv;obtain⟨xs,hx⟩:=hi.allInts.items;have hl':s.heap.IsList p (intItems xs):=hx ▸ pl.isList;refine sum_intListG (I.ok.hd hc) hl' fun h' tk t' hk=>?_;have e1:ns=xs.toList.map (·.1):=by
  rw[<-nums_intItems,<-hx];exact(show numsOf its.toArray.toList=ns from hi.numsOf).symm
 have e2:preSum (numAt xs) xs.size=ns.sum:=by
  rw[preSum_eq,xy (by simp),e1]
 rw[e2];exact⟨.int ns.sum,H,I.kept hk,⟨_,rfl⟩,q⟩
noncomputable def ACj(K:Fr):List V->Hp->VK->Prop:=fun xs H Q=>∃(p:Addr) (ns:List Int),xs=[.ref p]/\SqL K H p (ns.map V.int)/\ns≠[]/\∀m,m∈ns->(∀a∈ns,m<=a)->Q (.int m) H
noncomputable def ACk(K:Fr):List V->Hp->VK->Prop:=fun xs H Q=>∃(p:Addr) (ns:List Int),xs=[.ref p]/\SqL K H p (ns.map V.int)/\ns≠[]/\∀m,m∈ns->(∀a∈ns,a<=m)->Q (.int m) H
theorem lQ(hc:X.calm=true):Hq X (.builtin "min") (ACj X.K):=by
 intro pins s Z H xs us Q I r h;obtain⟨p,ns,rfl,hq,hne,q⟩:=h;obtain⟨u,rfl,ru⟩:=vals1 r;cases (show u=Value.ref p from ru);obtain⟨its,rv,pl,_⟩:=I.list hq;have hi:=intsAre_of rv;obtain⟨xs,e⟩:=hi.allInts.items;have hns:ns=xs.toList.map (·.1):=by
  rw[<-nums_intItems,<-e];exact(show numsOf its.toArray.toList=ns from hi.numsOf).symm
 have hsz:0<xs.size:=by
  have h3:=List.length_pos_iff.mpr hne;rw[hns,js,ky] at h3;exact h3
 have hl':s.heap.IsList p (intItems xs):=e ▸ pl.isList;refine min_intList (I.ok.hd hc) hl' hsz fun v h' tk hv hk=>?_;obtain⟨t,rfl⟩:=intItems_at hv;obtain⟨h1,h2⟩:=argBest_lt (numAt xs) (xs.size-1);refine⟨.int _,H,I.kept hk,⟨_,rfl⟩,q _ ?_ fun a ha=>?_⟩
 ·rw[hns,numAt_eq];exact getD_mem (by rw[js,ky];lia)
 ·rw[hns] at ha;obtain⟨j,hj,rfl⟩:=mem_getD ha;rw[js,ky] at hj;rw[<-numAt_eq];exact h2 j (by lia)
theorem lR(hc:X.calm=true):Hq X (.builtin "max") (ACk X.K):=by
 intro pins s Z H xs us Q I r h;obtain⟨p,ns,rfl,hq,hne,q⟩:=h;obtain⟨u,rfl,ru⟩:=vals1 r;cases (show u=Value.ref p from ru);obtain⟨its,rv,pl,_⟩:=I.list hq;have hi:=intsAre_of rv;obtain⟨xs,e⟩:=hi.allInts.items;have hns:ns=xs.toList.map (·.1):=by
  rw[<-nums_intItems,<-e];exact(show numsOf its.toArray.toList=ns from hi.numsOf).symm
 have hsz:0<xs.size:=by
  have h3:=List.length_pos_iff.mpr hne;rw[hns,js,ky] at h3;exact h3
 have hl':s.heap.IsList p (intItems xs):=e ▸ pl.isList;refine max_intList (I.ok.hd hc) hl' hsz fun v h' tk hv hk=>?_;obtain⟨t,rfl⟩:=intItems_at hv;obtain⟨h1,h2⟩:=argBest_gt (numAt xs) (xs.size-1);refine⟨.int _,H,I.kept hk,⟨_,rfl⟩,q _ ?_ fun a ha=>?_⟩
 ·rw[hns,numAt_eq];exact getD_mem (by rw[js,ky];lia)
 ·rw[hns] at ha;obtain⟨j,hj,rfl⟩:=mem_getD ha;rw[js,ky] at hj;rw[<-numAt_eq];exact h2 j (by lia)
end
section
variable{X:Cx}{M:List Str}{x:Str}{scope:Scope}{cl:List (Str×Addr)}{C:Addr}{s₀:Shared}{H₀:Hp}{fp:List Addr}
theorem PB:IxR (Mf X M x scope cl C s₀ H₀ fp) (vD X.K):=GR
theorem HJ:IxR (Mf X M x scope cl C s₀ H₀ fp) (vC X.K):=MT
end
section
variable{X:Cx}{tg:Expr}
noncomputable def AAw(ta:TA):TI:=fun Z H R=>ta Z H fun vs H1=>∃i j:Int,vs=[.int i,.int j]/\R (Itr i (j-i).toNat) H1
theorem oZ{R:It->Hp->Prop}(h:ta Z H fun vs H1=>∃i j:Int,vs=[.int i,.int j]/\R (Itr i (j-i).toNat) H1):AAw ta Z H R:=h
end
section
variable{X:Cx}
noncomputable def yC:V->List V->Hp->VK->Prop:=fun x vs H Q=>∃n:Int,x=.int n/\vs=[]/\Q (.int ((Builtin.Int.intBits n:Nat):Int)) H
theorem RZ:MtR X "int.bit_length" yC:=by
 intro pins s Z H x vs v us Q I rx rv h;obtain⟨n,rfl,rfl,q⟩:=h;obtain⟨t,rfl⟩:=rx;cases rv.zero;exact call_int_bit_length ⟨.int _,H,I.tok _,⟨_,rfl⟩,q⟩
end
theorem pB{n:Int}(h:Q (.int ((Builtin.Int.intBits n:Nat):Int)) H):tyV K "int" (.int n) H/\yC (.int n) [] H Q:=⟨rfl,n,rfl,rfl,h⟩
theorem Ii{T:String}{r:V->List V->Hp->VK->Prop}{to:TE}{t:TA}(h:to Z H fun x H1=>tyV K T x H1/\t Z H1 fun xs H2=>r x xs H2 Q):tBM K T r to t Z H Q:=h
theorem Ov{i:Nat}{t:TA}{l:Addr}(e:Z[i]?=some (some (.ref l)))(h:H l=some (.lst xs))
 (g:t Z H fun ys H2=>RW (.ref l) ys H2 Q):tBM K "list" RW (Lw i) t Z H Q:=by unfold tBM;exact MF e ⟨.inl ⟨rfl,_,SqL.of h⟩,g⟩
theorem Ik{b:Nat}(h:b≠0):Builtin.Int.intBits (b:Int)=b.log2+1:=by
 unfold Builtin.Int.intBits;rw[ua (by simp;lia),Int.natAbs_natCast]
theorem fO{b:Nat}(h:b≠0):Builtin.bitAnd (b:Int) (-(b:Int))=(b:Int)-((b &&& (b-1):Nat):Int):=by
 unfold Builtin.bitAnd;rw[decide_eq_true (jk6 b),decide_eq_false (by lia)];show(b:Int)-(((b:Int).toNat &&& (Builtin.bitNot (-(b:Int))).toNat:Nat):Int)=_;unfold Builtin.bitNot;rw[xi,show(-(-(b:Int))-1).toNat=b-1 by lia]
theorem vp{m k:Nat}(h:k<m):ixN m (k:Int)=some k:=by
 unfold ixN;rw[ya (by lia),ya (by lia),xi]
theorem gU{p:Addr}{k:Nat}{v:V}{Q:Hp->Prop}(h:H p=some (.lst xs))(hk:k<xs.length)(q:Q (upd H p (.lst (xs.set k v)))):xu (.ref p) (.int (k:Int)) v H Q:=
 ⟨p,xs,k,k,rfl,rfl,h,vp hk,q⟩
theorem cW{l:Addr}{k:Int}(h:H l=some (.lst xs))(h0:0<=k)(h1:k<2^60)(hz:xs.length*k.toNat<=sizeLine)(q:∀p,H p=none->Q (.ref p) (upd H p (.lst (List.replicate k.toNat xs).flatten))):ACi (.ref l) (.int k) H Q:=
 ⟨l,k,xs,rfl,rfl,h,by lia,by lia,hz,q⟩
theorem o7{l b:Addr}{zs:List V}(h:H l=some (.lst xs))(g:H b=some (.lst zs))(hz:xs.length+zs.length<=sizeLine)(q:∀p,H p=none->Q (.ref p) (upd H p (.lst (xs++zs)))):ACm (.ref l) (.ref b) H Q:=
 ⟨l,b,xs,zs,rfl,rfl,h,g,hz,q⟩
theorem UJ{lo c:Int}{n:Nat}{g:TG}{tb:TS}{D:Ends}(Pv:Nat->St->Hp->Prop)(h0:Pv 0 Z H)
 (hs:∀i Z H,i<n->Pv i Z H->g (.int (lo+i*c)) Z H fun σ2 H2=>tb { D with nx:=Pv (i+1),ct:=Pv (i+1),bk:=D.nx } σ2 H2)(hd:∀Z H,Pv n Z H->D.nx Z H):
 ∃W:Nat->Nat->St->Hp->Prop,(∃m,W 0 m Z H)/\∀i m Z H,W i m Z H->
  ((mH lo c n).stop i H/\D.nx Z H)\/((mH lo c n).go i H/\∃N:St->Hp->Prop,(∀Z' H',N Z' H'->∃m',m'<m/\W (i+1) m' Z' H')/\∀x H',(mH lo c n).yld i H x H'->g x Z H' fun σ2 H2=>tb { D with nx:=N,ct:=N,bk:=D.nx } σ2 H2):=by
 refine⟨fun i m Z H=>m=n-i/\i<=n/\Pv i Z H,⟨n,by simp,vj _,h0⟩,?_⟩;rintro i m Z H ⟨rfl,hi,p⟩;by_cases hlt:i<n
 ·refine .inr ⟨hlt,Pv (i+1),fun Z' H' p'=>⟨n-(i+1),by lia,rfl,hlt,p'⟩,fun x H' y=>?_⟩;obtain⟨e,y⟩:=y;subst e y;exact hs i Z _ hlt p
 ·have e:i=n:=by lia
  subst e;exact .inl ⟨qq _,hd Z H p⟩
theorem Jb{i j c:Int}(c0:0<c):Builtin.Range.rangeSize i j c=if i<j then (j-i-1)/c+1 else 0:=by
 unfold Builtin.Range.rangeSize;rw[ya c0]
noncomputable def xP(ta:TE):TT:=fun Z H Q=>ta Z H fun x H'=>∃i:Int,x=.int i/\Q (i != 0) H'
theorem uw{i:Int}{Q:Bool->Hp->Prop}(h:Q (i != 0) H):∃j:Int,V.int i=.int j/\Q (j != 0) H:=⟨i,rfl,h⟩
theorem AAQ{X:Cx}{a:Expr}{ta:TE}(ha:PE X a ta)(he:∀whole,isTrue a X.env whole=(do let v <-whole;standAt a.pos;holding [v] (truthy v))):PT X a (xP ta):=by
 intro pins s Z H Q I h;refine isTrue_plain (thn (ha s Z H _ I h) fun v s1 hZ=>?_) (he _);obtain⟨x,H1,I1,r1,q1⟩:=hZ;obtain⟨i,rfl,q⟩:=q1;exact yc pins s1 Z H1 _ v Q I1 r1 ⟨_,rfl,q⟩
section
variable{X:Cx}{M:List Str}{x:Str}{scope:Scope}{cl:List (Str×Addr)}{C:Addr}{s₀:Shared}{H₀:Hp}{fp:List Addr}
theorem Uj:Hq (Mf X M x scope cl C s₀ H₀ fp) (.builtin "len") (fun xs H Q=>∃p ys,xs=[.ref p]/\(SqL X.K H p ys\/SqT X.K H p ys)/\Q (.int ys.length) H):=Bo
end
theorem ABV{xs:List Int}{k:Nat}{x:Int}(h:xs[k]?=some x):(xs.map V.int)[k]?=some (V.int x):=by rw[zo,h];rfl
theorem Ga{a:Addr}{lo hi:Option Int}(h:SqL K H a xs)(q:∀p,H p=none->Q (.ref p) (upd H p (.lst (Hu xs lo hi)))):ACh K (.ref a) lo hi H Q:=⟨a,xs,rfl,h,q⟩
theorem lH(xs:List Int)(k:Nat):Hu (xs.map V.int) (some (k:Int)) none=(xs.drop k).map V.int:=by
 unfold Hu;rw[HT.sIx_nat,HT.sIx_none,js,List.map_drop];by_cases h:k<=xs.length
 ·rw[jl0 h,xy (by rw[jb5,js];lia)]
 ·rw[Nat.min_eq_right (by lia),va (by rw[js];lia),va (by rw[js];lia),List.take_nil]
theorem zy{i:Int}{P:Int->Prop}(h:P i):∃j,V.int i=.int j/\P j:=⟨i,rfl,h⟩
section
variable{X:Cx}
noncomputable def tLR(ta:TA):TE:=fun Z H Q=>ta Z H fun vs H1=>∃(i j c:Int) (n:Nat),(vs=[.int i,.int j,.int c]\/(vs=[.int i,.int j]/\c=1))/\0<c/\c<1073741824/\Builtin.Range.small i j c=true/\Builtin.Range.rangeSize i j c=(n:Int)/\n<=1000000/\
 ∀l,H1 l=none->Q (.ref l) (upd H1 l (.lst ((List.range n).map fun(k:Nat)=>V.int (i+(k:Int)*c))))
theorem Hx{lo c:Int}:∀(acc:List Value) (k:Nat),(∀(j:Nat) (v:Value),acc[j]?=some v->∃t,v=.int (lo+((k+j:Nat):Int)*c) t)->Vals ((List.range' k acc.length).map fun(i:Nat)=>V.int (lo+(i:Int)*c)) acc
 | [],k,_=>.nil
 | v::acc,k,h=>by
  rw[qm,List.range'_succ,zi];refine .cons ?_ (Hx acc (k+1) fun j u hu=>?_)
  ·obtain⟨t,ht⟩:=h 0 v (by simp);exact⟨t,by rw[ht];simp⟩
  ·obtain⟨t,ht⟩:=h (j+1) u (by simpa using hu);exact⟨t,by rw[ht,show k+(j+1)=k+1+j by lia]⟩
theorem Li{pins:List (Addr×Obj)}{s:Shared}{r:Addr}{i j c:Int}{t u v:Tok}{n:Nat}(hc:X.calm=true)(I:Inv X pins Z H s)(hr:IsRange s.heap r i j c t u v)(sm:Builtin.Range.small i j c=true)(hn:Builtin.Range.rangeSize i j c=(n:Int))(hz:n<=1000000)
 (q:∀l,H l=none->Q (.ref l) (upd H l (.lst ((List.range n).map fun(k:Nat)=>V.int (i+(k:Int)*c))))):wpAny (model X.prog X.w) X.A (call (.type "list") [.ref r]) (EP X pins Z Q) X.xe s:=by
 refine call_list_range (I.ok.hd hc) hr sm hn (by lia) fun h' tk acc' c' hk hS' hacc=>?_;have ha:acc'.toList.length=n:=by simpa using hacc.1
 refine⟨.ref _,_,I.laid (a:=s.heap.objs.size) (o:=.lst ((List.range n).map fun(k:Nat)=>V.int (i+(k:Int)*c))) hk (qq _) ⟨?_,acc'.toList,c',?_,by simpa using hS'⟩,rfl,q _ I.fresh⟩
 ·rw[js,Zl,sizeLine_eq];lia
 ·have:=Hx (lo:=i) (c:=c) acc'.toList 0 fun j v hv=>by rw[jm8];exact hacc.2 j v (by simpa using hv)
  rw[ha,<-List.range_eq_range'] at this;exact this
theorem dD{a b d:Expr}{p p2 pos2:Pos}(hc:X.calm=true)(hgl:Gl X "list")(hml:X.mg "list"=none)(hgr:Gl X "range")(hmr:X.mg "range"=none)(ha:PA X [a,b,d] ta)
 (hs:‹starEach [a,b,d] X.env=(false,eval a X.env)::starEach [b,d] X.env›)(hpl:‹(backTo pos2 (starEach [b,d] X.env)).any (·.1)=false›)
 (hs1:‹starEach [.Call (.Name "range" p2) [a,b,d] [] pos2] X.env=(false,eval (.Call (.Name "range" p2) [a,b,d] [] pos2) X.env)::starEach [] X.env›):
 PE X (.Call (.Name "list" p) [.Call (.Name "range" p2) [a,b,d] [] pos2] [] pos) (tLR ta):=by
 intro pins s Z H Q I h;refine jc3 (Iu I hgl hml boot_list ?_ (by decide) (by decide));refine ko ?_ hs1 rfl;rw[hs1];show wpAny _ _ (spliced ((false,eval _ X.env)::backTo pos (starEach [] X.env))) _ _ s;refine Calls.spliced_cons ?_;refine Call_ (Iu I hgr hmr boot_range (ko (thn (ha (pos:=pos2) pins s Z H _ I h) fun us s1 hZ=>?_) hs hpl));obtain⟨vs,H1,I1,r1,q1⟩:=hZ;obtain⟨i,j,c,n,e,c0,c1,sm,hn,hz,q⟩:=q1;rcases e with e | ⟨e,rfl⟩
 ·subst e;cases r1 with
  | cons r rr=>
   cases rr with
   | cons r' rr=>
    cases rr with
    | cons r'' rr=>
     cases rr;obtain⟨t,rfl⟩:=r;obtain⟨t',rfl⟩:=r';obtain⟨t'',rfl⟩:=r'';refine PySem.call_range_3 (by lia) ?_ (Or.inl (PyProof.noPylong_small (by lia)));refine Calls.spliced_nil ?_;have I2:Inv X pins Z H1 { s1 with heap:=s1.heap.push { cls:=.type "range",data:=.fields #[.int i t,.int j t',.int c t''] },toks:=s1.toks }:=I1.kept fun b o e=>qf _ e;exact Li hc I2 (IsRange.new ..) sm hn hz q
 ·subst e;cases r1 with
  | cons r rr=>
   cases rr with
   | cons r' rr=>
    cases rr;obtain⟨t,rfl⟩:=r;obtain⟨t',rfl⟩:=r';refine call_range_2 ?_;refine Calls.spliced_nil ?_;have I2:Inv X pins Z H1 { s1 with heap:=s1.heap.push { cls:=.type "range",data:=.fields #[.int i t,.int j t',.int 1 s1.toks] },toks:=s1.toks+1 }:=I1.kept fun b o e=>qf _ e;exact Li hc I2 (IsRange.new ..) sm hn hz q
end
theorem Gh{J:It}{ok:Hp->Prop}(Wk:Walk J ok xs)(hz:xs.length<sizeLine)(Pv:Addr->Nat->List V->Hp->Prop)
 (h0:∀D,H D=none->Pv D 0 [] (upd H D (.lst [])))
 (hD:∀D i ys H2,H D=none->Pv D i ys H2->H2 D=some (.lst ys)/\ys.length<=i/\ok H2)
 (hs:∀D i x ys H2,H D=none->xs[i]?=some x->Pv D i ys H2->tt (some x::Z) H2 fun b H4=>if b=true then te (some x::Z) H4 fun y H5=>H5 D=some (.lst ys)/\Pv D (i+1) (ys++[y]) (upd H5 D (.lst (ys++[y]))) else Pv D (i+1) ys H4)
 (h:∀D ys H2,H D=none->Pv D xs.length ys H2->Q (.ref D) H2):jA tt te Z Q J H:=by
 intro D hD0;refine⟨fun i m ys H2=>i<=xs.length/\m=xs.length-i/\Pv D i ys H2,⟨_,vj _,rfl,h0 D hD0⟩,?_⟩;rintro i m ys H2 ⟨hi,rfl,p⟩;obtain⟨d1,d2,d3⟩:=hD D i ys H2 hD0 p;refine⟨d1,?_⟩;by_cases hlt:i<xs.length
 ·refine .inr ⟨Wk.go i _ d3 hlt,by lia,xs.length-(i+1),by lia,fun x H3 hy=>?_⟩;obtain⟨e3,ex⟩:=Wk.yld i _ x H3 d3 hy hlt;subst e3;have:=hs D i x ys H3 hD0 ex p;refine cast ?_ this
  congr 1
  funext b H4
  cases b with
  | false=>simp only[jk3,if_false];exact propext ⟨fun z=>⟨hlt,trivial,z⟩,fun z=>z.2.2⟩
  | true=>
   simp only[if_true]
   congr 1
   funext y H5
   exact propext ⟨fun z=>⟨z.1,hlt,trivial,z.2⟩,fun z=>⟨z.1,z.2.2.2⟩⟩
 ·have e:i=xs.length:=by lia
  subst e;exact .inl ⟨Wk.stop _ _ d3 (qq _),h D ys H2 hD0 p⟩
section
variable{X:Cx}
end
theorem Zr{k:Nat}{wi:TI}{g:TG}(h:wi Z H (VF k g tt te Z Q)):nH k wi g tt te Z H Q:=h
section
variable{X:Cx}{M xs:List Str}{scope:Scope}{cl:List (Str×Addr)}{C:Addr}{s₀:Shared}{H₀:Hp}{fp:List Addr}
theorem Zv{es:List Expr}{k:Nat}{t:TGs}{n:Nat}(hc:X.calm=true)(h:PGs (De X M xs scope cl C s₀ H₀ fp) es t)
 (hn:‹(assignEach es (De X M xs scope cl C s₀ H₀ fp).env).length=n›)(hst:‹(assignEach es (De X M xs scope cl C s₀ H₀ fp).env).findIdx? (·.1)=none›):PG (De X M xs scope cl C s₀ H₀ fp) (.Tuple es k pos) (qe X.K n t):=
 X5 hc h hn hst
end
structure Ku(K:Fr)(x qual:Str)(st:Stmt)(f:Addr)(fd:FuncData)(ds:Array Value):Prop where
 ex:∃(oc:Value) (od:Option Addr) (T:Addr) (to:Obj) (tn:Nat) (kV doc pm:Value) (an:Option Addr) (cdv ct:Value) (osl:Array (Option Value)),
  fd=PySem.W.fnOf x qual (Ff st) (Dl st) (BZ st) (.ref T) kV doc pm an cdv ct/\K.lookup f=some ⟨oc,od,.func fd,osl⟩/\PySem.W.codeIn K cdv qual=true/\K.lookup T=some to/\to.data=.seq ds tn
 kp:PySem.W.keepIn K (.ref f)=true
section
variable{P:Program}{w:World}{K:Fr}{mg:Str->Option Value}{base:Heap}{x qual:Str}{st:Stmt}{f:Addr}{fd:FuncData}{N ps:List Str}{k:Nat}{sp:Sp}{ds:Array Value}
theorem Ku.ok(F:Ku K x qual st f fd ds)(S:DP N ps (BZ st))(len:∀{vs H Q E},sp vs H Q E->vs.length=ps.length)
 (hbody:∀{cdv:Value} {A:Around} {outer:List Env} {s:Shared} (nd:N.Nodup) (H:Hp) (vs:List V) (Q:VK) (E:XK),Eu k (A.deeper (envOfC qual (BZ st) s.heap.objs.size f cdv))->sp vs H Q E->
  ∃t,PSs (Vs CX0 P w K mg base N qual (BZ st) f cdv A outer s H E).nox (Dl st) t/\t { nx:=fun _ H'=>Q .non H',rt:=Q } (start N vs) H):FW P w K mg base CX0 (k+1) f fd ps sp:=by
 obtain⟨oc,od,T,to,tn,kV,doc,pm,an,cdv,ct,osl,rfl,lk,hcd,_⟩:=F.ex;refine yO lk hcd S (fun _ _ _ _=>len) fun A outer s H vs Q E hr hsp=>?_;obtain⟨t,h,q⟩:=hbody S.nd H vs Q E hr hsp;exact⟨t,h.nox,q⟩
theorem Ku.bindsD{dv:List Value}(n:Nat)(hn:n+dv.length=ps.length)(F:Ku K x qual st f fd ds)
 (h:∀(T:Addr) (kV doc pm:Value) (an:Option Addr) (cdv ct:Value) (us:List Value),us.length=n->
  ∃k:Option (Array Value)->Sem (List (Str×Value)),bindArgs (PySem.W.fnOf x qual (Ff st) (Dl st) (BZ st) (.ref T) kV doc pm an cdv ct) ⟨us,[]⟩=seqItems? (.ref T) >>= k/\k (some ds)=pure (ps.zip (us++dv))):Binds K fd ps dv:=by
 obtain⟨oc,od,T,to,tn,kV,doc,pm,an,cdv,ct,osl,rfl,lk,hcd,ht,hs⟩:=F.ex;intro s us KX hl;obtain⟨k,h1,h2⟩:=h T kV doc pm an cdv ct us (by rw[qr] at hl;lia);exact PySem.W.binds_K KX rfl ht hs h1 h2
theorem Yc{oc:Value}{od an:Option Addr}{osl:Array (Option Value)}{kV doc pm cdv ct:Value}{T:Addr}{to:Obj}{tn:Nat}(l:K.lookup f=some ⟨oc,od,.func (PySem.W.fnOf x qual (Ff st) (Dl st) (BZ st) (.ref T) kV doc pm an cdv ct),osl⟩)
 (c:PySem.W.codeIn K cdv qual=true)(k:PySem.W.keepIn K (.ref f)=true)(t:K.lookup T=some to)(d:to.data=.seq ds tn):Ku K x qual st f (PySem.W.fnOf x qual (Ff st) (Dl st) (BZ st) (.ref T) kV doc pm an cdv ct) ds:=
 ⟨⟨oc,od,T,to,tn,kV,doc,pm,an,cdv,ct,osl,rfl,l,c,t,d⟩,k⟩
end
structure BV(P:Program)(w:World)(K:Fr)(mg:Str->Option Value)(base:Heap)(CX:CXT)(k:Nat)(x:Str)(ps:List Str)(dvs:List V)(sp:Sp):Prop where
 ex:∃(f:Addr) (fd:FuncData) (ds:List Value),FW P w K mg base CX k f fd ps sp/\Binds K fd ps ds/\Vals dvs ds/\PySem.W.keepIn K (.ref f)=true/\mg x=some (.ref f)
structure sV(P:Program)(w:World)(K:Fr)(mg:Str->Option Value)(base:Heap)(CX:CXT)(k:Nat)(x:Str)(C:Addr)(ps:List Str)(dvs:List V)(sp:Sp):Prop where
 ex:∃(f:Addr) (fd:FuncData) (ds:List Value),FW P w K mg base CX k f fd ps sp/\Binds K fd ps ds/\Vals dvs ds/\Mk K C f/\mg x=some (.ref C)
section
variable{X:Cx}{EE:Value->Option Addr->St->Hp->Prop}{C:Addr}{m x:Str}{k:Nat}{ps:List Str}{dvs:List V}{sp:Sp}{o e:Expr}{es:List Expr}{ta:TE}{t:TA}{apos pos p:Pos}
theorem AAX(O:sV X.prog X.w X.K X.mg X.base CX0 k x C ps dvs sp)(hr:Eu (k+1) X.A)(hg:Gl X x)(ha:PA X (e::es) t)
 (hdb:(x==("__debug__":Str))=false:=by decide)(he:‹starEach (e::es) X.env=(false,eval e X.env)::starEach es X.env›)(hpl:‹(backTo pos (starEach es X.env)).any (·.1)=false›):
 PE X (.Call (.Name x p) (e::es) [] pos) (V4 C sp dvs E0 t):=by
 obtain⟨f,fd,ds,F,hb,hv,M,hm⟩:=O.ex;exact gh M F hr hg hm hb hv M3 ha hdb he hpl
end
section
variable{X:Cx}
end
section
variable{X:Cx}{pins:List (Addr×Obj)}{Z:St}{H:Hp}{s:Shared}
end
structure Hn(P:Program)(w:World)(K:Fr)(mg:Str->Option Value)(base:Heap)(CX:CXT)(k:Nat)(m:Str)(ps:List Str)(L:List (Addr×Sp)):Prop where
 ex:∀p∈L,Cls K p.1/\∃(f:Addr) (fd:FuncData),FW P w K mg base CX k f fd ps p.2/\Binds K fd ps []/\Meth K p.1 m f
theorem Hn.nil{P:Program}{w:World}{mg:Str->Option Value}{base:Heap}{CX:CXT}{k:Nat}{m:Str}{ps:List Str}:Hn P w K mg base CX k m ps []:=⟨fun p hp=>(nomatch hp)⟩
theorem FW.up{P:Program}{w:World}{mg:Str->Option Value}{base:Heap}{CX:CXT}{k j:Nat}{f:Addr}{fd:FuncData}{ps:List Str}(F:FW P w K mg base CX k f fd ps sp)(h:k<=j):FW P w K mg base CX j f fd ps sp:=
 ⟨F.len,fun A outer s H args us vs Q E hr e0 hb r hs=>F.run A outer s H args us vs Q E (hr.mono h) e0 hb r hs⟩
theorem Hn.cons{P:Program}{w:World}{mg:Str->Option Value}{base:Heap}{CX:CXT}{k j:Nat}{m:Str}{ps:List Str}{C:Addr}{L:List (Addr×Sp)}(c:Cls K C)(O:mK P w K mg base CX j C m ps sp)(h:j<=k)(r:Hn P w K mg base CX k m ps L):Hn P w K mg base CX k m ps ((C,sp)::L):=by
 refine⟨fun p hp=>?_⟩;rcases qv.mp hp with e | e
 ·subst e;obtain⟨f,fd,F,hb,M⟩:=O.ex;exact⟨c,f,fd,F.up h,hb,M⟩
 ·exact r.ex p e
noncomputable def bW(L:List (Addr×Sp))(m:Str)(ta:TE)(t:TA):TE:=fun Z H Q=>ta Z H fun x H1=>∃a C dx fs sp,(C,sp)∈L/\x=.ref a/\H1 a=some (.ins C dx fs)/\fs.lookup m=none/\
 t Z H1 fun vs H2=>sp (x::(vs++[])) H2 Q E0
section
variable{X:Cx}{EE:Value->Option Addr->St->Hp->Prop}{L:List (Addr×Sp)}{m:Str}{k:Nat}{ps:List Str}{o e:Expr}{es:List Expr}{ta:TE}{t:TA}{apos pos:Pos}
theorem Mw{pl:Sem Bool}(O:Hn X.prog X.w X.K X.mg X.base CX0 k m ps L)(hr:Eu k X.A)(he:PE X o ta)(ha:PA X (e::es) t)
 (hst:‹starEach (e::es) X.env=(false,eval e X.env)::starEach es X.env›)(hpl:‹(backTo pos (starEach es X.env)).any (·.1)=false›)
 (ht:‹eval (.Call (.Attribute o m apos) (e::es) [] pos) X.env=(do
  let ov <-eval o X.env
  standAt apos.atName
  let (f,first) <-holding [ov] (getMethod ov m pl)
  callWith pos f first (backTo pos (starEach (e::es) X.env)) (backToKw pos (keywordEach [] X.env)))›):
 PE X (.Call (.Attribute o m apos) (e::es) [] pos) (bW L m ta t):=by
 intro pins s Z H Q I h;refine jf7 (pl:=pl) (thn (he s Z H _ I h) fun u s1 hZ=>?_) ht;obtain⟨x,H1,I1,rx,a,C,dx,fs,sp,mem,ex,ea,l,q⟩:=hZ;subst ex;obtain rfl:u=Value.ref a:=rx;obtain⟨c,f,fd,F,hb,hm⟩:=O.ex _ mem;refine Jg I1 ea c hm l ?_;refine jc8 (first:=[.ref a]) (h₀:=X.base) I.ok.mod.kin hm.kp (thn (ha (pos:=pos) pins s1 Z H1 _ I1 q) fun us s2 ⟨vs,H2,I2,r,q2⟩=>⟨I2.kIn,?_⟩) hst hpl
 exact Ot (us:=.ref a::us) (vs:=.ref a::vs) F hr hb .nil M3 I2 (.cons rfl r) q2
theorem Bu{pl:Sem Bool}(O:Hn X.prog X.w X.K X.mg X.base CX0 k m ps L)(he:PE X o ta)(hr:Eu k X.A:=by walk_at"hr")
 (ht:‹eval (.Call (.Attribute o m apos) [] [] pos) X.env=(do
  let ov <-eval o X.env
  standAt apos.atName
  let (f,first) <-holding [ov] (getMethod ov m pl)
  callWith pos f first (backTo pos (starEach [] X.env)) (backToKw pos (keywordEach [] X.env)))›):
 PE X (.Call (.Attribute o m apos) [] [] pos) (bW L m ta Y8):=by
 intro pins s Z H Q I h;refine jf7 (pl:=pl) (thn (he s Z H _ I h) fun u s1 hZ=>?_) ht;obtain⟨x,H1,I1,rx,a,C,dx,fs,sp,mem,ex,ea,l,q⟩:=hZ;subst ex;obtain rfl:u=Value.ref a:=rx;obtain⟨c,f,fd,F,hb,hm⟩:=O.ex _ mem;refine Jg I1 ea c hm l ?_;exact jo6 (first:=[.ref a]) I1.kIn hm.kp (Ot (us:=[.ref a]) (vs:=[.ref a]) F hr hb .nil M3 I1 (.cons rfl .nil) q)
end
theorem ADx{α:Type}{us:List α}(h:us.length=1):∃a0,us=[a0]:=by
 match us,h with
 | [a0],_=>exact⟨a0,rfl⟩
theorem ADw{α:Type}{us:List α}(h:us.length=2):∃a0 a1,us=[a0,a1]:=by
 match us,h with
 | [a0,a1],_=>exact⟨a0,a1,rfl⟩
theorem AAl{α:Type}{us:List α}(h:us.length=3):∃a0 a1 a2,us=[a0,a1,a2]:=by
 match us,h with
 | [a0,a1,a2],_=>exact⟨a0,a1,a2,rfl⟩
theorem ACy{α:Type}{us:List α}(h:us.length=4):∃a0 a1 a2 a3,us=[a0,a1,a2,a3]:=by
 match us,h with
 | [a0,a1,a2,a3],_=>exact⟨a0,a1,a2,a3,rfl⟩
theorem AAk{α:Type}{us:List α}(h:us.length=5):∃a0 a1 a2 a3 a4,us=[a0,a1,a2,a3,a4]:=by
 match us,h with
 | [a0,a1,a2,a3,a4],_=>exact⟨a0,a1,a2,a3,a4,rfl⟩
theorem ADv{α:Type}{us:List α}(h:us.length=6):∃a0 a1 a2 a3 a4 a5,us=[a0,a1,a2,a3,a4,a5]:=by
 match us,h with
 | [a0,a1,a2,a3,a4,a5],_=>exact⟨a0,a1,a2,a3,a4,a5,rfl⟩
theorem ACx{α:Type}{us:List α}(h:us.length=7):∃a0 a1 a2 a3 a4 a5 a6,us=[a0,a1,a2,a3,a4,a5,a6]:=by
 match us,h with
 | [a0,a1,a2,a3,a4,a5,a6],_=>exact⟨a0,a1,a2,a3,a4,a5,a6,rfl⟩
theorem ADu{α:Type}{us:List α}(h:us.length=8):∃a0 a1 a2 a3 a4 a5 a6 a7,us=[a0,a1,a2,a3,a4,a5,a6,a7]:=by
 match us,h with
 | [a0,a1,a2,a3,a4,a5,a6,a7],_=>exact⟨a0,a1,a2,a3,a4,a5,a6,a7,rfl⟩
section
variable{X:Cx}
end
section
variable{X:Cx}
end
theorem rB(xs:List V)(k:Nat):Hu xs none (some (k:Int))=xs.take k:=by
 unfold Hu;rw[HT.sIx_none,HT.sIx_nat,ji1,Nat.sub_zero];by_cases h:k<=xs.length
 ·rw[jl0 h]
 ·rw[Nat.min_eq_right (by lia),xy (qq _),xy (by lia)]
section
variable{X:Cx}
end
section
variable{X:Cx}
end
noncomputable def V8(c:Nat):V:=.str ⟨#[c]⟩
noncomputable def Its(z:Str):It:=⟨fun i _=>i<z.cps.size,fun i H x H'=>H'=H/\∃c,z.cps[i]?=some c/\x=V8 c,fun i _=>z.cps.size<=i⟩
theorem my{P:Program}{w:World}{tg:Expr}(z:Str)(t:Tok)(it:Addr):Turn P w K tg (Its z) [it] it (fun i h=>h.IsStrIter it "str_ascii_iterator" z t i) where
 mem:=by simp
 obj:=fun i h st b hb=>by
  have e:b=it:=by simpa using hb
  subst e;obtain⟨o,e,c,d⟩:=st;exact⟨o,e,fun v z=>by rw[d] at z;cases z⟩
 keep:=fun i h h' st k=>by
  obtain⟨o,e,r⟩:=st;exact⟨o,k it (by simp) o e,r⟩
 item:=by
  intro X hP hw hK hc i pins s Z H E I hf st hg;subst hP hw hK;have hg':i<z.cps.size:=hg;obtain⟨f0,f1,f2,f3,f4,f5⟩:=hf it (by simp);refine wpAny_pyNext_ascii_item st (c:=z.cps[i]) (by simp[hg']) fun h' st' sb=>?_;have I1:Inv X pins Z H { s with heap:=h',toks:=s.toks+1 }:=I.turned (t':=s.toks+1) (fun b o hb e=>(sb.2 b hb).trans e) f0 f1 f3 f4 f5;obtain⟨o,e,c,d⟩:=id st';exact⟨_,rfl,Z9 (s:={ s with heap:=h',toks:=s.toks+1 }) e c d (by decide) ⟨V8 z.cps[i],H,I1,⟨_,rfl⟩,⟨rfl,_,by simp[hg'],rfl⟩,st',fun b hb=>(hf b hb).1⟩⟩
 done:=by
  intro X hP hw hK hc i pins s Z H E I hf st hg;subst hP hw hK;have hg':z.cps.size<=i:=hg;obtain⟨f0,f1,f2,f3,f4,f5⟩:=hf it (by simp);exact wpAny_pyNext_ascii_end (I.ok.hd hc) st (by simp[hg']) fun h' eb=>⟨rfl,I.turned (t':=s.toks) (fun b o hb e=>eb b o hb e) f0 f1 f3 f4 f5⟩
 self:=fun _ _ _ _ _ st h=>wpAny_pyIter_striter_ascii st h
noncomputable def asc(z:Str):Bool:=z.cps.all (· <128)
noncomputable def ADJ(tl:TE):TI:=fun Z H R=>tl Z H fun x H1=>∃z,x=.str z/\asc z=true/\R (Its z) H1
section
variable{X:Cx}{tg:Expr}
theorem pH{l:Expr}{tl:TE}(hl:PE X l tl):PI X tg l (ADJ tl):=by
 intro pins s Z H R I h;refine thn (hl s Z H _ I h) fun v s1 hZ=>?_;obtain⟨x,H1,I1,r1,q1⟩:=hZ;obtain⟨z,e,ha,q⟩:=q1;subst e;obtain⟨t,rfl⟩:=(show ∃t,v=Value.str z t from r1);refine wpAny_pyIter_ascii ha ?_;refine⟨s1.heap.objs.size,[s1.heap.objs.size],_,_,H1,rfl,I1.kept (t':=s1.toks) fun b o e=>qf _ e,my z t _,⟨_,xa _ rfl,rfl,rfl⟩,fun b hb=>?_,q⟩;have e:b=s1.heap.objs.size:=by simpa using hb
 subst e;exact I1.fpOk (qq _) (I1.hok.fresh (qq _))
noncomputable def ADr:V->Option Int->Option Int->Hp->VK->Prop:=fun x lo hi H Q=>∃z,x=.str z/\z.length<=sizeLine/\Q (.str (Txt.slice z lo hi)) H
theorem Zz{v:Value}{o:Option Int}(h:IsPart v o):∃l:Option (Int×Tok),v=partValue l/\l.map (·.1)=o:=by
 cases h with
 | none=>exact⟨none,rfl,rfl⟩
 | int i t=>exact⟨some (i,t),rfl,rfl⟩
theorem Xa:SlR X ADr:=by
 intro pins s Z H x v vl vu lo hi sl Q I rx hs pl pu h;obtain⟨z,rfl,hz,q⟩:=h;obtain⟨t,rfl⟩:=(show ∃t,v=Value.str z t from rx);obtain⟨l,rfl,rfl⟩:=Zz pl;obtain⟨u,rfl,rfl⟩:=Zz pu;refine⟨"str",_,F.slot_str_getitem.lookup,typeIs_str _ _ _,wpAny_getItem_str_slice (l:=l) (u:=u) (st:=none) hs rfl ?_⟩;refine post_val_or_str ⟨zw (Txt.slice_le z _ _) hz,fun t' k=>?_⟩;exact⟨.str _,H,I.kept (t':=k) fun b o e=>e,⟨_,rfl⟩,q⟩
theorem Vr:MtR X "str.startswith" (fun x xs H Q=>∃z y,x=.str z/\xs=[.str y]/\Q (.bl (Txt.startswith z y)) H):=by
 intro pins s Z H x xs v us Q I rx rs h;obtain⟨z,y,rfl,rfl,q⟩:=h;obtain⟨t,rfl⟩:=(show ∃t,v=Value.str z t from rx);obtain⟨u,rfl,ru⟩:=vals1 rs;obtain⟨t',rfl⟩:=(show ∃t,u=Value.str y t from ru);exact call_gives F.slot_str_startswith (typeIs_str _ _ _) F.entry_str_startswith (F.args_str_startswith_2 _ _) (gives_str_startswith z y t t') ⟨.bl _,H,I,rfl,q⟩
theorem Dz:Hq X (.type "int") (fun xs H Q=>∃z n,xs=[.str z]/\z.length<=640/\PySem.intText? z=some n/\Q (.int n) H):=by
 intro pins s Z H xs us Q I r h;obtain⟨z,n,rfl,hl,hn,q⟩:=h;obtain⟨u,rfl,ru⟩:=vals1 r;obtain⟨t,rfl⟩:=(show ∃t,u=Value.str z t from ru);exact PySem.W.KIN.call_text hn hl ⟨.int n,H,I.tok _,⟨_,rfl⟩,q⟩
end
theorem bL{z:Str}:Walk (Its z) (fun _=>True) (z.cps.toList.map V8):=
 ⟨fun i H _ hi=>(by show i<z.cps.size;simpa using hi),fun i H x H' _ y hi=>⟨y.1,by
  obtain⟨c,hc,rfl⟩:=y.2;rw[zo,Array.getElem?_toList,hc];rfl⟩,fun i H _ hi=>(by show z.cps.size<=i;simpa using hi)⟩
theorem ou{tl:TE}{R:It->Hp->Prop}(h:tl Z H fun x H1=>∃z,x=.str z/\asc z=true/\R (Its z) H1):ADJ tl Z H R:=h
theorem gQ(x:Str)(t:Tok):RelV (.str x) (.str x t):=⟨t,rfl⟩
noncomputable def constStr?:Expr->Option Str
 | .Constant (.str x) _ _=>some x
 | _=>none
noncomputable def fj(ss:List Str):TA:=fun _ H Q=>Q (ss.map V.str) H
theorem gq{X:Cx}:∀{es:List Expr} {ss:List Str},es.map constStr?=ss.map some->PA X es (fj ss)
 | [],[],_=>Ac
 | [],_::_,h=>nomatch h
 | _::_,[],h=>nomatch h
 | e::es,x::ss,h=>by
  rw[zi,zi] at h;injection h with h1 h2;have ih:=gq (X:=X) (es:=es) (ss:=ss) h2;unfold constStr? at h1;split at h1
  ·injection h1 with h1;subst h1;exact Aa Aj ih rfl
  ·cases h1
theorem X7{X:Cx}{es:List Expr}{ss:List Str}(h:es.map constStr?=ss.map some):PE X (.List es pos) (uA (fj ss)):=FQ (gq h)
theorem Xw{ss:List Str}{Q:List V->Hp->Prop}(h:Q (ss.map V.str) H):fj ss Z H Q:=h
structure BE(X:Cx)(e:Expr)(te:TE):Prop where
 out:PE X e te
structure BS(X:Cx)(st:Stmt)(t:TS):Prop where
 out:PS X st t
structure BSs(X:Cx)(st:List Stmt)(t:TS):Prop where
 out:PSs X st t
section
variable{X:Cx}
theorem wg{es:List Expr}{ss:List Str}(h:es.map constStr?=ss.map some):BE X (.List es pos) (uA (fj ss)):=⟨X7 h⟩
theorem bs{st:Stmt}{t:TS}(h:PS X st t):BS X st t:=⟨h⟩
theorem ABS{i:Nat}{e:Expr}{pos':Pos}(hN:X.N.Nodup)(hi:X.N[i]?=some x)(hx:Loc X.env.scope x)(he:BE X e te)(hs:‹swapsWith e (some (.Name x pos')) pos.line X.env=pure false›)(hf:X.fn x=true\/X.env.scope.names.lookup x=some .local:=by first | exact .inl rfl | exact .inr rfl | assumption):
 BS X (.Assign [.Name x pos'] e pos) (nP te (J3 i)):=⟨Ah _ he.out hN hi hx hs hf⟩
theorem Kq{st:Stmt}{rest:List Stmt}{t u:TS}(h1:BS X st t)(h2:BSs X rest u):BSs X (st::rest) (ye t u):=⟨Ab h1.out h2.out⟩
theorem wZ{st:Stmt}{t:TS}(h1:BS X st t):BSs X [st] t:=⟨Ad h1.out⟩
theorem ABR{ss:List Stmt}{R:TS->Prop}(h:∃t,BSs X ss t/\R t):∃t,PSs X ss t/\R t:=by
 obtain⟨t,h1,h2⟩:=h;exact⟨t,h1.out,h2⟩
end
inductive HW(P:Program)(w:World)(K:Fr)(mg:Str->Option Value)(base:Heap)(k:Nat):List (Str×Sp)->Prop
 | nil:HW P w K mg base k []
 | cons {x:Str} {ps:List Str} {sp:Sp} {L:List (Str×Sp)}:Cal P w K mg base k x ps sp->HW P w K mg base k L->HW P w K mg base k ((x,sp)::L)
theorem HW.get{P:Program}{w:World}{mg:Str->Option Value}{base:Heap}{k:Nat}{L:List (Str×Sp)}(h:HW P w K mg base k L){x:Str}{sp:Sp}(hm:(x,sp)∈L):∃ps,Cal P w K mg base k x ps sp:=by
 induction h with
 | nil=>cases hm
 | cons C _ ih=>
  rcases qv.mp hm with e | e
  ·injection e with e1 e2;subst e1;subst e2;exact⟨_,C⟩
  ·exact ih e
noncomputable def nJ(mg:Str->Option Value)(i:Nat)(L:List (Str×Sp))(t:TA):TE:=fun Z H Q=>∃f x sp,Z[i]?=some (some (.ref f))/\(x,sp)∈L/\mg x=some (.ref f)/\t Z H fun vs H1=>sp vs H1 Q E0
section
variable{X:Cx}{pos:Pos}
theorem vK{k i:Nat}{L:List (Str×Sp)}{e:Expr}{es:List Expr}{t:TA}{p:Pos}(CV:HW X.prog X.w X.K X.mg X.base k L)(hr:Eu k X.A)(hN:X.N[i]?=some x)(hv:Vis X.env.scope x)(ha:PA X (e::es) t)
 (hdb:(x==("__debug__":Str))=false:=by decide)(hcd:(x==("__classdict__":Str))=false:=by decide)(he:‹starEach (e::es) X.env=(false,eval e X.env)::starEach es X.env›)(hpl:‹(backTo pos (starEach es X.env)).any (·.1)=false›):
 PE X (.Call (.Name x p) (e::es) [] pos) (nJ X.mg i L t):=by
 intro pins s Z H Q I h;obtain⟨f,y,sp,hf,hm,hmg,h⟩:=h;obtain⟨ps,C⟩:=CV.get hm;obtain⟨f',fd,F,b,kp,m⟩:=C.ex;have ef:f'=f:=by
  rw[hmg] at m;injection m with m;injection m with m;exact m.symm
 subst ef;refine jc3 ?_;refine thn (pJ hN hv hdb hcd s Z H (fun v H1=>v=.ref f'/\H1=H) I (MF hf ⟨rfl,rfl⟩)) fun v s1 hZ=>?_;obtain⟨y,H1,I1,r1,q1⟩:=hZ;obtain⟨rfl,rfl⟩:=q1;cases r1;refine jc8 (h₀:=X.base) I1.ok.mod.kin kp (thn (ha (pos:=pos) pins s1 Z _ _ I1 h) fun us s2 ⟨vs,H2,I2,r,q⟩=>⟨I2.kIn,?_⟩) he hpl;dsimp only at q;have hl:us.length=ps.length:=by rw[<-r.length];exact F.len _ _ _ _ q
 have hb:=b s2 us I2.kIn (by rw[uj];exact hl);rw[uj] at hb;show wpAny _ _ (call (.ref f') us) _ _ _;refine wpAny_call (jn0 (F.run X.A X.stack s2 H2 ⟨us,[]⟩ us vs Q _ hr I2.env0 hb r q) fun z s' hq=>?_);cases z with
 | error e=>exact False.elim hq
 | ok fl=>
  cases fl with
  | ret u=>exact I2.after hq
  | next=>exact False.elim hq
  | brk=>exact False.elim hq
  | cont=>exact False.elim hq
theorem o8{mg:Str->Option Value}{i:Nat}{L:List (Str×Sp)}{t:TA}{f:Addr}(h1:Z[i]?=some (some (.ref f)))(h2:(x,sp)∈L)(h3:mg x=some (.ref f))(h:t Z H fun vs H1=>sp vs H1 Q E0):nJ mg i L t Z H Q:=⟨f,x,sp,h1,h2,h3,h⟩
end
section
variable{X:Cx}{pins:List (Addr×Obj)}{Z:St}{H:Hp}{s:Shared}{h':Heap}
theorem Inv.turnedNew{t':Nat}{ch:List Addr}{T:Addr}{o:HO}(I:Inv X pins Z H s)(k:∀b u,b∉ch->s.heap.get? b=some u->h'.get? b=some u)(hf:∀b∈ch,Ju X pins H b)
 (hp:s.heap.objs.size<=T)(new:Ez X.prog X.w (upd H T o) h' T o):Inv X pins Z (upd H T o) { s with heap:=h',toks:=t' }:=by
 have hn:H T=none:=I.hok.fresh hp;have nit:∀b u,H b=some u->b∉ch:=fun b u e z=>by rw[(hf b z).1] at e;cases e
 refine I.step (g':=s.gens) (d':=s.drawn) (ch:=ch) (fun b hb=>⟨(hf b hb).2.2.2.1,(hf b hb).2.1,(hf b hb).2.2.2.2.1,(hf b hb).2.2.2.2.2⟩) (fun b u _ _ hc e _=>k b u hc e) (fun b u _ _ hc e _=>⟨u.slots,k b u hc e⟩)
  (fun b u _ e n=>by rw[BK (vx (xh (xb e) hp))];exact n)
  (fun b u hc e=>⟨u,k b u hc e⟩) (fun b xs q=>by rw[BK (Bp q hn)];exact q) (fun b u xs q=>by rw[BK (Bp q hn)];exact q) (fun b ps q=>⟨#[],by rw[BK (Bp q hn),q];simp⟩) (fun m hm=>?_) (fun b u e=>?_) I.bare
 ·obtain⟨u,es,ep,ho,r⟩:=hm;exact⟨u,es,ep,k _ u (fun z=>(hf _ z).2.1 rfl) ho,r⟩
 ·by_cases hb:b=T
  ·subst hb;rw[An] at e;cases e;exact new
  ·rw[BK hb] at e;refine(I.hok b u e).stay (fun c v hc q=>k c v ?_ q) (fun c q=>by rw[BK (Bp q hn)];exact q) fun c xs q=>by rw[BK (Bp q hn)];exact q
   rcases hc with z | z
   ·rw[z];exact nit b u e
   ·exact nit c _ z
theorem Inv.turnedL{t':Nat}{ch:List Addr}(I:Inv X pins Z H s)(k:∀b u,b∉ch->s.heap.get? b=some u->h'.get? b=some u)(hf:∀b∈ch,Ju X pins H b):Inv X pins Z H { s with heap:=h',toks:=t' }:=by
 have nit:∀b u,H b=some u->b∉ch:=fun b u e z=>by rw[(hf b z).1] at e;cases e
 refine I.step (g':=s.gens) (d':=s.drawn) (ch:=ch) (fun b hb=>⟨(hf b hb).2.2.2.1,(hf b hb).2.1,(hf b hb).2.2.2.2.1,(hf b hb).2.2.2.2.2⟩) (fun b u _ _ hc e _=>k b u hc e) (fun b u _ _ hc e _=>⟨u.slots,k b u hc e⟩)
  (fun _ _ _ _ n=>n) (fun b u hc e=>⟨u,k b u hc e⟩) (fun b xs q=>q) (fun b u xs q=>q) (fun b ps q=>⟨#[],by rw[q];simp⟩) (fun m hm=>?_) (fun b u e=>?_) I.bare
 ·obtain⟨u,es,ep,ho,r⟩:=hm;exact⟨u,es,ep,k _ u (fun z=>(hf _ z).2.1 rfl) ho,r⟩
 ·refine(I.hok b u e).stay (fun c v hc q=>k c v ?_ q) (fun c q=>q) fun c xs q=>q;rcases hc with z | z
  ·rw[z];exact nit b u e
  ·exact nit c _ z
end
theorem yV{n a b:Nat}(ha:a<n)(hb:b<n):ZipApart (n+4) (n+2) (n+3) n (n+1) a b:=
 ⟨show n+2≠n+4 by lia,show n+3≠n+4 by lia,show n≠n+4 by lia,show n+1≠n+4 by lia,show n+2≠n+3 by lia,show n+2≠n by lia,show n+2≠n+1 by lia,show n+3≠n by lia,show n+3≠n+1 by lia,show n≠n+1 by lia,
  show a≠n+4 by lia,show a≠n+3 by lia,show a≠n by lia,show a≠n+1 by lia,show b≠n+4 by lia,show b≠n+3 by lia,show b≠n by lia,show b≠n+1 by lia⟩
section
variable{X:Cx}
theorem Px{M:List Str}{tg:Expr}{xs:List Str}{y:Str}{py spos:Pos}{ifs:List Expr}{cl:List (Str×Addr)}{wi:TI}{g:TG}{i:Nat}(hN:X.N.Nodup)(hiy:X.N[i]?=some y)(hy:Loc X.env.scope y)
 (hc:X.calm=true)(ok:Oa X M xs scope cl)(hi:PI X tg iter wi)
 (ht:∀C s₀ H₀ fp,lr (De X M xs scope cl C s₀ H₀ fp) ifs tt)(hg:∀C s₀ H₀ fp,PG (De X M xs scope cl C s₀ H₀ fp) tg g)(he:∀C s₀ H₀ fp,PE (De X M xs scope cl C s₀ H₀ fp) elt te)
 (hsw:swapsWith (.ListComp elt [⟨tg,iter,ifs,0⟩] scope pos) (some (.Name y py)) spos.line X.env=pure true:=by with_unfolding_all rfl)
 (hf:X.fn y=true\/X.env.scope.names.lookup y=some .local:=by first | exact .inl rfl | exact .inr rfl | assumption)
 (hs:∀x,foldedSetIterable iter X.env x=pure x:=by intro _;rfl):
 PS X (.Assign [.Name y py] (.ListComp elt [⟨tg,iter,ifs,0⟩] scope pos) spos) (nP (nH xs.length wi g tt te) (J3 i)):=by
 intro pins s Z H D I h;rw[exec_Assign_Name_used _ _ _ _ hsw];refine qc (jn4 (qc ?_));show wpAny _ X.A (do let _ <-comprehension (.ListComp elt [⟨tg,iter,ifs,0⟩] scope pos) scope X.env _ (newList []) false (eval iter X.env) (some (assign (.Name y py) X.env))) _ _ s;refine qc (ja9 (wpAny_comprehension_free (use:=some (assign (.Name y py) X.env)) (Q:=fun _ s'=>SP X pins D .next s') rfl hs ok.clos ok.kind ok.names
  (thn (hi s Z H _ I h) fun xv s1 h1=>thn h1 fun itv s2 h2=>?_)) (fun _ s' hq=>xp (xp hq)) fun _ _ e=>e)
 obtain⟨it,fp,tn,J,H2,e,I2,T,st2,f2,hW⟩:=h2;subst e;refine Ue (Q:=fun x H1=>J3 i x Z H1 D.nx) hc ok ht hg he I2 T st2 f2 hW (compPost (model X.prog X.w) X.A X.xe (some (assign (.Name y py) X.env)) (fun _ s'=>SP X pins D .next s')) fun Dd C H3 s4 I4 hm fC q=>?_
 obtain⟨m,hn⟩:=hm;show wpAny _ X.A (assign (.Name y py) X.env (.ref Dd)) _ _ _;refine wpAny_assign_Name (V5 I4 hN hiy hy (v:=.ref Dd) rfl (fun s5 I5 hsb=>?_) hf);obtain⟨a,sb,ha⟩:=hsb;have hCa:C≠a:=by
  rcases ha with rfl | ha
  ·exact fC.2.1
  ·exact(fC.2.2.2.2.1 _ _ ha).symm
 exact⟨m,hn.sameBut sb hCa,fun h' hsb'=>⟨_,H3,I5.turned (t':=s5.toks) (fun b o hb e=>hsb'.extBut b o hb e) fC.1 fC.2.1 fC.2.2.2.1 fC.2.2.2.2.1 fC.2.2.2.2.2,q⟩⟩
end
structure ADg(K:Fr)(mg:Str->Option Value)(x:Str)(CB f:Addr):Prop where
 bound:mg x=some (.ref CB)
 sp:PySem.W.specialIn K (.ref CB) "__getattribute__"=some (some (.builtin "type.__getattribute__"))
 rd:PySem.W.readsIn K CB (.type "type")=true
 fc:PySem.W.findCls K (.ref CB) (.type "type") "__init__"=some (.val (.ref f))
 kp:PySem.W.keepIn K (.ref f)=true
structure ABh(P:Program)(w:World)(K:Fr)(mg:Str->Option Value)(base:Heap)(k:Nat)(x:Str)(ps:List Str)(sp:Sp):Prop where
 ex:∃(f CB:Addr) (fd:FuncData),FW P w K mg base CX0 k f fd ps sp/\Binds K fd ps []/\ADg K mg x CB f
section
variable{X:Cx}
theorem Dr{k:Nat}{ps:List Str}{e:Expr}{es:List Expr}{t:TA}{p apos:Pos}{pl:Sem Bool}(O:ABh X.prog X.w X.K X.mg X.base k x ps sp)(ha:PA X (e::es) t)(hr:Eu k X.A:=by walk_at"hr")(hg:Gl X x:=by exact rfl)
 (hdb:(x==("__debug__":Str))=false:=by decide)(hst:‹starEach (e::es) X.env=(false,eval e X.env)::starEach es X.env›)(hpl:‹(backTo pos (starEach es X.env)).any (·.1)=false›)
 (ht:‹eval (.Call (.Attribute (.Name x p) "__init__" apos) (e::es) [] pos) X.env=(do
  let ov <-eval (.Name x p) X.env
  standAt apos.atName
  let (f,first) <-holding [ov] (getMethod ov "__init__" pl)
  callWith pos f first (backTo pos (starEach (e::es) X.env)) (backToKw pos (keywordEach [] X.env)))›):
 PE X (.Call (.Attribute (.Name x p) "__init__" apos) (e::es) [] pos) (gB sp [] E0 t):=by
 intro pins s Z H Q I h;obtain⟨f,CB,fd,F,hb,N⟩:=O.ex;refine jf7 (pl:=pl) (Nb I hg N.bound ?_ hdb) ht;refine PySem.W.method_cls I.kIn N.sp (PySem.W.cls_value I.kIn N.rd N.fc rfl ?_);have I1:Inv X pins Z H { s with toks:=s.toks+1 }:=I.tok _;refine jc8 (first:=[]) (h₀:=X.base) I.ok.mod.kin N.kp (thn (ha pins _ Z H _ I1 h) fun us s2 ⟨vs,H2,I2,r,q2⟩=>⟨I2.kIn,?_⟩) hst hpl
 exact Ot (us:=us) (vs:=vs) F hr hb .nil M3 I2 r q2
theorem dB{k:Nat}{C:Addr}{ps:List Str}{p:Pos}(O:mL X.prog X.w X.K X.mg X.base CX0 k x C ps sp)(hr:Eu (k+1) X.A)(hg:Gl X x)
 (hdb:(x==("__debug__":Str))=false:=by decide):PE X (.Call (.Name x p) [] [] pos) (V4 C sp [] E0 Y8):=by
 obtain⟨f,fd,F,hb,M,hm⟩:=O.ex;exact pL M F hr hg hm hb .nil M3 hdb
end
section
variable{X:Cx}
end
section
variable{X:Cx}
end
end L2
namespace L2
open PySem PySem.Spec PyProof.Rows PySem.Builtin PySem.Builtin.Str
noncomputable def plc(c:Nat):Nat->List Nat->List Nat
 | _,[]=>[]
 | k,a::l=>if a=c then k::plc c (k+1) l else plc c (k+1) l
noncomputable def spl(c:Nat):List Nat->List (List Nat)
 | []=>[[]]
 | a::l=>if a=c then []::spl c l else ((a::(spl c l).headD [])::(spl c l).drop 1)
theorem nZ(c:Nat)(l:List Nat):spl c (c::l)=[]::spl c l:=by
 conv=>lhs;unfold spl
 rw[ya rfl]
theorem XJ{c a:Nat}(l:List Nat)(h:a≠c):spl c (a::l)=(a::(spl c l).headD [])::(spl c l).drop 1:=by
 conv=>lhs;unfold spl
 rw[ua h]
theorem Rz{a b:Str}(h:a.cps=b.cps):a=b:=by
 cases a;cases b;exact xk Str.mk h
theorem yj(c:Nat):∀l,spl c l≠[]
 | []=>fun h=>nomatch h
 | a::l=>by
  unfold spl;split
  ·exact fun h=>nomatch h
  ·exact fun h=>nomatch h
theorem RP(c:Nat)(l:List Nat):spl c l=(spl c l).headD []::(spl c l).drop 1:=by
 have:=yj c l;cases h:spl c l with
 | nil=>exact absurd h this
 | cons p ps=>rfl
theorem gb(c:Nat):∀(l:List Nat) (k:Nat),(plc c k l).length+1=(spl c l).length
 | [],_=>rfl
 | a::l,k=>by
  have ih:=gb c l (k+1);unfold plc spl;split
  ·rw[qm,qm,ih]
  ·rw[ih,RP c l];rfl
theorem WF(c:Nat):∀(l:List Nat) (k:Nat),(plc c k l).length=l.count c
 | [],_=>rfl
 | a::l,k=>by
  have ih:=WF c l (k+1);unfold plc;rw[List.count_cons];split
  ·rename_i h
   rw[qm,ih,ya (by simpa using h)]
  ·rename_i h
   rw[ih,ua (by simpa using h)];rfl
theorem Kv(c:Nat):∀(p l:List Nat),c∉p->spl c (p++c::l)=p::spl c l
 | [],l,_=>nZ c l
 | a::p,l,h=>by
  have ih:=Kv c p l fun z=>h (qh _ z);show spl c (a::(p++c::l))=_;rw[XJ _ (fun z=>h (by rw[z];exact jv)),ih];rfl
theorem RN(c:Nat):∀(p:List Nat),c∉p->spl c p=[p]
 | [],_=>rfl
 | a::p,h=>by
  rw[XJ _ (fun z=>h (by rw[z];exact jv)),RN c p fun z=>h (qh _ z)];rfl
theorem O2(c:Nat)(L:List Nat):∀(l:List Nat) (k s0:Nat),L.drop k=l->s0<=k->k<=L.length->
 ((s0::(plc c k l).map (· +1)).zip (plc c k l++[L.length])).map (fun (ij:Nat×Nat)=>(L.drop ij.1).take (ij.2-ij.1))=((L.drop s0).take (k-s0)++(spl c l).headD [])::(spl c l).drop 1
 | [],k,s0,h,h1,h2=>by
  have e:k=L.length:=by
   have:=xk List.length h;rw[jb5] at this;simp at this;lia
  subst e;show[(L.drop s0).take (L.length-s0)]=[(L.drop s0).take (L.length-s0)++[]];rw[uj]
 | a::l,k,s0,h,h1,h2=>by
  have kl:k<L.length:=by
   have:=xk List.length h;rw[jb5,qm] at this;lia
  have hd:L.drop (k+1)=l:=by
   rw[<-List.drop_drop,h];rfl
  unfold plc spl;split
  ·have ih:=O2 c L l (k+1) (k+1) hd (qq _) kl;rw[zi,jh7,List.zip_cons_cons,zi,ih,Nat.sub_self,jp4,ji8,<-RP];show _=((L.drop s0).take (k-s0)++[])::spl c l;rw[uj]
  ·have ih:=O2 c L l (k+1) s0 hd (by lia) kl;rw[ih];have e:(L.drop s0).take (k+1-s0)=(L.drop s0).take (k-s0)++[a]:=by
    have hk:(L.drop s0)[k-s0]?=some a:=by
     rw[jk8,show s0+(k-s0)=k by lia];have:=xk (fun z=>z[0]?) h;simpa [jk8] using this
    rw[show k+1-s0=(k-s0)+1 by lia,vk,hk];rfl
   rw[e,ke];rfl
noncomputable def cps(z:Str):List Nat:=z.cps.toList
theorem K7(z:Str):(cps z).length=z.length:=ky
theorem YJ(x:Str)(c:Nat):∀(n k free:Nat) (acc:Array Nat),k+n=x.length+1->free<=k->acc.size<=k->
 (forIn (List.range' k n) (acc,free) (StrLaws.occBody x ⟨#[c]⟩ x.length (x.length+1))).run.fst.toList=acc.toList++plc c k ((cps x).drop k)
 | 0,k,free,acc,h,_,_=>by
  rw[va (by rw[K7];lia)];show acc.toList=acc.toList++[];rw[uj]
 | n+1,k,free,acc,h,hf,ha=>by
  rw[List.range'_succ,jk7];have one:(⟨#[c]⟩:Str).length=1:=rfl;by_cases z:(cps x)[k]?=some c
  ·have kl:k<(cps x).length:=(zn.mp z).1;have hs:=(StrLaws.subAt_one x c k).mpr z;have ed:(cps x).drop k=c::(cps x).drop (k+1):=by
    rw[Xs kl,(zn.mp z).2]
   have ih:=YJ x c n (k+1) (k+1) (acc.push k) (by lia) (qq _) (by rw[Array.size_push];lia);unfold StrLaws.occBody;rw[ya ⟨⟨⟨by show acc.size<x.length+1;lia,hf⟩,hs.1⟩,hs.2⟩,ed];unfold plc;rw[ya rfl];have e2:acc.toList++k::plc c (k+1) ((cps x).drop (k+1))=(acc.push k).toList++plc c (k+1) ((cps x).drop (k+1)):=by
    rw[Array.toList_push,ke];rfl
   rw[e2];exact ih
  ·have hs:¬(k+(⟨#[c]⟩:Str).length<=x.length/\subAt x ⟨#[c]⟩ k=true):=fun y=>z ((StrLaws.subAt_one x c k).mp y);have ih:=YJ x c n (k+1) free acc (by lia) (by lia) (by lia);have ep:plc c k ((cps x).drop k)=plc c (k+1) ((cps x).drop (k+1)):=by
    by_cases kl:k<(cps x).length
    ·rw[Xs kl];have:(cps x)[k]≠c:=fun y=>z (by rw[qo kl,y]);show(if (cps x)[k]=c then _ else _)=_;rw[ua this]
    ·rw[va (by lia),va (by lia)];rfl
   unfold StrLaws.occBody;rw[ua fun y=>hs ⟨y.1.2,y.2⟩,ep];exact ih
theorem gr(x:Str)(c:Nat):occurrences x ⟨#[c]⟩ 0 x.length (x.length+1)=plc c 0 (cps x):=by
 rw[StrLaws.occ_eq];have:=YJ x c (x.length+1) 0 0 #[] (by lia) (qq _) (qq _);simpa using this
theorem Zy(x:Str)(c:Nat):partsBetween x (plc c 0 (cps x)) 1=(spl c (cps x)).map fun p=>(⟨p.toArray⟩:Str):=by
 have h:=O2 c (cps x) (cps x) 0 0 rfl (qq _) (vj _);rw[jp4,ji8,<-RP] at h;rw[<-h,kq];unfold partsBetween;rw[<-K7];refine jo0 fun ij _=>?_;refine Rz (je6.mp ?_);rw[StrLaws.strSub_toList];rfl
section
variable{X:Cx}
theorem XC:∀(ps:List Str) (tk:Nat),Vals (ps.map V.str) (strsFrom tk ps)
 | [],_=>.nil
 | p::ps,tk=>.cons ⟨tk,rfl⟩ (XC ps (tk+1))
theorem Ry:∀{zs:List Str} {us:List Value},Vals (zs.map V.str) us->StrsAre us zs
 | [],_,.nil=>.nil
 | z::zs,_,.cons r rs=>by
  obtain⟨t,rfl⟩:=(show ∃t,_=Value.str z t from r);exact .cons z t (Ry rs)
noncomputable def JX(c:Nat)(z:Str):List Str:=(spl c (cps z)).map fun p=>(⟨p.toArray⟩:Str)
theorem ZC(c:Nat)(z:Str):(JX c z).length<=z.length+1:=by
 unfold JX;rw[js,<-gb c (cps z) 0,WF,<-K7];exact Nat.succ_le_succ List.count_le_length
theorem Pr{c:Nat}{z:Str}(h:plc c 0 (cps z)=[]):JX c z=[z]:=by
 have e:=Zy z c;rw[h] at e;unfold JX;rw[<-e];show[strSub z 0 z.length]=[z];refine xk (fun y=>[y]) (Rz (je6.mp ?_));rw[StrLaws.strSub_toList,ji1,Nat.sub_zero];exact xy (by show z.cps.toList.length<=z.cps.size;rw[ky];exact qq _)
noncomputable def AAG:V->List V->Hp->VK->Prop:=fun x xs H Q=>∃z c,x=.str z/\xs=[.str ⟨#[c]⟩]/\c<256/\z.length<=1000000/\∀l,H l=none->Q (.ref l) (upd H l (.lst ((JX c z).map V.str)))
theorem JK:MtR X "str.split" AAG:=by
 intro pins s Z H x xs v us Q I rx rs h;obtain⟨z,c,rfl,rfl,hc,hz,q⟩:=h;obtain⟨t,rfl⟩:=(show ∃t,v=Value.str z t from rx);obtain⟨u,rfl,ru⟩:=vals1 rs;obtain⟨t',rfl⟩:=(show ∃t,u=Value.str ⟨#[c]⟩ t from ru);have sl:z.length+1<=sizeLine:=zw (Nat.succ_le_succ hz) (by decide);have one:(⟨#[c]⟩:Str).length=1:=rfl;have itself:JX c z=[z]->EP X pins Z Q (.ref s.heap.objs.size) { s with heap:=s.heap.push { cls:=.type "list",data:=.seq [Value.str z t].toArray } }:=fun e=>by
  refine⟨.ref _,_,I.laid (a:=s.heap.objs.size) (o:=.lst ((JX c z).map V.str)) (fun _ _ e=>qf _ e) (qq _) ⟨by rw[e];show 1<=sizeLine;decide,[Value.str z t],0,by rw[e];exact .cons ⟨t,rfl⟩ .nil,xa _ rfl⟩,rfl,q _ I.fresh⟩
 by_cases h1:(decide (z.length<(⟨#[c]⟩:Str).length)||decide (PySem.Builtin.Str.strKind z<PySem.Builtin.Str.strKind ⟨#[c]⟩))=true
 ·have e:JX c z=[z]:=by
   have k1:PySem.Builtin.Str.strKind (⟨#[c]⟩:Str)=1:=by
    unfold PySem.Builtin.Str.strKind;simp[hc]
   have k0:1<=PySem.Builtin.Str.strKind z:=by
    unfold PySem.Builtin.Str.strKind
    repeat' split
    all_goals lia
   rw[k1,one,decide_eq_false (show ¬PySem.Builtin.Str.strKind z<1 by lia),jk4,decide_eq_true_eq] at h1;refine Pr ?_;have:cps z=[]:=jc2.mp (by rw[K7];lia);rw[this];rfl
  exact call_meets F.slot_str_split (typeIs_str _ _ _) F.entry_str_split (F.args_str_split_2 _ _) (meets_str_split_cannot_occur z ⟨#[c]⟩ t t' h1) (itself e)
 ·have h1':=(Bool.not_eq_true _).mp h1;by_cases h2:(occurrences z ⟨#[c]⟩ 0 z.length (z.length+1)).isEmpty=true
  ·have e:JX c z=[z]:=by
    rw[gr,List.isEmpty_iff] at h2;exact Pr h2
   exact call_meets F.slot_str_split (typeIs_str _ _ _) F.entry_str_split (F.args_str_split_2 _ _) (meets_str_split_not_found z ⟨#[c]⟩ t t' h1' rfl h2) (itself e)
  ·have h2':=(Bool.not_eq_true _).mp h2;have ep:partsBetween z (occurrences z ⟨#[c]⟩ 0 z.length (z.length+1)) (⟨#[c]⟩:Str).length=JX c z:=by rw[gr];exact Zy z c
   refine call_meets F.slot_str_split (typeIs_str _ _ _) F.entry_str_split (F.args_str_split_2 _ _) (meets_str_split_sep z ⟨#[c]⟩ t t' h1' rfl h2' (by lia) (by rw[ep];exact zw (ZC c z) sl)) ?_;rw[ep];exact⟨.ref _,_,I.laid (a:=s.heap.objs.size) (o:=.lst ((JX c z).map V.str)) (fun _ _ e=>qf _ e) (qq _) ⟨by rw[js];exact zw (ZC c z) sl,strsFrom s.toks (JX c z),0,XC _ _,xa _ rfl⟩,rfl,q _ I.fresh⟩
noncomputable def rJoin(K:Fr):V->List V->Hp->VK->Prop:=fun x xs H Q=>∃z l zs,x=.str z/\xs=[.ref l]/\SqL K H l (zs.map V.str)/\(zs.map (·.length)).sum+zs.length*z.length<=16777216/\Q (.str (Txt.join z zs)) H
theorem iB:MtR X "str.join" (rJoin X.K):=by
 intro pins s Z H x xs v us Q I rx rs h;obtain⟨z,l,zs,rfl,rfl,hl,hz,q⟩:=h;obtain⟨t,rfl⟩:=(show ∃t,v=Value.str z t from rx);obtain⟨u,rfl,ru⟩:=vals1 rs;obtain rfl:u=Value.ref l:=ru;obtain⟨its,r,pl,_⟩:=I.list hl;exact join_list pl.isList (by simpa using Ry r) hz fun t' k=>⟨.str _,H,I.tok _,⟨_,rfl⟩,q⟩
theorem qF:MtR X "str.zfill" (fun x xs H Q=>∃z n,x=.str z/\xs=[.int n]/\0<=n/\n<=1000/\(¬n<=(z.length:Int)->(zfilled z (n.toNat-z.length)).length<=sizeLine)/\Q (.str (if n<=(z.length:Int) then z else zfilled z (n.toNat-z.length))) H):=by
 intro pins s Z H x xs v us Q I rx rs h;obtain⟨z,n,rfl,rfl,n0,n1,hz,q⟩:=h;obtain⟨t,rfl⟩:=(show ∃t,v=Value.str z t from rx);obtain⟨u,rfl,ru⟩:=vals1 rs;obtain⟨t',rfl⟩:=(show ∃t,u=Value.int n t from ru);have hr:(decide (n< -(2^63:Int))||decide (n>=2^63))=false:=by
  rw[Bool.or_eq_false_iff];exact⟨decide_eq_false (by lia),decide_eq_false (by lia)⟩
 have hl:tooLong n.toNat=false:=by
  have:(1000:Nat)<sizeLine:=by decide
  unfold tooLong;exact decide_eq_false (by lia)
 refine call_gives F.slot_str_zfill (typeIs_str _ _ _) F.entry_str_zfill (F.args_str_zfill_2 _ _) (gives_str_zfill z n t t' hr hl) ?_;by_cases c:n<=(z.length:Int)
 ·rw[ya c] at q ⊢;exact⟨.str _,H,I,⟨_,rfl⟩,q⟩
 ·rw[ua c] at q ⊢;exact⟨hz c,.str _,H,I.tok _,⟨_,rfl⟩,q⟩
end
end L2
namespace L2
open PySem PySem.Spec PyProof.Rows
section
variable{s:Shared}{A:Around}{w:World}{prog:Program}
theorem AAh{R:Result->Shared->Prop}{g:Addr}{x y d:Int}{t1 t2 t3:Tok}{k:Nat}(ha:A.handled=none)(hg:IsRange s.heap g x y d t1 t2 t3)(big:Builtin.Range.small x y d=false)(ek:Builtin.Range.rangeSize x y d=k)(fits:k<=2^24)(L:Addr)(res:Value)(m0:Nat)
 (hL:s.heap.get? L=some { cls:=.type "list",data:=.seq #[] m0 })
 (fin:∀hp tk ys m,(∀e o,e≠L->s.heap.get? e=some o->hp.get? e=some o)->hp.get? L=some { cls:=.type "list",dict:=none,data:=.seq ys m,slots:= #[] }->ItemsOf (fun i v=>∃t,v=.int (x+i*d) t) ys k->R (.ok (.ret res)) { s with heap:=hp,toks:=tk }):
 wpAny (model prog w) A.in1 (Builtin.List.listExtendWith (.ref L) (.ref g) res)
  (fun z s'=>match z with | .done f=>R (.ok f) s' | .again m=>m.quiet=true/\codeAny (model prog w) A m R s') (fun e s'=>R (.error e) s') s:=by
 have Lg:L≠g:=fun z=>by rw[z,hg] at hL;simp at hL
 have Ll:L<s.heap.objs.size:=xb hL;have Ln:L≠s.heap.objs.size:=vx Ll;have Lm:L∉[s.heap.objs.size]:=fun z=>Ln (vb.mp z);have Wl:=(Walks.longrange (prog:=prog) (w:=w) (A:=A.in1) ha s.heap.objs.size x d k).toS;have loop:∀(hp:Heap) (m tk:Nat),IsLongIter hp s.heap.objs.size (x+((0:Nat):Int)*d) ((k:Int)-((0:Nat):Int)) d->(∀e o,e≠L->s.heap.get? e=some o->hp.get? e=some o)->hp.get? L=some { cls:=.type "list",data:=.seq #[] m }->
  codeAny (model prog w) A (.builtin "list.extend.loop" ⟨[.ref L,.ref s.heap.objs.size,res],[]⟩) R { s with heap:=hp,toks:=tk }:=fun hp m tk it keep hL1=>by
  refine codeAny_extend_loopS Wl (by rw[sizeLine_eq];lia) L Lm res k 0 _ #[] m rfl (vj _) it hL1 (ItemsOf.nil _) fun s2 ys m2 mv hL2 hy=>?_;rw[Moved.eq_with mv];refine fin s2.heap s2.toks ys m2 (fun e o ne he=>mv.heap e o (fun z=>?_) (keep e o ne he)) hL2 hy;have el:=xb he;rcases qv.mp z with z1 | z1
  ·exact ne z1
  ·exact absurd el (by rw[vb.mp z1];exact jf6 _)
 unfold Builtin.List.listExtendWith;refine qc (wpAny_typeOf (T:="range") ⟨_,hg,rfl⟩ ?_);have q1:Builtin.List.listSameRef (.ref L) (.ref g)=false:=by unfold Builtin.List.listSameRef;simp[Lg]
 simp only[q1,show(Value.type "range"==Value.type "list")=false by decide,show(Value.type "range"==Value.type "tuple")=false by decide,jk4,jk3,if_false];refine qc (wpAny_pyIter_longrange hg big ?_);refine qc (jf8 (wpAny_hint_range (n:=k) (qf _ hg) ek fits ?_));have it1:IsLongIter (s.heap.push { cls:=.type "longrange_iterator",data:=.fields #[rawInt x,rawInt (Builtin.Range.rangeSize x y d),rawInt d] }) s.heap.objs.size (x+((0:Nat):Int)*d) ((k:Int)-((0:Nat):Int)) d:=by
  rw[ek];show Heap.get? _ _=_;simpa using xa s.heap rfl
 have L1:=qf { cls:=.type "longrange_iterator",data:=.fields #[rawInt x,rawInt (Builtin.Range.rangeSize x y d),rawInt d] } hL;refine wpAny_ite_split (fun _=>?_) (fun _=>xp ⟨plainId_quiet F.plain_extend_loop _,loop _ m0 _ it1 (fun e o _ he=>qf _ he) L1⟩);refine qc (wpAny_rule (qc ?_));show wpAny _ _ (updateSeq L (·.push .none) >>= fun _=>updateSeq L (·.pop)) _ _ _;refine qc (wpAny_updateSeq L1 rfl ?_);have L2':=jf2 (Obj.mapSeq (·.push Value.none)) L1 rfl;refine wpAny_updateSeq (hz:=by seq_fits) L2' rfl ?_;have L3:=jf2 (Obj.mapSeq (·.pop)) L2' rfl;refine xp ⟨plainId_quiet F.plain_extend_loop _,loop _ _ _ ?_ (fun e o ne he=>?_) L3⟩
 ·exact(ja5 _ _ Ln).trans ((ja5 _ _ Ln).trans it1)
 ·rw[ja5 _ _ (Ne.symm ne),ja5 _ _ (Ne.symm ne)];exact qf _ he
theorem vY{R:Result->Shared->Prop}{g:Addr}{x y d:Int}{t1 t2 t3:Tok}{k:Nat}(ha:A.handled=none)(hg:IsRange s.heap g x y d t1 t2 t3)(big:Builtin.Range.small x y d=false)(ek:Builtin.Range.rangeSize x y d=k)(fits:k<=2^24)(L:Addr)
 (hL:s.heap.get? L=some { cls:=.type "list",data:=.seq #[] })
 (fin:∀hp tk ys m,(∀e o,e≠L->s.heap.get? e=some o->hp.get? e=some o)->hp.get? L=some { cls:=.type "list",dict:=none,data:=.seq ys m,slots:= #[] }->ItemsOf (fun i v=>∃t,v=.int (x+i*d) t) ys k->R (.ok (.ret .none)) { s with heap:=hp,toks:=tk }):
 wpAny (model prog w) A.in1 (Builtin.«list.__init__» ⟨[.ref L,.ref g],[]⟩)
  (fun z s'=>match z with | .done f=>R (.ok f) s' | .again m=>m.quiet=true/\codeAny (model prog w) A m R s') (fun e s'=>R (.error e) s') s:=by
 have Lg:L≠g:=fun z=>by rw[z,hg] at hL;simp at hL
 show wpAny _ _ (Builtin.List.listItems (.ref L) >>= fun old=>Builtin.List.listUpdate (.ref L) (fun _=> #[]) >>= fun _=>letGo old.toList.reverse >>= fun _=>Builtin.List.listExtendWith (.ref L) (.ref g) .none) _ _ s;refine qc ?_;unfold Builtin.List.listItems;refine qc (jd5 hL rfl (xp ?_));show wpAny _ _ (updateSeq L (fun _=> #[]) >>= fun _=>letGo (#[]:Array Value).toList.reverse >>= fun _=>Builtin.List.listExtendWith (.ref L) (.ref g) .none) _ _ s;refine qc (wpAny_updateSeq hL rfl ?_);have L1:=jf2 (Obj.mapSeq (fun _=>(#[]:Array Value))) hL rfl;have keep:∀e o,e≠L->s.heap.get? e=some o->(s.heap.update L (Obj.mapSeq (fun _=>(#[]:Array Value)))).get? e=some o:=fun e o ne he=>by
  rw[ja5 _ _ (Ne.symm ne)];exact he
 refine qc (wpAny_letGo (AAh ha (keep g _ (Ne.symm Lg) hg) big ek fits L .none _ L1 fun hp tk ys m k1 k2 k3=>?_));exact fin hp tk ys m (fun e o ne he=>k1 e o ne (keep e o ne he)) k2 k3
theorem vZ{E:Value->Shared->Prop}{Q:Value->Shared->Prop}{g:Addr}{x y d:Int}{t1 t2 t3:Tok}{k:Nat}(ha:A.handled=none)(hg:IsRange s.heap g x y d t1 t2 t3)(ek:Builtin.Range.rangeSize x y d=k)(fits:k<=2^24)
 (fin:∀hp tk ys m,(∀e o,s.heap.get? e=some o->hp.get? e=some o)->hp.get? s.heap.objs.size=some { cls:=.type "list",dict:=none,data:=.seq ys m,slots:= #[] }->ItemsOf (fun i v=>∃t,v=.int (x+i*d) t) ys k->Q (.ref s.heap.objs.size) { s with heap:=hp,toks:=tk }):
 wpAny (model prog w) A (call (.type "list") [.ref g]) Q E s:=by
 by_cases sm:Builtin.Range.small x y d=true
 ·exact call_list_range ha hg sm ek fits fin
 have big:Builtin.Range.small x y d=false:=by simpa using sm
 refine callType_codes (Q₁:=fun u s2=>u=.ref s.heap.objs.size/\s2={ s with heap:=s.heap.push { cls:=.type "list",data:=.seq #[] } }) F.called_list (F.typeCall_list_1 _) F.entry_list_init (code_list_new _ ⟨rfl,rfl⟩) fun u s2 z=>?_;obtain⟨rfl,rfl⟩:=z;have L0:(s.heap.push { cls:=.type "list",data:=.seq #[] }).get? s.heap.objs.size=some { cls:=.type "list",data:=.seq #[] }:=xa _ rfl;refine⟨⟨_,L0,rfl⟩,F.args_list_init_2 _ _,vY (A:=A.in1) ha (qf _ hg) big ek fits _ L0 fun hp tk ys m k1 k2 k3=>⟨rfl,?_⟩⟩;refine fin hp tk ys m (fun e o he=>k1 e o ?_ (qf _ he)) k2 k3;exact vx (xb he)
end
section
variable{X:Cx}
noncomputable def ABq(ta:TA):TE:=fun Z H Q=>ta Z H fun vs H1=>∃(i j:Int),vs=[.int i,.int j]/\i<=j/\j-i<=1000000/\
 ∀l,H1 l=none->Q (.ref l) (upd H1 l (.lst ((List.range (j-i).toNat).map fun(k:Nat)=>V.int (i+(k:Int)))))
theorem dC{a b:Expr}{ta:TA}{p p2 pos pos2:Pos}(hc:X.calm=true)(hgl:Gl X "list")(hml:X.mg "list"=none)(hgr:Gl X "range")(hmr:X.mg "range"=none)(ha:PA X [a,b] ta)
 (hs:‹starEach [a,b] X.env=(false,eval a X.env)::starEach [b] X.env›)(hpl:‹(backTo pos2 (starEach [b] X.env)).any (·.1)=false›)
 (hs1:‹starEach [.Call (.Name "range" p2) [a,b] [] pos2] X.env=(false,eval (.Call (.Name "range" p2) [a,b] [] pos2) X.env)::starEach [] X.env›):
 PE X (.Call (.Name "list" p) [.Call (.Name "range" p2) [a,b] [] pos2] [] pos) (ABq ta):=by
 intro pins s Z H Q I h;refine jc3 (Iu I hgl hml boot_list ?_ (by decide) (by decide));refine ko ?_ hs1 rfl;rw[hs1];show wpAny _ _ (spliced ((false,eval _ X.env)::backTo pos (starEach [] X.env))) _ _ s;refine Calls.spliced_cons ?_;refine Call_ (Iu I hgr hmr boot_range (ko (thn (ha (pos:=pos2) pins s Z H _ I h) fun us s1 hZ=>?_) hs hpl));obtain⟨vs,H1,I1,r1,q1⟩:=hZ;obtain⟨i,j,rfl,ij,hz,q⟩:=q1;cases r1 with
 | cons r rr=>
  cases rr with
  | cons r' rr=>
   cases rr;obtain⟨t,rfl⟩:=r;obtain⟨t',rfl⟩:=r';refine call_range_2 (Calls.spliced_nil ?_);have I2:Inv X pins Z H1 { s1 with heap:=s1.heap.push { cls:=.type "range",data:=.fields #[.int i t,.int j t',.int 1 s1.toks] },toks:=s1.toks+1 }:=I1.kept fun b o e=>qf _ e;have en:Builtin.Range.rangeSize i j 1=(((j-i).toNat:Nat):Int):=by rw[rangeSize_one];split<;>lia
   refine vZ (I2.ok.hd hc) (IsRange.new ..) en (by lia) fun h' tk acc' c' hk hS' hacc=>?_;have hl:acc'.toList.length=(j-i).toNat:=by simpa using hacc.1
   have ef:(fun (k:Nat)=>V.int (i+(k:Int)))=fun(k:Nat)=>V.int (i+(k:Int)*1):=by funext k;rw[jc1]
   rw[ef] at q;refine⟨.ref _,_,I2.laid (o:=.lst ((List.range (j-i).toNat).map fun(k:Nat)=>V.int (i+(k:Int)*1))) hk (qq _) ⟨?_,acc'.toList,c',?_,by simpa using hS'⟩,rfl,q _ I2.fresh⟩
   ·rw[js,Zl,sizeLine_eq];lia
   ·have:=Hx (lo:=i) (c:=1) acc'.toList 0 fun j v hv=>by rw[jm8];exact hacc.2 j v (by simpa using hv)
    rw[hl,<-List.range_eq_range'] at this;exact this
end
section
variable{X:Cx}
noncomputable def isZ(z:Str)(v:Value):Bool:=match v with | .str y _=>y==z | _=>false
theorem PlainL.at'{h:Heap}{a:Addr}{its:Array Value}(p:PlainL h a its):∃n dd sl,h.get? a=some { cls:=.type "list",dict:=dd,data:=.seq its n,slots:=sl }:=by
 obtain⟨⟨cl,di,da,sl⟩,n,e,e1,e2,e3⟩:=p;cases e1;cases e3;exact⟨n,di,sl,e⟩
theorem Rq:∀{zs:List Str} {us:List Value},Vals (zs.map V.str) us->us.length=zs.length/\∀(j:Nat) (z:Str),zs[j]?=some z->∃t,us[j]?=some (Value.str z t)
 | [],_,.nil=>⟨rfl,fun j z h=>by simp at h⟩
 | y::zs,_,.cons r rs=>by
  obtain⟨t,rfl⟩:=(show ∃t,_=Value.str y t from r);obtain⟨l,h⟩:=Rq rs;refine⟨by rw[qm,qm,l],fun j z hj=>?_⟩;cases j with
  | zero=>
   simp at hj;exact⟨t,by rw[hj];rfl⟩
  | succ j=>exact h j z (by simpa using hj)
theorem V1{zs:List Str}{us:List Value}(r:Vals (zs.map V.str) us){v:Value}(h:v∈us):∃z t,v=Value.str z t:=by
 obtain⟨l,g⟩:=Rq r;obtain⟨j,hj,rfl⟩:=List.getElem_of_mem h;obtain⟨t,ht⟩:=g j (zs[j]'(by lia)) (qo _);rw[qo hj] at ht;exact⟨_,t,yv ht⟩
theorem Wn(z:Str):∀{zs:List Str} {us:List Value},Vals (zs.map V.str) us->us.countP (isZ z)=zs.count z
 | [],_,.nil=>rfl
 | y::zs,_,.cons r rs=>by
  obtain⟨t,rfl⟩:=(show ∃t,_=Value.str y t from r);rw[List.countP_cons,Wn z rs,List.count_cons];rfl
noncomputable def vB(K:Fr):V->List V->Hp->VK->Prop:=fun x xs H Q=>∃(l:Addr) (zs:List Str) (z:Str),x=.ref l/\xs=[.str z]/\SqL K H l (zs.map V.str)/\Q (.int ((zs.count z:Nat):Int)) H
theorem j4:MtR X "list.count" (vB X.K):=by
 intro pins s Z H x xs v us Q I rx rs h;obtain⟨l,zs,z,rfl,rfl,hl,q⟩:=h;obtain rfl:v=Value.ref l:=rx;obtain⟨u,rfl,ru⟩:=vals1 rs;obtain⟨t',rfl⟩:=(show ∃t,u=Value.str z t from ru);obtain⟨its,r,pl,_⟩:=I.list hl;obtain⟨c0,dd,sl,at0⟩:=PlainL.at' pl;have eq:∀y∈its.toArray,SeqAt.EqAt X.A.in1 s y (Value.str z t') (isZ z y):=fun y hy=>by
  obtain⟨a,t,rfl⟩:=V1 r (by simpa using hy);exact SeqAt.EqAt.str_str a t z t'
 refine call_meets F.slot_list_count pl.isList.typeIs F.entry_list_count (F.args_list_count_2 _ _) (SeqAt.list_countAt l its.toArray _ _ _ (Value.str z t') (isZ z)) ⟨at0,eq,?_⟩;have ec:its.toArray.toList.countP (isZ z)=zs.count z:=Wn z r;rw[ec];exact⟨.int _,H,I.tok _,⟨_,rfl⟩,q⟩
noncomputable def vA(K:Fr):V->List V->Hp->VK->Prop:=fun x xs H Q=>∃(l:Addr) (zs:List Str) (z:Str) (j:Nat),x=.ref l/\xs=[.str z]/\SqL K H l (zs.map V.str)/\zs[j]?=some z/\(∀m,m<j->zs[m]?≠some z)/\Q (.int ((j:Nat):Int)) H
theorem jz:MtR X "list.index" (vA X.K):=by
 intro pins s Z H x xs v us Q I rx rs h;obtain⟨l,zs,z,j,rfl,rfl,hl,hj,hno,q⟩:=h;obtain rfl:v=Value.ref l:=rx;obtain⟨u,rfl,ru⟩:=vals1 rs;obtain⟨t',rfl⟩:=(show ∃t,u=Value.str z t from ru);obtain⟨its,r,pl,lim⟩:=I.list hl;obtain⟨c0,dd,sl,at0⟩:=PlainL.at' pl;obtain⟨il,ig⟩:=Rq r;have jl:j<zs.length:=(zn.mp hj).1;rw[js,sizeLine_eq] at lim;have eq:∀y∈its.toArray,SeqAt.EqAt X.A.in1 s y (Value.str z t') (isZ z y):=fun y hy=>by
  obtain⟨a,t,rfl⟩:=V1 r (by simpa using hy);exact SeqAt.EqAt.str_str a t z t'
 have at_:∀m (hm:m<its.toArray.size),∃a t,zs[m]?=some a/\its.toArray[m]=Value.str a t:=fun m hm=>by
  have hm':m<its.length:=by simpa using hm
  obtain⟨t,ht⟩:=ig m (zs[m]'(by lia)) (qo _);refine⟨_,t,qo (by lia),?_⟩;rw[qo hm'] at ht;simpa using yv ht
 refine call_meets F.slot_list_index pl.isList.typeIs F.entry_list_index (F.args_list_index_2 _ _) (SeqAt.list_indexAt l its.toArray _ _ _ (Value.str z t') (isZ z) j (by simpa using (show j<its.length by lia)) (by lia) ?_ fun m hm lt=>?_) ⟨at0,eq,?_⟩
 ·obtain⟨a,t,ha,e⟩:=at_ j (by simpa using (show j<its.length by lia));rw[e];rw[hj] at ha;cases ha;show(z==z)=true;simp
 ·obtain⟨a,t,ha,e⟩:=at_ m hm;rw[e];show(a==z)=false;have:a≠z:=fun y=>hno m lt (by rw[ha,y]);simpa using this
 ·exact⟨.int _,H,I.tok _,⟨_,rfl⟩,q⟩
end
section
variable{M:Model}{A:Around}{E:Value->Shared->Prop}{s:Shared}{base:Heap}{env:Env}{outer l:List Env}{L e:Addr}{cls:Value}{dd:Option Addr}{fl:Value}
end
section
variable{X:Cx}{pins:List (Addr×Obj)}{Z:St}{H H':Hp}{s:Shared}{C ea:Addr}{cls:Value}{dx:Option Addr}{B h1 h2 h3:Heap}{fl:Value}
end
section
variable{X:Cx}{pins:List (Addr×Obj)}{Z:St}{H2:Hp}{s2:Shared}{M:List Str}{x:Str}{scope:Scope}{cl:List (Str×Addr)}{C:Addr}{fp:List Addr}{E:XK}{Qe:Value->Shared->Prop}{acc:Value}
end
section
variable{X:Cx}
end
end L2
namespace L2
open PySem PySem.Spec PyProof.Rows Builtin.Str
section
variable{X:Cx}
theorem jx:MtR X "str.rstrip" (fun x xs H Q=>∃z y,x=.str z/\xs=[.str y]/\z.length<=sizeLine/\Q (.str (if stripSame y.cps.contains false true z then z else stripped y.cps.contains false true z)) H):=by
 intro pins s Z H x xs v us Q I rx rs h;obtain⟨z,y,rfl,rfl,hz,q⟩:=h;obtain⟨t,rfl⟩:=(show ∃t,v=Value.str z t from rx);obtain⟨u,rfl,ru⟩:=vals1 rs;obtain⟨t',rfl⟩:=(show ∃t,u=Value.str y t from ru);refine call_gives F.slot_str_rstrip (typeIs_str _ _ _) F.entry_str_rstrip (F.args_str_rstrip_2 _ _) (gives_str_rstrip_chars z y t t') ?_;by_cases c:stripSame y.cps.contains false true z=true
 ·rw[ya c] at q ⊢;exact⟨.str _,H,I,⟨_,rfl⟩,q⟩
 ·rw[ua c] at q ⊢;exact⟨fits_stripped _ _ _ hz,.str _,H,I.tok _,⟨_,rfl⟩,q⟩
end
end L2
namespace L2
open PySem PySem.Spec PyProof.Rows
section
variable{prog:Program}{w:World}{A:Around}{R:Result->Shared->Prop}{I:Addr}{fp wr:List Addr}{n:Nat}{P:Nat->Value->Prop}{St:Nat->Heap->Prop}
end
section
variable{prog:Program}{w:World}{A:Around}{E:Value->Shared->Prop}{s:Shared}
end
section
variable{X:Cx}
end
end L2
namespace L2
open PySem
@[elab_as_elim] theorem fresh{P:Hp->Prop}{H:Hp}{l:Addr}{o:HO}(h:H l=none)(q:∀H',Av H H'->H' l=some o->P H'):P (upd H l o):=q _ (Ax h o) An
example {Q:V->Hp->Prop} {H:Hp} (q:∀l H',Av H H'->H' l=some (.lst [.int 1])->Q (.ref l) H'):∀l,H l=none->Q (.ref l) (upd H l (.lst [.int 1])):=fun l hl=>by
 refine fresh hl fun H1 s1 t1=>?_;exact q l H1 s1 t1
end L2
namespace L2
open PySem PySem.Spec PyProof.Rows
section
variable{X:Cx}
end
section
variable{X:Cx}{M:List Str}{x:Str}{scope:Scope}{cl:List (Str×Addr)}{C:Addr}{s₀:Shared}{H₀:Hp}{fp:List Addr}
end
noncomputable def FnG(K:Fr)(g n q:Str)(st:Stmt):Prop:=∃f fd,PySem.W.nsIn K mainGlobals g=some (some (.ref f))/\Fun K n q st f fd
noncomputable def FnM(K:Fr)(C:Addr)(x n q:Str)(st:Stmt):Prop:=∃f fd,PySem.W.findIn K (.ref C) x=some (some (.ref f))/\Fun K n q st f fd/\PySem.W.typeIn K (.ref f)=some (.type "function")
noncomputable def Ig(n q:Str)(st:Stmt)(ps:List Str):Prop:=∀(kV doc pm:Value) (an:Option Addr) (cdv ct:Value) (us:List Value),us.length=ps.length->bindArgs (PySem.W.fnOf n q (Ff st) (Dl st) (BZ st) .none kV doc pm an cdv ct) ⟨us,[]⟩=pure (ps.zip us)
theorem ql{K:Fr}{g n q:Str}{st:Stmt}{f:Addr}{oc:Value}{od an:Option Addr}{osl:Array (Option Value)}{kV doc pm cdv ct:Value}(a:PySem.W.nsIn K mainGlobals g=some (some (.ref f)))(l:K.lookup f=some ⟨oc,od,.func (PySem.W.fnOf n q (Ff st) (Dl st) (BZ st) .none kV doc pm an cdv ct),osl⟩)
 (c:PySem.W.codeIn K cdv q=true)(k:PySem.W.keepIn K (.ref f)=true):FnG K g n q st:=⟨f,_,a,qi l c k⟩
theorem AAx{K:Fr}{C:Addr}{x n q:Str}{st:Stmt}{f:Addr}{oc:Value}{od an:Option Addr}{osl:Array (Option Value)}{kV doc pm cdv ct:Value}(a:PySem.W.findIn K (.ref C) x=some (some (.ref f)))(l:K.lookup f=some ⟨oc,od,.func (PySem.W.fnOf n q (Ff st) (Dl st) (BZ st) .none kV doc pm an cdv ct),osl⟩)
 (c:PySem.W.codeIn K cdv q=true)(k:PySem.W.keepIn K (.ref f)=true)(u:PySem.W.typeIn K (.ref f)=some (.type "function")):FnM K C x n q st:=⟨f,_,a,qi l c k,u⟩
section
variable{P:Program}{w:World}{K:Fr}{h:Heap}{mg:Str->Option Value}{base:Heap}{g n q:Str}{st:Stmt}{ps:List Str}{k:Nat}{sp:Sp}
theorem eX(X:K.In h)(G:h.Ns mainGlobals mg)(Q:FnG K g n q st)(b:Ig n q st ps)(ok:∀{f:Addr} {fd:FuncData},Fun K n q st f fd->FW P w K mg base CX0 k f fd ps sp):Cal P w K mg base k g ps sp:=by
 obtain⟨f,fd,a,F⟩:=Q;exact⟨⟨f,fd,ok F,F.binds b,F.kp,jh4 X G a⟩⟩
theorem wQ{CX:CXT}{C:Addr}(Q:FnM K C g n q st)(b:Ig n q st ps)(ok:∀{f:Addr} {fd:FuncData},Fun K n q st f fd->FW P w K mg base CX k f fd ps sp):mK P w K mg base CX k C g ps sp:=by
 obtain⟨f,fd,a,F,u⟩:=Q;exact⟨⟨f,fd,ok F,F.binds b,⟨a,jc0.mpr u,F.kp⟩⟩⟩
theorem wR{CX:CXT}{x:Str}{C:Addr}(X:K.In h)(G:h.Ns mainGlobals mg)(mk:PySem.W.makesIn K C=true)(kp:PySem.W.keepIn K (.ref C)=true)(nC:PySem.W.nsIn K mainGlobals x=some (some (.ref C)))(Q:FnM K C "__init__" n q st)(b:Ig n q st ps)(ok:∀{f:Addr} {fd:FuncData},Fun K n q st f fd->FW P w K mg base CX k f fd ps sp):mL P w K mg base CX k x C ps sp:=by
 obtain⟨f,fd,a,F,u⟩:=Q;exact⟨⟨f,fd,ok F,F.binds b,⟨mk,a,jc0.mpr u,kp⟩,jh4 X G nC⟩⟩
end
theorem TY{P:Program}{w:World}{K:Fr}{mg:Str->Option Value}{base:Heap}{CX:CXT}{k0:Nat}{m n q:Str}{st:Stmt}{ps:List Str}{Cs:List Addr}{sp:Nat->Sp}
 (hC:∀C∈Cs,Cls K C/\FnM K C m n q st)(b:Ig n q st ps)(z:∀vs H Q E,¬sp 0 vs H Q E)
 (step:∀(d:Nat) {f:Addr} {fd:FuncData},Hn P w K mg base CX (k0+d) m ps (Cs.map fun C=>(C,sp d))->Fun K n q st f fd->FW P w K mg base CX (k0+d+1) f fd ps (sp (d+1))):
 ∀d,Hn P w K mg base CX (k0+d) m ps (Cs.map fun C=>(C,sp d))
 | 0=>⟨fun p hp=>by
  obtain⟨C,hC',rfl⟩:=ka.mp hp;obtain⟨c,f,fd,a,F,u⟩:=hC C hC';exact⟨c,f,fd,⟨fun vs H Q E h=>absurd h (z vs H Q E),fun A outer s H args us vs Q E _ _ _ _ h=>absurd h (z vs H Q E)⟩,F.binds b,⟨a,jc0.mpr u,F.kp⟩⟩⟩
 | d+1=>⟨fun p hp=>by
  have R:=TY hC b z step d;obtain⟨C,hC',rfl⟩:=ka.mp hp;obtain⟨c,f,fd,a,F,u⟩:=hC C hC';exact⟨c,f,fd,step d R F,F.binds b,⟨a,jc0.mpr u,F.kp⟩⟩⟩
theorem all_nil{α:Type}{p:α->Prop}:∀x∈([]:List α),p x:=fun _ h=>(nomatch h)
theorem all_cons{α:Type}{p:α->Prop}{a:α}{l:List α}(h:p a)(t:∀x∈l,p x):∀x∈a::l,p x:=fun x hx=>by
 rcases qv.mp hx with e | e
 ·exact e ▸ h
 ·exact t x e
section
variable{X:Cx}{k:Nat}{q:Addr}{fd:FuncData}{p:Str}{sp:Sp}{xs:List V}{kf:Nat->Int}{J:Hp->Prop}{l:Addr}{pins:List (Addr×Obj)}{Z:St}
end
section
variable{prog:Program}{w:World}{A:Around}{E:Value->Shared->Prop}{s:Shared}
theorem dN{it t:Addr}{i:Nat}{items:Array Value}{x:Value}{Q:Value->Shared->Prop}(hit:s.heap.IsTupleIter it t i)(ht:s.heap.IsTuple t items)(hx:items[i]?=some x)
 (hQ:∀h',h'.IsTupleIter it t (i+1)->Heap.SameBut it s.heap h'->Q x { s with heap:=h' }):wpAny (model prog w) A (Builtin.SmallTypes.nextOf (.ref it)) Q E s:=by
 obtain⟨o,ho,hc,hd⟩:=id hit;obtain⟨ol,hol,_,nl,hdl⟩:=ht;unfold Builtin.SmallTypes.nextOf;refine qc (jh6 (name:=Str.ofString "__next__") hit.typeIs F.slot_tuple_iterator_next (jn1 F.slot_tuple_iterator_next hit.typeIs F.entry_tuple_iterator_next ?_ (F.args_tuple_iterator_next_1 _)));show wpAny _ _ (field (.ref it) 0 >>= _) _ _ s;refine qc (je4 ho hd (x:=.ref t) rfl ?_);show wpAny _ _ (if (Value.ref t==Value.none)=true then _ else _) _ _ s;rw[ua (show ¬((Value.ref t==Value.none)=true) from zk)];show wpAny _ _ (field (.ref it) 1 >>= _) _ _ s;refine qc (je4 ho hd (x:=.int i 0) rfl ?_);show wpAny _ _ (seqItems? (.ref t) >>= _) _ _ s;refine qc (jd5 hol hdl ?_);simp only[xi,hx];refine qc (wpAny_setField ho hd (by simp) (xp ⟨x,rfl,xp (hQ _ ?_ (Heap.SameBut.update ..))⟩));exact⟨_,jf2 _ ho (Obj.isFreed_of_fields (Obj.data_mapFields hd _)),(Obj.cls_mapFields ..).trans hc,by rw[Obj.data_mapFields hd];simp[rawInt]⟩
theorem jt{it t:Addr}{i:Nat}{items:Array Value}{Q:Value->Shared->Prop}(hh:A.handled=none)(hit:s.heap.IsTupleIter it t i)(ht:s.heap.IsTuple t items)(hx:items[i]?=none)
 (hE:∀h' e,Heap.ExtBut it s.heap h'->(∃o,h'.get? e=some o/\o.cls=.type "StopIteration")->E (.ref e) { s with heap:=h' }):wpAny (model prog w) A (Builtin.SmallTypes.nextOf (.ref it)) Q E s:=by
 obtain⟨o,ho,hc,hd⟩:=id hit;obtain⟨ol,hol,_,nl,hdl⟩:=ht;unfold Builtin.SmallTypes.nextOf;refine qc (jh6 (name:=Str.ofString "__next__") hit.typeIs F.slot_tuple_iterator_next (jn1 F.slot_tuple_iterator_next hit.typeIs F.entry_tuple_iterator_next ?_ (F.args_tuple_iterator_next_1 _)));show wpAny _ _ (field (.ref it) 0 >>= _) _ _ s;refine qc (je4 ho hd (x:=.ref t) rfl ?_);show wpAny _ _ (if (Value.ref t==Value.none)=true then _ else _) _ _ s;rw[ua (show ¬((Value.ref t==Value.none)=true) from zk)];show wpAny _ _ (field (.ref it) 1 >>= _) _ _ s;refine qc (je4 ho hd (x:=.int i 0) rfl ?_);show wpAny _ _ (seqItems? (.ref t) >>= _) _ _ s;refine qc (jd5 hol hdl ?_);simp only[xi,hx];refine qc (wpAny_rule (qc (wpAny_setField ho hd (by simp) ?_)));show wpAny _ _ (newExc (.type "StopIteration") [] >>= _) _ _ _;refine qc ?_;simp only[newExc,newTuple];refine qc (jl9 ?_ (by size_fits));refine qc (m:=firstArgMember _ _) (wpAny_of_eq (a:=Value.none) (by first | rfl | (simp only[firstArgMember];rfl)) ?_)
 refine jl9 ?_ (by size_fits);simp only[raiseNew];refine qc (wpAny_handled ?_)
 first | rw[show A.in1.handled=none from hh] | rw[hh]
 refine qc (xp (wpAny_throw ?_));exact hE _ _ (((Heap.SameBut.update ..).extBut.push _).push _) ⟨_,xa _ rfl,rfl⟩
end
theorem ABG{prog:Program}{w:World}{A:Around}(hh:A.handled=none)(it t:Addr)(hne:t≠it)(items:Array Value):
 Draws prog w A it [it,t] items.size (fun i v=>items[i]?=some v) (fun i h=>h.IsTupleIter it t i/\h.IsTuple t items) where
 live:=fun i h st=>let ⟨o,e,_⟩:=st.1;⟨o,e⟩
 frame:=fun i h h' st k=>⟨let ⟨o,e,r⟩:=st.1;⟨o,k it (by simp) o e,r⟩,let ⟨o,e,r⟩:=st.2;⟨o,k t (by simp) o e,r⟩⟩
 item:=fun i s Q E hi st hQ=>dN st.1 st.2 (x:=items[i]) (by simp[hi]) fun h' hit hs=>hQ _ h' s.toks (by simp[hi]) ⟨hit,st.2.extBut hs.extBut hne⟩ hs
 done:=fun s Q E st hE=>jt hh st.1 st.2 (by simp) hE
structure fV(z TI TO i1 i2:Addr)(f1 f2:List Addr):Prop where
 zTO:TO≠z
 zTI:TI≠z
 tt:TI≠TO
 t1:TI≠i1
 t2:TI≠i2
 m1:i1∈f1
 m2:i2∈f2
 z1:z∉f1
 z2:z∉f2
 o1:TO∉f1
 o2:TO∉f2
 n1:i2∉f1
 n2:i1∉f2
theorem Draws.sb{prog:Program}{w:World}{A:Around}{it c:Addr}{fp:List Addr}{n i:Nat}{P:Nat->Value->Prop}{St:Nat->Heap->Prop}{h h':Heap}(D:Draws prog w A it fp n P St)(st:St i h)(k:Heap.SameBut c h h')(nc:c∉fp):St i h':=
 D.frame i h h' st fun b hb o e=>k.extBut b o (fun z=>nc (z ▸ hb)) e
section
variable{prog:Program}{w:World}{A:Around}{E:Value->Shared->Prop}{s:Shared}{z TI TO i1 i2:Addr}{f1 f2:List Addr}{n1 n2 k:Nat}{P1 P2:Nat->Value->Prop}{S1 S2:Nat->Heap->Prop}{a b:Value}
theorem jE{Q:Value->Shared->Prop}(D:fV z TI TO i1 i2 f1 f2)(D1:Draws prog w A i1 f1 n1 P1 S1)(D2:Draws prog w A i2 f2 n2 P2 S2)
 (hz:IsZip s.heap z TI TO .none)(hTI:IsPair s.heap TI (.ref i1) (.ref i2))(hTO:IsPair s.heap TO a b)(h1:S1 k s.heap)(h2:S2 k s.heap)(l1:k<n1)(l2:k<n2)
 (hQ:∀x y h' tk,P1 k x->P2 k y->IsZip h' z TI TO (rawInt s.heap.objs.size)->IsPair h' TO x y->S1 (k+1) h'->S2 (k+1) h'->IsPair h' s.heap.objs.size x y->
  (∀c o,c≠z->c≠TO->c≠i1->c≠i2->s.heap.get? c=some o->h'.get? c=some o)->Q (.ref s.heap.objs.size) { s with heap:=h',toks:=tk }):
 wpAny (model prog w) A (Builtin.«zip.__next__» ⟨[.ref z],[]⟩) (fun fin s'=>∃v,fin=.done (.ret v)/\Q v s') E s:=by
 have zi1:z≠i1:=fun e=>D.z1 (e ▸ D.m1);have zi2:z≠i2:=fun e=>D.z2 (e ▸ D.m2);have oi1:TO≠i1:=fun e=>D.o1 (e ▸ D.m1);have oi2:TO≠i2:=fun e=>D.o2 (e ▸ D.m2);show wpAny _ _ (field (.ref z) 2 >>= _) _ _ _;refine qc (je4 hz rfl (x:=.bool false) rfl ?_);show wpAny _ _ (field (.ref z) 3 >>= _) _ _ _;refine qc (je4 hz rfl (x:=.ref TI) rfl ?_);refine qc (jd5 hTI rfl ?_);show wpAny _ _ (Builtin.SmallTypes.ownedTupleIsFree (.ref z) >>= _) _ _ _;refine qc ?_;unfold Builtin.SmallTypes.ownedTupleIsFree;refine qc (je4 hz rfl (x:=.none) rfl (xp ?_));simp only[if_true];refine qc (wpAny_rule (qc (je4 hz rfl (x:=.ref TO) rfl ?_)));refine qc (jf9 hz (by simp) fun g1 hz1 q1=>qc ?_);replace hz1:IsZip g1 z TI TO .ellipsis:=hz1;simp only[List.zipIdx_cons,List.zipIdx_nil,jk7,jp3];refine qc (qc (wpAny_onRaise ?_));show wpAny _ _ (Builtin.SmallTypes.nextOf (.ref i1) >>= _) _ _ _;refine(qc (D1.item k _ _ _ l1 (Draws.sb D1 h1 q1 D.z1) fun x g2 tk2 px s2 q2=>xp ?_));have p2:IsPair g2 TO a b:=q2.extBut _ _ oi1 (q1.extBut _ _ D.zTO hTO);refine qc (jd5 p2 rfl (qc (wpAny_updateSeq_pair p2 fun g3 p3 q3=>qc (wpAny_letGo (xp ?_)))));replace p3:IsPair g3 TO x b:=p3;refine qc (qc (wpAny_onRaise ?_));show wpAny _ _ (Builtin.SmallTypes.nextOf (.ref i2) >>= _) _ _ _;refine(qc (D2.item k _ _ _ l2 (Draws.sb D2 (Draws.sb D2 (Draws.sb D2 h2 q1 D.z2) q2 D.n2) q3 D.o2) fun y g4 tk4 py s4 q4=>xp ?_));have p4:IsPair g4 TO x b:=q4.extBut _ _ oi2 p3;refine qc (jd5 p4 rfl (qc (wpAny_updateSeq_pair p4 fun g5 p5 q5=>qc (wpAny_letGo (xp (xp ?_))))));replace p5:IsPair g5 TO x y:=p5;refine qc (jd5 p5 rfl (qc (wpAny_newTuple ?_)));have hsz:g5.objs.size=s.heap.objs.size:=by rw[q5.1,q4.1,q3.1,q2.1,q1.1]
 have z5:IsZip g5 z TI TO .ellipsis:=q5.extBut _ _ D.zTO.symm (q4.extBut _ _ zi2 (q3.extBut _ _ D.zTO.symm (q2.extBut _ _ zi1 hz1)));have zlt:z<g5.objs.size:=xb z5;have e1:S1 (k+1) g5:=Draws.sb D1 (Draws.sb D1 (Draws.sb D1 s2 q3 D.o1) q4 D.n1) q5 D.o1;have e2:S2 (k+1) g5:=Draws.sb D2 s4 q5 D.o2;show wpAny _ _ (Builtin.SmallTypes.ownedTupleHandOut (.ref z) (.ref g5.objs.size) >>= _) _ _ _;refine qc ?_;unfold Builtin.SmallTypes.ownedTupleHandOut;have z6:IsZip (g5.push { cls:=.type "tuple",data:=.seq #[x,y] }) z TI TO .ellipsis:=qf _ z5;refine qc (jf9 z6 (by simp) fun g7 z7 q7=>?_);replace z7:IsZip g7 z TI TO (rawInt g5.objs.size):=z7;refine jf9 z7 (by simp) fun g8 z8 q8=>?_;replace z8:IsZip g8 z TI TO (rawInt g5.objs.size):=z8;have up:∀c o,c≠z->g5.get? c=some o->g8.get? c=some o:=fun c o n e=>q8.extBut _ _ n (q7.extBut _ _ n (qf _ e));have t8:IsPair g8 g5.objs.size x y:=q8.extBut _ _ (Nat.ne_of_gt zlt) (q7.extBut _ _ (Nat.ne_of_gt zlt) (xa _ rfl));rw[hsz] at z8 t8;refine xp ⟨_,rfl,?_⟩;show Q (.ref g5.objs.size) _;rw[hsz];exact hQ x y g8 tk4 px py z8 (up _ _ D.zTO p5) (D1.frame _ _ _ e1 fun c hc o e=>up c o (fun q=>D.z1 (q ▸ hc)) e) (D2.frame _ _ _ e2 fun c hc o e=>up c o (fun q=>D.z2 (q ▸ hc)) e) t8
  fun c o c1 c2 c3 c4 e=>up c o c1 (q5.extBut _ _ c2 (q4.extBut _ _ c4 (q3.extBut _ _ c2 (q2.extBut _ _ c3 (q1.extBut _ _ c1 e)))))
theorem mO{Q:PySem.Fin->Shared->Prop}(D:fV z TI TO i1 i2 f1 f2)(D1:Draws prog w A i1 f1 n1 P1 S1)(D2:Draws prog w A i2 f2 n2 P2 S2)
 (hz:IsZip s.heap z TI TO .none)(hTI:IsPair s.heap TI (.ref i1) (.ref i2))(hTO:IsPair s.heap TO a b)(h1:S1 k s.heap)(h2:S2 k s.heap)(hk:k=n1\/k<n1/\k=n2)
 (hE:∀h' tk e,(∀c o,c≠z->c≠TO->c≠i1->c≠i2->s.heap.get? c=some o->h'.get? c=some o)->(∃o,h'.get? e=some o/\o.cls=.type "StopIteration")->E (.ref e) { s with heap:=h',toks:=tk }):
 wpAny (model prog w) A (Builtin.«zip.__next__» ⟨[.ref z],[]⟩) Q E s:=by
 have zi1:z≠i1:=fun e=>D.z1 (e ▸ D.m1);have zi2:z≠i2:=fun e=>D.z2 (e ▸ D.m2);have oi1:TO≠i1:=fun e=>D.o1 (e ▸ D.m1);have oi2:TO≠i2:=fun e=>D.o2 (e ▸ D.m2);show wpAny _ _ (field (.ref z) 2 >>= _) _ _ _;refine qc (je4 hz rfl (x:=.bool false) rfl ?_);show wpAny _ _ (field (.ref z) 3 >>= _) _ _ _;refine qc (je4 hz rfl (x:=.ref TI) rfl ?_);refine qc (jd5 hTI rfl ?_);show wpAny _ _ (Builtin.SmallTypes.ownedTupleIsFree (.ref z) >>= _) _ _ _;refine qc ?_;unfold Builtin.SmallTypes.ownedTupleIsFree;refine qc (je4 hz rfl (x:=.none) rfl (xp ?_));simp only[if_true];refine qc (wpAny_rule (qc (je4 hz rfl (x:=.ref TO) rfl ?_)));refine qc (jf9 hz (by simp) fun g1 hz1 q1=>qc ?_);replace hz1:IsZip g1 z TI TO .ellipsis:=hz1;simp only[List.zipIdx_cons,List.zipIdx_nil,jk7,jp3];refine qc (qc (wpAny_onRaise ?_));show wpAny _ _ (Builtin.SmallTypes.nextOf (.ref i1) >>= _) _ _ _;rcases hk with e | ⟨l1,e⟩
 ·subst e;refine qc (D1.done _ _ _ (Draws.sb D1 h1 q1 D.z1) fun g2 e q2 hZ=>?_);obtain⟨oe,hoe,hce⟩:=hZ;have z2:IsZip g2 z TI TO .ellipsis:=q2 _ _ zi1 hz1;have ez:e≠z:=fun x=>by subst x;rw[z2] at hoe;cases hoe;simp at hce
  exact jf9 z2 (by simp) fun g3 _ q3=>hE g3 s.toks e (fun c o c1 _ c3 _ x=>q3.extBut _ _ c1 (q2 _ _ c3 (q1.extBut _ _ c1 x))) ⟨oe,q3.extBut _ _ ez hoe,hce⟩
 ·subst e;refine qc (D1.item k _ _ _ l1 (Draws.sb D1 h1 q1 D.z1) fun x g2 tk2 px s2 q2=>xp ?_);have p2:IsPair g2 TO a b:=q2.extBut _ _ oi1 (q1.extBut _ _ D.zTO hTO);refine qc (jd5 p2 rfl (qc (wpAny_updateSeq_pair p2 fun g3 p3 q3=>qc (wpAny_letGo (xp ?_)))));refine qc (qc (wpAny_onRaise ?_));show wpAny _ _ (Builtin.SmallTypes.nextOf (.ref i2) >>= _) _ _ _;refine qc (D2.done _ _ _ (Draws.sb D2 (Draws.sb D2 (Draws.sb D2 h2 q1 D.z2) q2 D.n2) q3 D.o2) fun g4 e q4 hZ=>?_);obtain⟨oe,hoe,hce⟩:=hZ;have z4:IsZip g4 z TI TO .ellipsis:=q4 _ _ zi2 (q3.extBut _ _ D.zTO.symm (q2.extBut _ _ zi1 hz1));have ez:e≠z:=fun x=>by subst x;rw[z4] at hoe;cases hoe;simp at hce
  exact jf9 z4 (by simp) fun g5 _ q5=>hE g5 tk2 e (fun c o c1 c2 c3 c4 x=>q5.extBut _ _ c1 (q4 _ _ c4 (q3.extBut _ _ c2 (q2.extBut _ _ c3 (q1.extBut _ _ c1 x))))) ⟨oe,q5.extBut _ _ ez hoe,hce⟩
end
section
variable{prog:Program}{w:World}{A:Around}{E:Value->Shared->Prop}{s:Shared}{z TI TO i1 i2 l1 l2:Addr}{k:Nat}{xs ys:Array Value}{a b:Value}
theorem apart2(D:ZipApart z TI TO i1 i2 l1 l2):fV z TI TO i1 i2 [i1,l1] [i2,l2]:=
 ⟨D.TOz,D.TIz,D.TITO,D.TIi1,D.TIi2,by simp,by simp,by simp[D.i1z.symm,D.l1z.symm],by simp[D.i2z.symm,D.l2z.symm],by simp[D.TOi1,D.l1TO.symm],by simp[D.TOi2,D.l2TO.symm],by simp[D.i12.symm,D.l1i2.symm],by simp[D.i12,D.l2i1.symm]⟩
end
noncomputable abbrev zT1(h:Heap)(a:Addr):Heap:=h.push { cls:=.type "tuple_iterator",data:=.fields #[.ref a,.int 0 0] }
section
variable{X:Cx}
end
section
variable{P:Program}{w:World}{K:Fr}{h:Heap}{mg:Str->Option Value}{base:Heap}{k0 J:Nat}{g n q:Str}{st:Stmt}{ps:List Str}{sp:Nat->Sp}
theorem Xv(X:K.In h)(G:h.Ns mainGlobals mg)(F:FnG K g n q st)(b:Ig n q st ps)(z:∀vs H Q E,¬sp 0 vs H Q E)
 (step:∀(d:Nat) {f:Addr} {fd:FuncData},Cal P w K mg base (k0+J*d) g ps (sp d)->Fun K n q st f fd->FW P w K mg base CX0 (k0+J*d+J) f fd ps (sp (d+1))):
 ∀d,Cal P w K mg base (k0+J*d) g ps (sp d)
 | 0=>eX X G F b fun _=>⟨fun vs H Q E h=>absurd h (z vs H Q E),fun A outer s H args us vs Q E _ _ _ _ h=>absurd h (z vs H Q E)⟩
 | d+1=>by
  have R:=Xv X G F b z step d;rw[show k0+J*(d+1)=k0+J*d+J by rw[Nat.mul_succ,Nat.add_assoc]];exact eX X G F b fun F'=>step d R F'
end
end L2
namespace L2
open PySem PySem.Spec PyProof.Rows Builtin.Str
section
variable{X:Cx}
theorem jy:MtR X "str.lstrip" (fun x xs H Q=>∃z y,x=.str z/\xs=[.str y]/\z.length<=sizeLine/\Q (.str (if stripSame y.cps.contains true false z then z else stripped y.cps.contains true false z)) H):=by
 intro pins s Z H x xs v us Q I rx rs h;obtain⟨z,y,rfl,rfl,hz,q⟩:=h;obtain⟨t,rfl⟩:=(show ∃t,v=Value.str z t from rx);obtain⟨u,rfl,ru⟩:=vals1 rs;obtain⟨t',rfl⟩:=(show ∃t,u=Value.str y t from ru);refine call_gives F.slot_str_lstrip (typeIs_str _ _ _) F.entry_str_lstrip (F.args_str_lstrip_2 _ _) (gives_str_lstrip_chars z y t t') ?_;by_cases c:stripSame y.cps.contains true false z=true
 ·rw[ya c] at q ⊢;exact⟨.str _,H,I,⟨_,rfl⟩,q⟩
 ·rw[ua c] at q ⊢;exact⟨fits_stripped _ _ _ hz,.str _,H,I.tok _,⟨_,rfl⟩,q⟩
end
end L2
namespace L2
open PySem PySem.W PySem.Spec PyProof.Rows
section
variable{κ:Type}[DecidableEq κ]
noncomputable def Fy(kvs:List (κ×V))(k:κ):Option V:=(kvs.find? fun kv=>decide (kv.1=k)).map (·.2)
noncomputable def putK(kvs:List (κ×V))(k:κ)(v:V):List (κ×V):=
 if (kvs.any fun kv=>decide (kv.1=k))=true then kvs.map (fun kv=>if kv.1=k then (kv.1,v) else kv) else kvs++[(k,v)]
theorem Fz{p:κ×V}{r:List (κ×V)}{k:κ}(e:p.1=k):Fy (p::r) k=some p.2:=by simp[Fy,ji6,e]
theorem GC{p:κ×V}{r:List (κ×V)}{k:κ}(e:¬p.1=k):Fy (p::r) k=Fy r k:=by simp[Fy,ji6,e]
theorem Mj(k:κ):∀kvs:List (κ×V),(kvs.any fun kv=>decide (kv.1=k))=(Fy kvs k).isSome
 | []=>rfl
 | p::r=>by
  rw[jf4];by_cases e:p.1=k
  ·simp only[Fz e,decide_eq_true e,Bool.true_or,Option.isSome_some]
  ·rw[GC e,decide_eq_false e,Bool.false_or];exact Mj k r
theorem Yz(k j:κ)(y:V):∀kvs:List (κ×V),Fy (kvs.map fun kv=>if kv.1=k then (kv.1,y) else kv) j=(Fy kvs j).map fun x=>if j=k then y else x
 | []=>rfl
 | p::r=>by
  have ih:=Yz k j y r;rw[zi];by_cases h:p.1=k
  ·rw[ya h];by_cases e:p.1=j
   ·rw[Fz (p:=(p.1,y)) e,Fz e,jo5,ya (e.symm.trans h)]
   ·rw[GC (p:=(p.1,y)) e,GC e,ih]
  ·rw[ua h];by_cases e:p.1=j
   ·rw[Fz (p:=p) e,Fz e,jo5,ua (fun z=>h (e.trans z))]
   ·rw[GC (p:=p) e,GC e,ih]
theorem V3(k j:κ)(y:V):∀kvs:List (κ×V),Fy kvs k=none->Fy (kvs++[(k,y)]) j=if j=k then some y else Fy kvs j
 | [],_=>by
  by_cases e:k=j
  ·rw[ya e.symm];exact Fz (p:=(k,y)) e
  ·rw[ua (fun z=>e z.symm)];exact GC (p:=(k,y)) e
 | p::r,hn=>by
  rw[jh7];have hk:¬p.1=k:=fun z=>by rw[Fz z] at hn;cases hn
  rw[GC hk] at hn;have ih:=V3 k j y r hn;by_cases e:p.1=j
  ·rw[Fz e,Fz e,ua (fun z=>hk (e.trans z))]
  ·rw[GC e,GC e,ih]
theorem mY(kvs:List (κ×V))(k j:κ)(y:V):Fy (putK kvs k y) j=if j=k then some y else Fy kvs j:=by
 unfold putK;by_cases a:(kvs.any fun kv=>decide (kv.1=k))=true
 ·rw[ya a,Yz];rw[Mj] at a;by_cases e:j=k
  ·obtain⟨x,hx⟩:=jg4.mp a;rw[ya e,e,hx,jo5,ya rfl]
  ·rw[ua e];cases Fy kvs j with
   | none=>rfl
   | some x=>rw[jo5,ua e]
 ·rw[ua a];refine V3 k j y kvs ?_;rw[Mj] at a;cases q:Fy kvs k with
  | none=>rfl
  | some x=>rw[q] at a;exact(a rfl).elim
theorem KR(kvs:List (κ×V))(k:κ)(v:V):(putK kvs k v).length<=kvs.length+1:=by
 unfold putK;split
 ·rw[js];lia
 ·rw[qr,qm,ji7];lia
theorem Js.isSome_eq{o:Option V}{u:Option Value}(r:Js o u):o.isSome=u.isSome:=by
 cases o with
 | none=>cases u with
  | none=>rfl
  | some _=>exact(show False from r).elim
 | some _=>cases u with
  | none=>exact(show False from r).elim
  | some _=>rfl
theorem KV.val{kvs:List (κ×V)}{vs:List (κ×Value)}(r:KV kvs vs)(k:κ):Js (Fy kvs k) (valueAt vs k):=by
 unfold KV at r
 induction r with
 | nil=>exact True.intro
 | @cons p q ps qs h t ih=>
  obtain⟨h1,h2⟩:=h;by_cases e:p.1=k
  ·have e':q.1=k:=h1.symm.trans e;have b:valueAt (q::qs) k=some q.2:=by simp[valueAt,ji6,e']
   rw[Fz e,b];exact h2
  ·have e':¬q.1=k:=fun z=>e (h1.trans z);have b:valueAt (q::qs) k=valueAt qs k:=by simp[valueAt,ji6,e']
   rw[GC e,b];exact ih
theorem KV.any{kvs:List (κ×V)}{vs:List (κ×Value)}(r:KV kvs vs)(k:κ):(kvs.any fun kv=>decide (kv.1=k))=vs.any fun kv=>decide (kv.1=k):=by
 unfold KV at r
 induction r with
 | nil=>rfl
 | cons h t ih=>rw[jf4,jf4,ih,h.1]
theorem KV.repl{kvs:List (κ×V)}{vs:List (κ×Value)}(r:KV kvs vs)(k:κ){y:V}{u:Value}(ry:RelV y u):
 KV (kvs.map fun kv=>if kv.1=k then (kv.1,y) else kv) (vs.map fun kv=>if kv.1=k then (kv.1,u) else kv):=by
 unfold KV at r ⊢
 induction r with
 | nil=>exact .nil
 | @cons p q ps qs h t ih=>
  rw[zi,zi];refine .cons ?_ ih;obtain⟨h1,h2⟩:=h;by_cases e:p.1=k
  ·rw[ya e,ya (h1.symm.trans e)];exact⟨h1,ry⟩
  ·rw[ua e,ua (fun z=>e (h1.trans z))];exact⟨h1,h2⟩
theorem KV.put{kvs:List (κ×V)}{vs:List (κ×Value)}(r:KV kvs vs)(k:κ){y:V}{u:Value}(ry:RelV y u):KV (putK kvs k y) (stored vs k u):=by
 unfold putK stored;rw[r.any k];by_cases e:(vs.any fun kv=>decide (kv.1=k))=true
 ·rw[ya e,ya e];exact r.repl k ry
 ·rw[ua e,ua e];exact Paired.snoc r ⟨rfl,ry⟩
theorem KV.length{kvs:List (κ×V)}{vs:List (κ×Value)}(r:KV kvs vs):kvs.length=vs.length:=Paired.length r
end
theorem Tv{P:Program}{w:World}{k:Key}{u:Value}(r:RelV (kV k) u):(FN P w).is k u=true:=by
 cases k with
 | inl i=>obtain⟨t,e⟩:=(show ∃t,u=Value.int i t from r);subst e;exact Z5 P w i t
 | inr x=>obtain⟨t,e⟩:=(show ∃t,u=Value.str x t from r);subst e;exact KQ P w x t
theorem WX{P:Program}{w:World}:∀{ks:List Key} {us:List Value},Vals (ks.map kV) us->ItemsAre (FN P w) ks us
 | [],_,r=>by rw[jo9] at r;cases r;exact .nil
 | k::ks,_,r=>by
  rw[zi] at r;cases r with
  | cons h t=>exact .cons (Tv h) (WX t)
noncomputable abbrev KT(H:Hp):List (List Key×V)->List (List Key×Addr×Value)->Prop:=Paired fun p q=>p.1=q.1/\H q.2.1=some (.tup (p.1.map kV))/\RelV p.2 q.2.2
variable{H:Hp}
theorem KT.val{kvs:List (List Key×V)}{xs:List (List Key×Addr×Value)}(r:KT H kvs xs)(k:List Key):Js (Fy kvs k) ((atKey xs k).map (·.2)):=by
 induction r with
 | nil=>exact True.intro
 | @cons p q ps qs h t ih=>
  obtain⟨h1,_,h2⟩:=h;by_cases e:p.1=k
  ·have e':q.1=k:=h1.symm.trans e;have b:atKey (q::qs) k=some q.2:=by simp[atKey,ji6,e']
   rw[Fz e,b];exact h2
  ·have e':¬q.1=k:=fun z=>e (h1.trans z);have b:atKey (q::qs) k=atKey qs k:=by simp[atKey,ji6,e']
   rw[GC e,b];exact ih
theorem KT.repl{kvs:List (List Key×V)}{xs:List (List Key×Addr×Value)}(r:KT H kvs xs)(k:List Key){y:V}{u:Value}(ry:RelV y u):
 KT H (kvs.map fun kv=>if kv.1=k then (kv.1,y) else kv) (xs.map (putAt k u)):=by
 induction r with
 | nil=>exact .nil
 | @cons p q ps qs h t ih=>
  rw[zi,zi];refine .cons ?_ ih;obtain⟨h1,h2,h3⟩:=h;unfold putAt;by_cases e:p.1=k
  ·rw[ya e,ya (h1.symm.trans e)];exact⟨h1,h2,ry⟩
  ·rw[ua e,ua (fun z=>e (h1.trans z))];exact⟨h1,h2,h3⟩
theorem KT.put{kvs:List (List Key×V)}{xs:List (List Key×Addr×Value)}(r:KT H kvs xs)(k:List Key){b:Addr}{y:V}{u:Value}(hb:H b=some (.tup (k.map kV)))(ry:RelV y u):
 KT H (putK kvs k y) (storedH xs k b u):=by
 have e:(kvs.any fun kv=>decide (kv.1=k))=(atKey xs k).isSome:=by
  rw[Mj,(r.val k).isSome_eq,Option.isSome_map]
 unfold putK storedH;rw[e];by_cases q:(atKey xs k).isSome=true
 ·rw[ya q,ya q];exact r.repl k ry
 ·rw[ua q,ua q];exact Paired.snoc r ⟨rfl,hb,ry⟩
theorem KT.keeps{H':Hp}{kvs:List (List Key×V)}{xs:List (List Key×Addr×Value)}(r:KT H kvs xs)(ht:∀b ys,H b=some (.tup ys)->H' b=some (.tup ys)):KT H' kvs xs:=
 Paired.mapP r fun _ _ z=>⟨z.1,ht _ _ z.2.1,z.2.2⟩
section
variable{P:Program}{w:World}{H:Hp}{h:Heap}{a:Addr}
theorem xn{u:HO}(ok:HOk P w H h)(e:Rd H a u):Ez P w H h a u:=e.ok ok
theorem iU{kvs:List (Key×V)}(ok:HOk P w H h)(e:Rd H a (.dK kvs)):kvs.length<=sizeLine/\(a==sysModules)=false/\∃vs,KV kvs vs/\h.DictOf (FN P w) a vs:=
 show Ez P w H h a (.dK kvs) from xn ok e
theorem ADN{kvs:List (Key×V)}(ok:HOk P w H h)(e:H a=some (.dK kvs)):kvs.length<=sizeLine/\(a==sysModules)=false/\∃vs,KV kvs vs/\h.DictOf (FN P w) a vs:=iU ok (.inl e)
theorem YT{ks:List Key}(ok:HOk P w H h)(e:H a=some (.tup (ks.map kV))):(tupleKind (FN P w)).is h ks a:=by
 obtain⟨_,its,r,o,h1,h2,n,h3⟩:=(show Ez P w H h a (.tup (ks.map kV)) from ok a _ e);exact⟨o,its.toArray,n,h1,h2,h3,by simpa using WX r⟩
theorem iM{kvs:List (List Key×V)}(ok:HOk P w H h)(e:Rd H a (.dT kvs)):kvs.length<=sizeLine/\(a==sysModules)=false/\
 ∃xs,KT H kvs xs/\h.DictOfH (tupleKind (FN P w)) a xs:=by
 obtain⟨z,y,xs,r,o,es,ep,h1,h2,h3,h4,h5⟩:=(show Ez P w H h a (.dT kvs) from xn ok e);refine⟨z,y,xs,r,o,es,ep,h1,h2,h3,h4,fun x hx=>?_,h5⟩;have all:∀{l:List (List Key×V)} {m:List (List Key×Addr×Value)},KT H l m->∀x∈m,(tupleKind (FN P w)).is h x.1 x.2.1:=by
  intro l m q
  induction q with
  | nil=>intro x hx;exact nomatch hx
  | @cons p q ps qs hq t ih=>
   intro x hx;rcases qv.mp hx with e | hx
   ·subst e;exact YT ok (by rw[<-hq.1];exact hq.2.1)
   ·exact ih x hx
 exact all r x hx
theorem ADM{kvs:List (List Key×V)}(ok:HOk P w H h)(e:H a=some (.dT kvs)):kvs.length<=sizeLine/\(a==sysModules)=false/\
 ∃xs,KT H kvs xs/\h.DictOfH (tupleKind (FN P w)) a xs:=iM ok (.inl e)
end
noncomputable def V0(H:Hp)(a:Addr)(y:V)(r:Option V):Prop:=
 (∃kvs k,Rd H a (.dK kvs)/\y=kV k/\r=Fy kvs k)\/∃kvs k b,Rd H a (.dT kvs)/\y=.ref b/\H b=some (.tup (k.map kV))/\r=Fy kvs k
noncomputable def mJ(H:Hp)(a:Addr)(y v:V)(H':Hp):Prop:=
 (∃kvs k,H a=some (.dK kvs)/\y=kV k/\kvs.length<sizeLine/\H'=upd H a (.dK (putK kvs k v)))\/
 ∃kvs k b,H a=some (.dT kvs)/\y=.ref b/\H b=some (.tup (k.map kV))/\kvs.length<sizeLine/\H'=upd H a (.dT (putK kvs k v))
theorem V0.k{a:Addr}{kvs:List (Key×V)}{k:Key}(e:H a=some (.dK kvs)):V0 H a (kV k) (Fy kvs k):=.inl ⟨kvs,k,.inl e,rfl,rfl⟩
theorem mJ.k{a:Addr}{kvs:List (Key×V)}{k:Key}{v:V}(e:H a=some (.dK kvs))(hl:kvs.length<sizeLine):mJ H a (kV k) v (upd H a (.dK (putK kvs k v))):=.inl ⟨kvs,k,e,rfl,hl,rfl⟩
section
variable{X:Cx}{pins:List (Addr×Obj)}{Z:St}{H:Hp}{s:Shared}{a:Addr}{y v:V}{u r:Value}{o:Option V}{A:Around}{E:Value->Shared->Prop}
theorem Inv.big(I:Inv X pins Z H s):sysModules<s.heap.objs.size:=by
 have h:mainGlobals<s.heap.objs.size:=(I.mod.glob.keeps I.bk).lt;exact jm6 (by decide) h
theorem lD{Q:Value->Shared->Prop}(hu:A.units+1<cLine)(I:Inv X pins Z H s)(g:V0 H a y (some v))(ry:RelV y u)(h:∀w' s',Inv X pins Z H s'->RelV v w'->Q w' s'):
 wpAny (model X.prog X.w) A (getItem (.ref a) u) Q E s:=by
 rcases g with ⟨kvs,k,e,ey,l⟩ | ⟨kvs,k,b,e,ey,eb,l⟩
 ·subst ey;obtain⟨z,hd,vs,rel,dd⟩:=iU I.hok e;obtain⟨w',hw,rw'⟩:=Js.some_of (v:=v) (o:=valueAt vs k) (by rw[l];exact rel.val k);exact wpAny_getItem_of (Tv ry) dd.mapOf hw (h w' _ (I.tok _) rw')
 ·subst ey;cases (show u=Value.ref b from ry);obtain⟨z,hd,xs,rel,dd⟩:=iM I.hok e;obtain⟨w',hw,rw'⟩:=Js.some_of (v:=v) (o:=(atKey xs k).map (·.2)) (by rw[l];exact rel.val k);obtain⟨p,hp,hp2⟩:=xz.mp hw;refine wpAny_getItem_heap (tupleKind_room_in1 hu) (YT I.hok eb) dd hp ?_;rw[hp2];exact h w' _ (I.tok _) rw'
theorem wL{Q:Value->Shared->Prop}(hu:A.units+1<cLine)(I:Inv X pins Z H s)(g:V0 H a y o)(ry:RelV y u)(h:∀s',Inv X pins Z H s'->Q (.bool (!o.isSome)) s'):
 wpAny (model X.prog X.w) A (compareOp .NotIn u (.ref a)) Q E s:=by
 rcases g with ⟨kvs,k,e,ey,l⟩ | ⟨kvs,k,b,e,ey,eb,l⟩
 ·subst ey;obtain⟨z,hd,vs,rel,dd⟩:=iU I.hok e;refine wpAny_notIn_of (Tv ry) hd dd.mapOf ?_;rw[<-(rel.val k).isSome_eq,<-l];exact h _ (I.tok _)
 ·subst ey;cases (show u=Value.ref b from ry);obtain⟨z,hd,xs,rel,dd⟩:=iM I.hok e;refine wpAny_notIn_heap (tupleKind_room_in1 hu) (YT I.hok eb) hd dd ?_;have q:=(rel.val k).isSome_eq;rw[Option.isSome_map] at q;rw[<-q,<-l];exact h _ (I.tok _)
theorem iZ{h':Heap}{t':Nat}{ob:HO}(I:Inv X pins Z H s)(mu:Mut (H a))(hs:Heap.SameBut a s.heap h')(he:∃q,h'.get? a=some q)(new:Ez X.prog X.w (upd H a ob) h' a ob):
 Inv X pins Z (upd H a ob) { s with heap:=h',toks:=t' }:=
 I.write (x:=a) (e:=a) mu (.inl rfl) (fun b q hb z=>(hs.2 b hb).trans z) he new
theorem ABI{P:Program}{w:World}{H':Hp}{h':Heap}{kvs:List (Key×V)}{vs:List (Key×Value)}(z:kvs.length<=sizeLine)(hd:(a==sysModules)=false)(rel:KV kvs vs)(dd:h'.DictOf (FN P w) a vs):
 Ez P w H' h' a (.dK kvs):=⟨z,hd,vs,rel,dd⟩
theorem lC{H':Hp}{Q:Unit->Shared->Prop}(hu:A.units+1<cLine)(I:Inv X pins Z H s)(g:mJ H a y v H')(ry:RelV y u)(rv:RelV v r)(h:∀s',Inv X pins Z H' s'->Q () s'):
 wpAny (model X.prog X.w) A (setItem (.ref a) u r) Q E s:=by
 rcases g with ⟨kvs,k,e,ey,l,eH⟩ | ⟨kvs,k,b,e,ey,eb,l,eH⟩
 ·subst ey eH;obtain⟨z,hd,vs,rel,dd⟩:=ADN I.hok e;have hz:vs.length<=sizeLine:=by rw[<-rel.length];exact z
  have hl:(putK kvs k v).length<=sizeLine:=by have:=KR kvs k v;lia
  refine wpAny_setItem_pairs (hsz:=hz) (Tv ry) dd fun h' dd' hs=>h _ ?_;have he:∃q,h'.get? a=some q:=let ⟨q,_,_,hq,_⟩:=dd';⟨q,hq⟩;exact iZ I (by rw[e];exact True.intro) hs he (ABI hl hd (rel.put k rv) dd')
 ·subst ey eH;cases (show u=Value.ref b from ry);obtain⟨z,hd,xs,rel,dd⟩:=ADM I.hok e;have hz:xs.length<=sizeLine:=by rw[<-Paired.length rel];exact z
  have hl:(putK kvs k v).length<=sizeLine:=by have:=KR kvs k v;lia
  refine wpAny_setItem_heap (hsz:=hz) (tupleKind_room_in1 hu) (YT I.hok eb) dd fun h' dd' hs=>h _ ?_;obtain⟨q,es,ep,hq,h2,h3,h4,_,h5⟩:=dd';refine iZ I (by rw[e];exact True.intro) hs ⟨q,hq⟩ ⟨hl,hd,_,(rel.put k eb rv).keeps fun c ys ec=>?_,q,es,ep,hq,h2,h3,h4,h5⟩;rw[BK (Ho ec e (fun z=>nomatch z))];exact ec
end
section
variable{X:Cx}{pins:List (Addr×Obj)}{Z:St}{H:Hp}{s:Shared}{a:Addr}{kvs:List (Key×V)}{k:Key}{u:Value}{A:Around}{E:Value->Shared->Prop}
end
noncomputable def ABd(i:Expr):Prop:=∀ov iv,subscripted i false ov iv=operate [ov,iv] (getItem ov iv)
theorem gD{prog:Program}{w:World}{A:Around}{E:Value->Shared->Prop}{s:Shared}{env:Env}{value slice:Expr}{pos:Pos}{T id:String}{Q:Value->Shared->Prop}
 (hl:typeLookup (.type T) "__getitem__"=pure (some (.builtin id)))(hs:ABd slice)
 (h:wpAny (model prog w) A (eval value env) (fun o s₁=>wpAny (model prog w) A (eval slice env) (fun i s₂=>s₂.TypeIs o T/\wpAny (model prog w) A (getItem o i) Q E s₂) E s₁) E s):
 wpAny (model prog w) A (eval (.Subscript value slice pos) env) Q E s:=by
 refine Subscript_ (ja9 h (fun o s₁ h₁=>ja9 h₁ (fun i s₂ h₂=>?_) fun _ _ x=>x) fun _ _ x=>x);obtain⟨hT,h₂⟩:=h₂;unfold subscriptTail;refine qc ?_;rw[getitemInPython_of_ne hT.not_modules];refine qc (wpAny_specialOf hT hl ?_);have fin:wpAny (model prog w) A (subscripted slice false o i) (fun r s₃=>wpAny (model prog w) A (letTemporaryGo value o r >>= fun _=>pure r) Q E s₃) E s₂:=by
  rw[hs o i];exact wpAny_operating (ja9 h₂ (fun r s₃ h₃=>qc (wpAny_letTemporaryGo (xp h₃))) fun _ _ x=>x)
 first
  | exact xp (qc fin)
  | exact qc (xp (qc fin))
  | exact qc fin
theorem aH{X:Cx}{pins:List (Addr×Obj)}{Z:St}{s:Shared}{a:Addr}{y:V}{o:Option V}(I:Inv X pins Z H s)(g:V0 H a y o):s.TypeIs (.ref a) "dict":=by
 rcases g with ⟨kvs,k,e,_,_⟩ | ⟨kvs,k,b,e,_,_,_⟩
 ·obtain⟨_,_,vs,_,dd⟩:=iU I.hok e;exact dd.typeIs
 ·obtain⟨_,_,xs,_,dd⟩:=iM I.hok e;exact dd.typeIs
noncomputable def nG(td ty:TE):TE:=fun Z H Q=>td Z H fun x H1=>ty Z H1 fun y H2=>∃a v,x=.ref a/\V0 H2 a y (some v)/\Q v H2
noncomputable def W7(ty td:TE):TE:=fun Z H Q=>ty Z H fun y H1=>td Z H1 fun x H2=>∃a o,x=.ref a/\V0 H2 a y o/\Q (.bl (!o.isSome)) H2
noncomputable def oY(td ty tv:TE):TS:=fun D Z H=>tv Z H fun v H1=>td Z H1 fun x H2=>ty Z H2 fun y H3=>∃a H4,x=.ref a/\mJ H3 a y v H4/\D.nx Z H4
section
variable{X:Cx}{o i e value:Expr}{pos pos' tpos:Pos}{td ty tv:TE}
theorem gj(hu:X.A.units+1<cLine)(ho:PE X o td)(hi:PE X i ty)(hs:ABd i):PE X (.Subscript o i pos) (nG td ty):=by
 intro pins s Z H Q I h;refine gD PySem.F.slot_dict_getitem.lookup hs (thn (ho s Z H _ I h) fun u s1 ⟨x,H1,I1,rx,q1⟩=>thn (hi s1 Z H1 _ I1 q1) fun iv s2 hZ=>?_);obtain⟨y,H2,I2,ry,a,v,ex,g,q2⟩:=hZ;subst ex;obtain rfl:u=Value.ref a:=rx;exact⟨aH I2 g,lD hu I2 g ry fun w' s3 I3 rw'=>⟨v,H2,I3,rw',q2⟩⟩
theorem WL(hu:X.A.units+1<cLine)(hi:PE X i ty)(ho:PE X o td):PC X .NotIn i o (W7 ty td):=by
 intro pins s Z H Q I h;refine thn (hi s Z H _ I h) fun iv s1 ⟨y,H1,I1,ry,q1⟩=>thn (ho s1 Z H1 _ I1 q1) fun u s2 hZ=>?_;obtain⟨x,H2,I2,rx,a,ov,ex,g,q2⟩:=hZ;subst ex;obtain rfl:u=Value.ref a:=rx;exact wL hu I2 g ry fun s3 I3=>⟨.bl (!ov.isSome),H2,I3,rfl,q2⟩
theorem X3(hu:X.A.units+1<cLine)(ho:PE X o td)(hi:PE X i ty)(hv:PE X value tv)(hs:swapsWith value (some (.Subscript o i pos')) pos.line X.env=pure false):
 PS X (.Assign [.Subscript o i pos'] value pos) (oY td ty tv):=by
 intro pins s Z H D I h;refine wpAny_Assign_Subscript (thn (hv s Z H _ I h) fun r s1 ⟨v,H1,I1,rv,q1⟩=>thn (ho s1 Z H1 _ I1 q1) fun u s2 ⟨x,H2,I2,rx,q2⟩=>thn (hi s2 Z H2 _ I2 q2) fun iv s3 hZ=>?_) hs;obtain⟨y,H3,I3,ry,a,H4,ex,g,q3⟩:=hZ;subst ex;obtain rfl:u=Value.ref a:=rx;exact lC hu I3 g ry rv fun s4 I4=>⟨Z,H4,I4,q3⟩
end
theorem qy{P:Program}{w:World}(h:Heap)(hb:sysModules<h.objs.size):Ez P w H (h.push { cls:=.type "dict",data:=.dict #[] }) h.objs.size (.dK []):=
 ⟨vj _,beq_eq_false_iff_ne.mpr (Ne.symm (vx hb)),[],.nil,Heap.DictOf.new h⟩
noncomputable def yh:TE:=fun _ H Q=>∀p,H p=none->Q (.ref p) (upd H p (.dK []))
section
variable{X:Cx}{pos:Pos}
theorem Zx:PE X (.Dict [] [] pos) yh:=fun pins s Z H Q I h=>
 wpAny_Dict_empty ⟨.ref s.heap.objs.size,_,I.laid (a:=s.heap.objs.size) (o:=.dK []) (t':=s.toks) (fun _ _ q=>qf _ q) (qq _) (qy s.heap I.big),rfl,h _ (I.hok.fresh (qq _))⟩
end
end L2
namespace L2
open PySem PySem.Spec PyProof.Rows
section
variable{X:Cx}{pins:List (Addr×Obj)}{Z:St}{H2:Hp}{s2:Shared}{M xs:List Str}{scope:Scope}{cl:List (Str×Addr)}{C:Addr}{fp:List Addr}{E:XK}{Qe:Value->Shared->Prop}{acc:Value}
end
section
variable{X:Cx}
end
noncomputable def SqA(K:Fr)(H:Hp)(a:Addr)(xs:List V):Bool->Prop | true=>SqT K H a xs | false=>SqL K H a xs
noncomputable def ItA(h:Heap)(i a:Addr)(k:Nat):Bool->Prop | true=>h.IsTupleIter i a k | false=>h.IsListIter i a k
noncomputable def IsA(h:Heap)(a:Addr)(us:Array Value):Bool->Prop | true=>h.IsTuple a us | false=>h.IsList a us
theorem ItA.get{h:Heap}{i a:Addr}{k:Nat}{c:Bool}(x:ItA h i a k c):∃o,h.get? i=some o/\∀v,o.data≠.cell v:=by
 cases c<;>(obtain ⟨o,e,_,d⟩:=x;exact⟨o,e,fun v z=>by rw[d] at z;cases z⟩)
theorem ItA.at{h h':Heap}{i a:Addr}{k:Nat}{c:Bool}(x:ItA h i a k c)(q:∀o,h.get? i=some o->h'.get? i=some o):ItA h' i a k c:=by
 cases c<;>exact let ⟨o,e,r⟩:=x;⟨o,q o e,r⟩
theorem IsA.lt{h:Heap}{a:Addr}{us:Array Value}{c:Bool}(x:IsA h a us c):a<h.objs.size:=by
 cases c<;>(obtain ⟨o,e,_⟩:=x;exact xb e)
section
variable{X:Cx}{pins:List (Addr×Obj)}{Z:St}{H:Hp}{s:Shared}{a:Addr}{xs ys:List V}{c:Bool}
theorem Inv.seqA(I:Inv X pins Z H s)(h:SqA X.K H a xs c):∃us:List Value,Vals xs us/\IsA s.heap a us.toArray c:=by
 cases c
 ·obtain⟨us,r,p,_⟩:=I.list h;exact⟨us,r,p.isList⟩
 ·obtain⟨us,r,p,_⟩:=I.tuple h;exact⟨us,r,p⟩
theorem Inv.injA(I:Inv X pins Z H s)(h:SqA X.K H a xs c)(h':SqA X.K H a ys c):xs=ys:=by
 cases c
 ·exact I.list_inj h h'
 ·exact I.tuple_inj h h'
end
theorem qx{prog:Program}{w:World}{A:Around}{c:Bool}(hh:A.handled=none)(it l:Addr)(hne:l≠it)(us:Array Value):Draws prog w A it [it,l] us.size (fun i v=>us[i]?=some v) (fun i h=>ItA h it l i c/\IsA h l us c):=by
 cases c
 ·exact Draws.list hh it l hne us
 ·exact ABG hh it l hne us
section
variable{prog:Program}{w:World}{A:Around}{E:Value->Shared->Prop}{s:Shared}{z TI TO i1 i2 l1 l2:Addr}{k:Nat}{xs ys:Array Value}{a b:Value}{c:Bool}
theorem AAf{Q:Option Value->Shared->Prop}(hh:A.handled=none)(D:ZipApart z TI TO i1 i2 l1 l2){x y:Value}(hz:IsZip s.heap z TI TO .none)(hTI:IsPair s.heap TI (.ref i1) (.ref i2))(hTO:IsPair s.heap TO a b)
 (h1:ItA s.heap i1 l1 k c)(h2:s.heap.IsListIter i2 l2 k)(t1:IsA s.heap l1 xs c)(t2:s.heap.IsList l2 ys)(hx:xs[k]?=some x)(hy:ys[k]?=some y)
 (hQ:∀h' tk,IsZip h' z TI TO (rawInt s.heap.objs.size)->IsPair h' TO x y->ItA h' i1 l1 (k+1) c->h'.IsListIter i2 l2 (k+1)->IsPair h' s.heap.objs.size x y->
  (∀y o,y≠z->y≠TO->y≠i1->y≠i2->s.heap.get? y=some o->h'.get? y=some o)->Q (some (.ref s.heap.objs.size)) { s with heap:=h',toks:=tk }):wpAny (model prog w) A (pyNext (.ref z)) Q E s:=by
 have hT:s.TypeIs (.ref z) "zip":=⟨_,hz,rfl⟩;have lx:k<xs.size:=(Array.getElem?_eq_some_iff.mp hx).1;have ly:k<ys.size:=(Array.getElem?_eq_some_iff.mp hy).1;have D1:=qx (c:=c) (prog:=prog) (w:=w) (A:=A.in1) hh i1 l1 D.l1i1 xs;have D2:=Draws.list (prog:=prog) (w:=w) (A:=A.in1) hh i2 l2 D.l2i2 ys;unfold pyNext;refine qc (wpAny_attempt (jh6 (name:=Str.ofString "__next__") hT F.slot_zip_next (jn1 F.slot_zip_next hT F.entry_zip_next
  (jE (apart2 D) D1 D2 hz hTI hTO ⟨h1,t1⟩ ⟨h2,t2⟩ lx ly fun x' y' h' tk p1 p2 a1 a2 a3 a4 a5 a6=>?_) (F.args_zip_next_1 _))))
 rw[hx] at p1;rw[hy] at p2;cases p1;cases p2;exact xp (hQ h' tk a1 a2 a3.1 a4.1 a5 a6)
theorem ABH{Q:Option Value->Shared->Prop}(hh:A.handled=none)(D:ZipApart z TI TO i1 i2 l1 l2)(hz:IsZip s.heap z TI TO .none)(hTI:IsPair s.heap TI (.ref i1) (.ref i2))(hTO:IsPair s.heap TO a b)
 (h1:ItA s.heap i1 l1 k c)(h2:s.heap.IsListIter i2 l2 k)(t1:IsA s.heap l1 xs c)(t2:s.heap.IsList l2 ys)(hk:k=xs.size\/k<xs.size/\k=ys.size)
 (hQ:∀h' tk,(∀y o,y≠z->y≠TO->y≠i1->y≠i2->s.heap.get? y=some o->h'.get? y=some o)->Q none { s with heap:=h',toks:=tk }):wpAny (model prog w) A (pyNext (.ref z)) Q E s:=by
 have hT:s.TypeIs (.ref z) "zip":=⟨_,hz,rfl⟩;have D1:=qx (c:=c) (prog:=prog) (w:=w) (A:=A.in1) hh i1 l1 D.l1i1 xs;have D2:=Draws.list (prog:=prog) (w:=w) (A:=A.in1) hh i2 l2 D.l2i2 ys;unfold pyNext;refine qc (wpAny_attempt (jh6 (name:=Str.ofString "__next__") hT F.slot_zip_next (jn1 F.slot_zip_next hT F.entry_zip_next
  (mO (apart2 D) D1 D2 hz hTI hTO ⟨h1,t1⟩ ⟨h2,t2⟩ hk fun h' tk e q ⟨o,ho,hc⟩=>?_) (F.args_zip_next_1 _))))
 refine qc (wpAny_isInstance (T:="StopIteration") (b:=true) ⟨o,ho,hc⟩ isSubtype_stop ?_);exact xp (hQ _ _ q)
end
noncomputable def sO(K:Fr)(a b:Addr)(c:Bool):It:=
 ⟨fun i H=>∃xs ys x y,SqA K H a xs c/\SqL K H b ys/\xs[i]?=some x/\ys[i]?=some y,
  fun i H v H'=>∃T x y,H T=none/\v=.ref T/\H'=upd H T (.tup [x,y])/\∀xs ys,SqA K H a xs c->SqL K H b ys->xs[i]?=some x/\ys[i]?=some y,
  fun i H=>∃xs ys,SqA K H a xs c/\SqL K H b ys/\i=min xs.length ys.length⟩
noncomputable def ABZ(c:Bool)(z TI TO i1 i2 a b:Addr)(i:Nat)(h:Heap):Prop:=
 IsZip h z TI TO .none/\IsPair h TI (.ref i1) (.ref i2)/\(∃p q,IsPair h TO p q)/\ItA h i1 a i c/\h.IsListIter i2 b i
theorem jG{P:Program}{w:World}{K:Fr}{es:List Expr}{kk:Nat}{pos:Pos}{c:Bool}(z TI TO i1 i2 a b:Addr)(D:ZipApart z TI TO i1 i2 a b):
 Turn P w K (.Tuple es kk pos) (sO K a b c) [z,TI,TO,i1,i2] z (ABZ c z TI TO i1 i2 a b) where
 mem:=by simp
 obj:=fun i h st c hc=>by
  obtain⟨h1,h2,⟨p,q,h3⟩,h4,⟨o5,e5,_,d5⟩⟩:=st;simp only[qv,yi,or_false] at hc;rcases hc with rfl | rfl | rfl | rfl | rfl
  ·exact⟨_,h1,fun v z=>by cases z⟩
  ·exact⟨_,h2,fun v z=>by cases z⟩
  ·exact⟨_,h3,fun v z=>by cases z⟩
  ·exact h4.get
  ·exact⟨_,e5,fun v z=>by rw[d5] at z;cases z⟩
 keep:=fun i h h' st k=>by
  obtain⟨h1,h2,⟨p,q,h3⟩,h4,h5⟩:=st;exact⟨k z (by simp) _ h1,k TI (by simp) _ h2,⟨p,q,k TO (by simp) _ h3⟩,h4.at fun o e=>k i1 (by simp) o e,h5.at fun o e=>k i2 (by simp) o e⟩
 item:=by
  intro X hP hw hK hc i pins s Z H E I hf st hg;subst hP hw hK;obtain⟨xs,ys,x,y,qa,qb,ex,ey⟩:=hg;obtain⟨us,ra,pa⟩:=I.seqA qa;obtain⟨ws,rb,pb,_⟩:=I.list qb;obtain⟨u,hu,ru⟩:=ra.get ex;obtain⟨v,hv,rv⟩:=rb.get ey;obtain⟨h1,h2,⟨p,q,h3⟩,h4,h5⟩:=st;refine AAf (xs:=us.toArray) (ys:=ws.toArray) (I.ok.hd hc) D h1 h2 h3 h4 h5 pa pb.isList (by simpa using hu) (by simpa using hv) fun h' tk a1 a2 a3 a4 a5 a6=>?_;have lt:∀{c o},s.heap.get? c=some o->s.heap.objs.size≠c:=fun e=>Nat.ne_of_gt (xb e);refine⟨.ref s.heap.objs.size,rfl,wpAny_letOwnedTupleGo_zip a1 fun g2 z2 k2=>?_⟩;have hn:H s.heap.objs.size=none:=I.hok.fresh (qq _);have k3:∀c o,c∉[z,TO,i1,i2]->s.heap.get? c=some o->g2.get? c=some o:=fun c o hc e=>by
   simp only[qv,yi,or_false,not_or] at hc;exact k2.extBut c o hc.1 (a6 c o hc.1 hc.2.1 hc.2.2.1 hc.2.2.2 e)
  refine⟨.ref s.heap.objs.size,upd H s.heap.objs.size (.tup [x,y]),I.turnedNew (ch:=[z,TO,i1,i2]) k3 (fun c hc=>hf c ?_) (qq _) ⟨?_,[u,v],.cons ru (.cons rv .nil),⟨_,k2.extBut _ _ (lt h1) a5,rfl,_,rfl⟩⟩,rfl,⟨_,x,y,hn,rfl,rfl,fun xs' ys' qa' qb'=>?_⟩,?_,fun c hc=>?_⟩
  ·simp only[qv,yi,or_false] at hc ⊢;rcases hc with h | h | h | h
   ·exact .inl h
   ·exact .inr (.inr (.inl h))
   ·exact .inr (.inr (.inr (.inl h)))
   ·exact .inr (.inr (.inr (.inr h)))
  ·show 2<=sizeLine;rw[sizeLine_eq];decide
  ·rw[I.injA qa' qa,I.list_inj qb' qb];exact⟨ex,ey⟩
  ·exact⟨z2,k3 _ _ (by simp[D.TIz,D.TITO,D.TIi1,D.TIi2]) h2,⟨_,_,k2.extBut _ _ D.TOz a2⟩,a3.at fun o e=>k2.extBut _ _ D.i1z e,a4.at fun o e=>k2.extBut _ _ D.i2z e⟩
  ·have hlt:s.heap.objs.size≠c:=by
    simp only[qv,yi,or_false] at hc;obtain⟨o4,e4,_⟩:=h4.get;obtain⟨o5,e5,_⟩:=h5;rcases hc with rfl | rfl | rfl | rfl | rfl
    ·exact lt h1
    ·exact lt h2
    ·exact lt h3
    ·exact lt e4
    ·exact lt e5
   rw[BK hlt.symm];exact(hf c hc).1
 done:=by
  intro X hP hw hK hc i pins s Z H E I hf st hg;subst hP hw hK;obtain⟨xs,ys,qa,qb,e⟩:=hg;obtain⟨us,ra,pa⟩:=I.seqA qa;obtain⟨ws,rb,pb,_⟩:=I.list qb;have la:=ra.length;have lb:=rb.length;obtain⟨h1,h2,⟨p,q,h3⟩,h4,h5⟩:=st;refine ABH (xs:=us.toArray) (ys:=ws.toArray) (I.ok.hd hc) D h1 h2 h3 h4 h5 pa pb.isList (by simp;lia) fun h' tk k=>⟨rfl,I.turnedL (ch:=[z,TO,i1,i2]) (fun c o hc e=>?_) fun c hc=>hf c ?_⟩
  ·simp only[qv,yi,or_false,not_or] at hc;exact k c o hc.1 hc.2.1 hc.2.2.1 hc.2.2.2 e
  simp only[qv,yi,or_false] at hc ⊢;rcases hc with h | h | h | h
  ·exact .inl h
  ·exact .inr (.inr (.inl h))
  ·exact .inr (.inr (.inr (.inl h)))
  ·exact .inr (.inr (.inr (.inr h)))
 self:=fun _ _ _ _ _ st h=>wpAny_pyIter_zip st.1 h
noncomputable abbrev zLL(h:Heap)(a:Addr):Heap:=h.push { cls:=.type "list_iterator",data:=.fields #[.ref a,.int 0 0] }
noncomputable abbrev zL3(h:Heap)(a b:Addr):Heap:=(zLL (zT1 h a) b).push { cls:=.type "tuple",data:=.seq #[.ref h.objs.size,.ref (zT1 h a).objs.size] }
noncomputable abbrev zL4(h:Heap)(a b:Addr):Heap:=(zL3 h a b).push { cls:=.type "tuple",data:=.seq #[.none,.none] }
noncomputable abbrev zL5(h:Heap)(a b:Addr):Heap:=(zL4 h a b).push { cls:=.type "zip",data:=.fields #[.none,.bool false,.bool false,.ref (zLL (zT1 h a) b).objs.size,.ref (zL3 h a b).objs.size] }
theorem dO(l1 l2:Addr)(xs ys:Array Value):
 Meets (Builtin.«zip.__new__» ⟨[.type "zip",.ref l1,.ref l2],[]⟩) (fun _ R s=>s.heap.IsTuple l1 xs/\s.heap.IsList l2 ys/\R (.ok (.ret (.ref (zL4 s.heap l1 l2).objs.size))) { s with heap:=zL5 s.heap l1 l2 }):=
 .of_wp fun prog w A R s h=>by
  obtain⟨hp,g,d,tk,os⟩:=s;obtain⟨t1,t2,h⟩:=h;have hsub:=sub_zip;have hL1:Heap.IsTuple (Shared.heap ⟨hp,g,d,tk,os⟩) l1 xs:=t1;have hL2:Heap.IsList (Shared.heap ⟨hp.push { cls:=.type "tuple_iterator",data:=.fields #[.ref l1,.int 0 0] },g,d,tk,os⟩) l2 ys:=t2.at fun o e=>qf _ e
  wp_walk using wpAny_pyIter_tuple hL1,jm0 hL2
  exact⟨_,rfl,h⟩
theorem lM{prog:Program}{w:World}{A:Around}{E:Value->Shared->Prop}{s:Shared}{l1 l2:Addr}{xs ys:Array Value}{Q:Value->Shared->Prop}(t1:s.heap.IsTuple l1 xs)(t2:s.heap.IsList l2 ys)
 (h:∀h',IsZip h' (s.heap.objs.size+4) (s.heap.objs.size+2) (s.heap.objs.size+3) .none->IsPair h' (s.heap.objs.size+2) (.ref s.heap.objs.size) (.ref (s.heap.objs.size+1))->IsPair h' (s.heap.objs.size+3) .none .none->
  h'.IsTupleIter s.heap.objs.size l1 0->h'.IsListIter (s.heap.objs.size+1) l2 0->(∀c o,s.heap.get? c=some o->h'.get? c=some o)->Q (.ref (s.heap.objs.size+4)) { s with heap:=h' }):
 wpAny (model prog w) A (call (.type "zip") [.ref l1,.ref l2]) Q E s:=by
 refine callType_new F.called_zip (by decide) (F.typeCall_zip_2 _ _) (F.newCall_zip_2 _ _) (fun obj=>F.args_object_init_3 obj _ _) F.entry_zip_new (dO l1 l2 xs ys) ⟨t1,t2,?_⟩;have z1:(zT1 s.heap l1).objs.size=s.heap.objs.size+1:=ji0 ..;have z2:(zLL (zT1 s.heap l1) l2).objs.size=s.heap.objs.size+2:=by rw[ji0,z1]
 have z3:(zL3 s.heap l1 l2).objs.size=s.heap.objs.size+3:=by rw[ji0,z2]
 have z4:(zL4 s.heap l1 l2).objs.size=s.heap.objs.size+4:=by rw[ji0,z3]
 have p1:∀c o,(zL4 s.heap l1 l2).get? c=some o->(zL5 s.heap l1 l2).get? c=some o:=fun c o e=>qf _ e;have p2:∀c o,(zL3 s.heap l1 l2).get? c=some o->(zL5 s.heap l1 l2).get? c=some o:=fun c o e=>p1 c o (qf _ e);have p3:∀c o,(zLL (zT1 s.heap l1) l2).get? c=some o->(zL5 s.heap l1 l2).get? c=some o:=fun c o e=>p2 c o (qf _ e);have p4:∀c o,(zT1 s.heap l1).get? c=some o->(zL5 s.heap l1 l2).get? c=some o:=fun c o e=>p3 c o (qf _ e);have g5:(zL5 s.heap l1 l2).get? (zL4 s.heap l1 l2).objs.size=some _:=xa _ rfl;have g4:(zL5 s.heap l1 l2).get? (zL3 s.heap l1 l2).objs.size=some _:=p1 _ _ (xa _ rfl);have g3:(zL5 s.heap l1 l2).get? (zLL (zT1 s.heap l1) l2).objs.size=some _:=p2 _ _ (xa _ rfl);have g2:(zL5 s.heap l1 l2).get? (zT1 s.heap l1).objs.size=some _:=p3 _ _ (xa _ rfl);have g1:(zL5 s.heap l1 l2).get? s.heap.objs.size=some _:=p4 _ _ (xa _ rfl);show _/\_;rw[z2,z3,z4] at g5;rw[z1,z2] at g3;rw[z3] at g4;rw[z1] at g2;rw[z4];exact⟨⟨_,g5,rfl⟩,h _ g5 g3 g4 ⟨_,g1,rfl,rfl⟩ ⟨_,g2,rfl,rfl⟩ fun c o x=>p4 c o (qf _ x)⟩
theorem lO{prog:Program}{w:World}{A:Around}{E:Value->Shared->Prop}{s:Shared}{l1 l2:Addr}{xs ys:Array Value}{Q:Value->Shared->Prop}{c:Bool}(t1:IsA s.heap l1 xs c)(t2:s.heap.IsList l2 ys)
 (h:∀h',IsZip h' (s.heap.objs.size+4) (s.heap.objs.size+2) (s.heap.objs.size+3) .none->IsPair h' (s.heap.objs.size+2) (.ref s.heap.objs.size) (.ref (s.heap.objs.size+1))->IsPair h' (s.heap.objs.size+3) .none .none->
  ItA h' s.heap.objs.size l1 0 c->h'.IsListIter (s.heap.objs.size+1) l2 0->(∀y o,s.heap.get? y=some o->h'.get? y=some o)->Q (.ref (s.heap.objs.size+4)) { s with heap:=h' }):
 wpAny (model prog w) A (call (.type "zip") [.ref l1,.ref l2]) Q E s:=by
 cases c
 ·exact call_zip_2 t1 t2 fun h' hz hTI hTO hi1 hi2 _ hk=>h h' hz hTI hTO hi1 hi2 hk
 ·exact lM t1 t2 h
noncomputable def yJ(c:Bool)(K:Fr)(ta:TA):TI:=fun Z H R=>ta Z H fun vs H1=>∃a b,vs=[.ref a,.ref b]/\(∃xs ys,SqA K H1 a xs c/\SqL K H1 b ys)/\R (sO K a b c) H1
section
variable{X:Cx}
theorem gf{c:Bool}{a b:Expr}{ta:TA}{p pos:Pos}{es:List Expr}{kk:Nat}{tp:Pos}(hg:Gl X "zip")(hm:X.mg "zip"=none)(ha:PA X [a,b] ta)(hs:‹starEach [a,b] X.env=[(false,eval a X.env),(false,eval b X.env)]›)(hs2:‹starEach [b] X.env=[(false,eval b X.env)]›):
 PI X (.Tuple es kk tp) (.Call (.Name "zip" p) [a,b] [] pos) (yJ c X.K ta):=by
 intro pins s Z H R I h;refine Call_ (Iu I hg hm boot_zip (ko (thn (ha (pos:=pos) pins s Z H _ I h) fun us s1 ⟨vs,H1,I1,r1,q1⟩=>?_) (by rw[hs,hs2]) (by rw[hs2];rfl)));obtain⟨x,y,e,⟨xs,ys,qa,qb⟩,q⟩:=q1;subst e;obtain⟨ia,ra,pa⟩:=I1.seqA qa;obtain⟨ib,rb,pb,_⟩:=I1.list qb;cases r1 with
 | cons r rr=>
  cases rr with
  | cons r' rr=>
   cases rr;cases (show _=Value.ref x from r);cases (show _=Value.ref y from r');refine lO pa pb.isList fun h' hz hTI hTO hi1 hi2 hk=>?_;refine wpAny_pyIter_zip hz ?_;refine⟨_,_,_,_,H1,rfl,I1.kept (t':=s1.toks) fun c o e=>hk c o e,jG _ _ _ _ _ x y (yV pa.lt (let ⟨_,e,_⟩:=pb.isList;xb e)),⟨hz,hTI,⟨_,_,hTO⟩,hi1,hi2⟩,fun c hc=>?_,q⟩;have hcs:s1.heap.objs.size<=c:=by
    simp only[qv,yi,or_false] at hc;rcases hc with rfl | rfl | rfl | rfl | rfl
    ·exact jb6 _ _
    ·exact jb6 _ _
    ·exact jb6 _ _
    ·exact qq _
    ·exact jb6 _ _
   exact I1.fpOk hcs (I1.hok.fresh hcs)
end
theorem gR{K:Fr}{ta:TA}{Z:St}{H:Hp}{R:It->Hp->Prop}{c:Bool}(h:ta Z H fun vs H1=>∃a b,vs=[.ref a,.ref b]/\(∃xs ys,SqA K H1 a xs c/\SqL K H1 b ys)/\R (sO K a b c) H1):yJ c K ta Z H R:=h
noncomputable def KD(P:Program)(w:World)(K:Fr)(a:Addr)(kvs:List (Key×V)):Prop:=
 (a==sysModules)=false/\∀h:Heap,K.In h->∃vs,KV kvs vs/\h.DictOf (FN P w) a vs
noncomputable def esK(p:Params)(l:List (Str×Tok×Addr)):List DictEntry:=l.map fun x=>⟨PyData.keyHash p x.1,.str x.1 x.2.1,.ref x.2.2⟩
theorem gn(P:Program)(w:World)(p:Params):∀l:List (Str×Tok×Addr),Pairs (FN P w) (esK p l) (l.map fun x=>(Sum.inr x.1,Value.ref x.2.2))
 | []=>.nil
 | x::l=>.cons (KQ P w x.1 x.2.1) rfl (gn P w p l)
theorem ACz:∀l:List (Str×Tok×Addr),KV (κ:=Key) (l.map fun x=>(Sum.inr x.1,V.ref x.2.2)) (l.map fun x=>(Sum.inr x.1,Value.ref x.2.2))
 | []=>.nil
 | x::l=>.cons ⟨rfl,rfl⟩ (ACz l)
theorem yF{P:Program}{w:World}{K:Fr}{a:Addr}{n:Nat}(l:List (Str×Tok×Addr))(e:K.lookup a=some ⟨.type "dict",none,.dict (esK w.params l).toArray n,#[]⟩)(nd:(l.map (·.1)).Nodup)(hs:(a==sysModules)=false):
 KD P w K a (l.map fun x=>(Sum.inr x.1,V.ref x.2.2)):=
 ⟨hs,fun h X=>⟨_,ACz l,_,_,_,X _ _ e,⟨rfl,rfl,rfl⟩,rfl,fun d hd=>by
  have hd:d∈esK w.params l:=by simpa using hd
  obtain⟨x,hx,rfl⟩:=ka.mp hd;exact⟨.inr x.1,KQ P w x.1 x.2.1,rfl⟩,by simpa using gn P w w.params l,by
   rw[kq];exact List.pairwise_map.mpr ((List.pairwise_map.mp nd).imp fun h z=>h (Sum.inr.inj z))⟩⟩
noncomputable def bY(P:Program)(w:World)(K:Fr)(td ty:TE):TE:=fun Z H Q=>td Z H fun x H1=>ty Z H1 fun y H2=>∃a kvs k v,x=.ref a/\KD P w K a kvs/\y=kV k/\Fy kvs k=some v/\Q v H2
noncomputable def f9(neg:Bool)(P:Program)(w:World)(K:Fr)(ty td:TE):TE:=fun Z H Q=>ty Z H fun y H1=>td Z H1 fun x H2=>∃a kvs k,x=.ref a/\KD P w K a kvs/\y=kV k/\Q (.bl (if neg then !(Fy kvs k).isSome else (Fy kvs k).isSome)) H2
section
variable{X:Cx}{o i e:Expr}{pos:Pos}{td ty tf:TE}
theorem Ti(ho:PE X o td)(hi:PE X i ty)(hs:ABd i):PE X (.Subscript o i pos) (bY X.prog X.w X.K td ty):=by
 intro pins s Z H Q I h;refine gD PySem.F.slot_dict_getitem.lookup hs (thn (ho s Z H _ I h) fun u s1 ⟨x,H1,I1,rx,q1⟩=>thn (hi s1 Z H1 _ I1 q1) fun iv s2 hZ=>?_);obtain⟨y,H2,I2,ry,a,kvs,k,v,ex,kd,ey,l,q2⟩:=hZ;subst ex ey;obtain rfl:u=Value.ref a:=rx;obtain⟨vs,rel,dd⟩:=kd.2 _ I2.kIn;obtain⟨w',hw,rw'⟩:=Js.some_of (v:=v) (o:=valueAt vs k) (by rw[<-l];exact rel.val k);exact⟨dd.typeIs,wpAny_getItem_of (Tv ry) dd.mapOf hw ⟨v,H2,I2.tok _,rw',q2⟩⟩
theorem vM(hi:PE X i ty)(ho:PE X o td):PC X .In i o (f9 false X.prog X.w X.K ty td):=by
 intro pins s Z H Q I h;refine thn (hi s Z H _ I h) fun iv s1 ⟨y,H1,I1,ry,q1⟩=>thn (ho s1 Z H1 _ I1 q1) fun u s2 hZ=>?_;obtain⟨x,H2,I2,rx,a,kvs,k,ex,kd,ey,q2⟩:=hZ;subst ex ey;obtain rfl:u=Value.ref a:=rx;obtain⟨vs,rel,dd⟩:=kd.2 _ I2.kIn;refine wpAny_in_of (Tv ry) kd.1 dd.mapOf ?_;rw[<-(rel.val k).isSome_eq];exact⟨.bl _,H2,I2.tok _,rfl,q2⟩
theorem dF(hi:PE X i ty)(ho:PE X o td):PC X .NotIn i o (f9 true X.prog X.w X.K ty td):=by
 intro pins s Z H Q I h;refine thn (hi s Z H _ I h) fun iv s1 ⟨y,H1,I1,ry,q1⟩=>thn (ho s1 Z H1 _ I1 q1) fun u s2 hZ=>?_;obtain⟨x,H2,I2,rx,a,kvs,k,ex,kd,ey,q2⟩:=hZ;subst ex ey;obtain rfl:u=Value.ref a:=rx;obtain⟨vs,rel,dd⟩:=kd.2 _ I2.kIn;refine wpAny_notIn_of (Tv ry) kd.1 dd.mapOf ?_;rw[<-(rel.val k).isSome_eq];exact⟨.bl _,H2,I2.tok _,rfl,q2⟩
theorem ACq:PE X e (fun _ _ _=>False):=fun _ _ _ _ _ _ h=>h.elim
end
section
variable{prog:Program}{w:World}{A:Around}{E:Value->Shared->Prop}{s:Shared}
theorem yP{it l:Addr}{us:Array Value}(ne:l≠it):∀(n i:Nat) (s:Shared) (Q:List Value->Shared->Prop),s.heap.IsListIter it l i->s.heap.IsList l us->i+n<=us.size->
 (∀g,g.IsListIter it l (i+n)->Heap.SameBut it s.heap g->Q ((us.toList.drop i).take n) { s with heap:=g })->wpAny (model prog w) A (draw (.ref it) n) Q E s
 | 0,i,s,Q,ti,_,_,q=>by
  show wpAny _ _ (pure []) Q E s;exact xp (by simpa using q s.heap ti (Heap.SameBut.refl ..))
 | n+1,i,s,Q,ti,tl,le,q=>by
  have lt:i<us.size:=by lia
  show wpAny _ _ (pyNext (.ref it) >>= _) Q E s;refine qc (wpAny_pyNext_list_item ti tl (x:=us[i]) (by simp[lt]) fun g1 t1 b1=>?_);refine qc (jf8 (yP ne n (i+1) _ _ t1 (tl.extBut b1.extBut ne) (by lia) fun g2 t2 b2=>xp ?_));have e:us.toList.drop i=us[i]::us.toList.drop (i+1):=by simp[Xs,lt]
  have z:=q g2 (by rw[show i+(n+1)=i+1+n by lia];exact t2) (b1.trans b2);rw[e,jo2] at z;exact z
theorem AEO{env:Env}{es:List Expr}{k:Nat}{pos:Pos}{l:Addr}{us:Array Value}{Q:Unit->Shared->Prop}(hh:A.handled=none)(tl:s.heap.IsList l us)(hn:(assignEach es env).length=us.size)(hst:(assignEach es env).findIdx? (·.1)=none)
 (q:∀g,Heap.ExtBut s.heap.objs.size s.heap g->wpAny (model prog w) A (assignInOrder ((assignEach es env).map (·.2)) us.toList) Q E { s with heap:=g }):
 wpAny (model prog w) A (assign (.Tuple es k pos) env (.ref l)) Q E s:=by
 have lt:l≠s.heap.objs.size:=by obtain⟨o,ho,_⟩:=tl;exact vx (xb ho)
 rw[arm_assign_Tuple];refine qc (jn4 ?_);unfold unpack;rw[hn,hst];refine qc (jf8 ?_);unfold unpackItems;refine qc ?_;unfold notIterableAtAll;refine qc (wpAny_specialOf tl.typeIs F.slot_list_iter.lookup (xp ?_));simp only[jk3,if_false];have tl1:=tl.at (h':=s.heap.push { cls:=.type "list_iterator",data:=.fields #[.ref l,.int 0 0] }) fun o e=>qf _ e;refine qc (jf8 (jm0 tl (qc (jf8 (yP lt us.size 0 _ _ ⟨_,xa _ rfl,rfl,rfl⟩ tl1 (by lia) fun g1 t1 b1=>?_)))));rw[ji1,xy (by simp),ua (by simp)];refine qc (jf8 (wpAny_pyNext_list_end hh t1 (tl1.extBut b1.extBut lt) (by simp) fun g2 b2=>?_));simp only[Option.isSome_none,jk3,if_false];exact xp (q g2 fun b o hb e=>b2 b o hb (b1.extBut b o hb (qf _ e)))
end
noncomputable def AEH(K:Fr)(n:Nat)(t:TGs):TG:=fun v Z H Q=>∃a xs,v=.ref a/\SqL K H a xs/\xs.length=n/\t xs Z H Q
theorem AAT{X:Cx}{es:List Expr}{k:Nat}{t:TGs}{n:Nat}{pos:Pos}(hc:X.calm=true)(h:PGs X es t)(hn:‹(assignEach es X.env).length=n›)(hst:‹(assignEach es X.env).findIdx? (·.1)=none›):PG X (.Tuple es k pos) (AEH X.K n t):=by
 intro pins s Z H v u Q I r hw;obtain⟨a,xs,rfl,hq,hl,hw⟩:=hw;cases r;obtain⟨its,rv,pl,_⟩:=I.list hq;refine AEO (I.ok.hd hc) pl.isList (by simp[hn,<-hl,rv.length]) hst fun g hx=>?_;exact h _ Z H xs _ Q (I.kept (t':=s.toks) fun b o e=>hx b o (vx (xb e)) e) (by simpa using rv) hw
section
open PySem.Builtin PySem.Builtin.Str
theorem NQ(x:Str)(c L:Nat):∀(n k free:Nat) (acc:Array Nat),k+n=x.length+1->free<=k->acc.size<=L->
 (forIn (List.range' k n) (acc,free) (StrLaws.occBody x ⟨#[c]⟩ x.length L)).run.fst.toList=acc.toList++(plc c k ((cps x).drop k)).take (L-acc.size)
 | 0,k,free,acc,h,_,_=>by
  rw[va (by rw[K7];lia)];show acc.toList=acc.toList++List.take _ [];rw[List.take_nil,uj]
 | n+1,k,free,acc,h,hf,ha=>by
  rw[List.range'_succ,jk7];have one:(⟨#[c]⟩:Str).length=1:=rfl;by_cases full:acc.size=L
  ·have ih:=NQ x c L n (k+1) free acc (by lia) (by lia) ha;unfold StrLaws.occBody;rw[ua fun y=>by have:acc.size<L:=y.1.1.1;lia,show L-acc.size=0 by lia,jp4,uj];rw[show L-acc.size=0 by lia,jp4,uj] at ih;exact ih
  by_cases z:(cps x)[k]?=some c
  ·have kl:k<(cps x).length:=(zn.mp z).1;have hs:=(StrLaws.subAt_one x c k).mpr z;have ed:(cps x).drop k=c::(cps x).drop (k+1):=by
    rw[Xs kl,(zn.mp z).2]
   have ih:=NQ x c L n (k+1) (k+1) (acc.push k) (by lia) (qq _) (by rw[Array.size_push];lia);unfold StrLaws.occBody;rw[ya ⟨⟨⟨by show acc.size<L;lia,hf⟩,hs.1⟩,hs.2⟩,ed];unfold plc;rw[ya rfl,show L-acc.size=(L-(acc.push k).size)+1 by rw[Array.size_push];lia,jo2];have e2:acc.toList++k::(plc c (k+1) ((cps x).drop (k+1))).take (L-(acc.push k).size)=(acc.push k).toList++(plc c (k+1) ((cps x).drop (k+1))).take (L-(acc.push k).size):=by
    rw[Array.toList_push,ke];rfl
   rw[e2];exact ih
  ·have hs:¬(k+(⟨#[c]⟩:Str).length<=x.length/\subAt x ⟨#[c]⟩ k=true):=fun y=>z ((StrLaws.subAt_one x c k).mp y);have ih:=NQ x c L n (k+1) free acc (by lia) (by lia) ha;have ep:plc c k ((cps x).drop k)=plc c (k+1) ((cps x).drop (k+1)):=by
    by_cases kl:k<(cps x).length
    ·rw[Xs kl];have:(cps x)[k]≠c:=fun y=>z (by rw[qo kl,y]);show(if (cps x)[k]=c then _ else _)=_;rw[ua this]
    ·rw[va (by lia),va (by lia)];rfl
   unfold StrLaws.occBody;rw[ua fun y=>hs ⟨y.1.2,y.2⟩,ep];exact ih
theorem X4(c:Nat):∀(p l:List Nat) (k:Nat),c∉p->plc c k (p++c::l)=(k+p.length)::plc c (k+p.length+1) l
 | [],l,k,_=>by show(if c=c then _ else _)=_;rw[ya rfl];rfl
 | a::p,l,k,h=>by
  have ne:a≠c:=fun z=>h (by rw[z];exact jv);show(if a=c then _ else plc c (k+1) (p++c::l))=_;rw[ua ne,X4 c p l (k+1) fun z=>h (qh _ z),qm];rw[show k+1+p.length=k+(p.length+1) by lia]
noncomputable def u9:V->List V->Hp->VK->Prop:=fun x xs H Q=>∃(z:Str) (c:Nat) (A B C:List Nat),x=.str z/\xs=[.str ⟨#[c]⟩,.int 2]/\c<256/\cps z=A++c::(B++c::C)/\c∉A/\c∉B/\z.length<=1000000/\∀l,H l=none->Q (.ref l) (upd H l (.lst [.str ⟨A.toArray⟩,.str ⟨B.toArray⟩,.str ⟨C.toArray⟩]))
theorem ju{X:Cx}:MtR X "str.split" u9:=by
 intro pins s Z H x xs v us Q I rx rs h;obtain⟨z,c,A,B,C,rfl,rfl,hc,ez,hA,hB,hz,q⟩:=h;obtain⟨t,rfl⟩:=(show ∃t,v=Value.str z t from rx);cases rs with
 | cons ru rs=>
  obtain⟨t',rfl⟩:=(show ∃t,_=Value.str ⟨#[c]⟩ t from ru);obtain⟨u,rfl,ru2⟩:=vals1 rs;obtain⟨t2,rfl⟩:=(show ∃t,u=Value.int 2 t from ru2);have zl:z.length=A.length+(B.length+(C.length+1)+1):=by rw[<-K7,ez];simp
  have sl:z.length<=sizeLine:=zw hz (by decide);have k1:PySem.Builtin.Str.strKind (⟨#[c]⟩:Str)=1:=by
   unfold PySem.Builtin.Str.strKind;simp[hc]
  have k0:1<=PySem.Builtin.Str.strKind z:=by
   unfold PySem.Builtin.Str.strKind
   repeat' split
   all_goals lia
  have h1:(decide (z.length<(⟨#[c]⟩:Str).length)||decide (PySem.Builtin.Str.strKind z<PySem.Builtin.Str.strKind ⟨#[c]⟩))=false:=by
   rw[k1,Bool.or_eq_false_iff];exact⟨decide_eq_false (by show ¬z.length<1;lia),decide_eq_false (by lia)⟩
  have eo:occurrences z ⟨#[c]⟩ 0 z.length (limitOf z 2)=[A.length,A.length+1+B.length]:=by
   rw[show limitOf z 2=2 from rfl,StrLaws.occ_eq];have:=NQ z c 2 (z.length+1) 0 0 #[] (by lia) (qq _) (vj _);rw[ji1,ez,X4 c A _ 0 hA,X4 c B _ _ hB] at this;simpa using this
  have ep:partsBetween z (occurrences z ⟨#[c]⟩ 0 z.length (limitOf z 2)) (⟨#[c]⟩:Str).length=[⟨A.toArray⟩,⟨B.toArray⟩,⟨C.toArray⟩]:=by
   rw[eo];show[strSub z 0 A.length,strSub z (A.length+1) (A.length+1+B.length),strSub z (A.length+1+B.length+1) z.length]=_;have e1:strSub z 0 A.length=⟨A.toArray⟩:=Rz (je6.mp (by
    rw[StrLaws.strSub_toList,show z.cps.toList=_ from ez,ji1,Nat.sub_zero,List.take_left'];rfl))
   have e2:strSub z (A.length+1) (A.length+1+B.length)=⟨B.toArray⟩:=Rz (je6.mp (by
    rw[StrLaws.strSub_toList,show z.cps.toList=_ from ez,show A++c::(B++c::C)=(A++[c])++(B++c::C) by simp,List.drop_left' (by simp),show A.length+1+B.length-(A.length+1)=B.length by lia,List.take_left'];rfl))
   have e3:strSub z (A.length+1+B.length+1) z.length=⟨C.toArray⟩:=Rz (je6.mp (by
    rw[StrLaws.strSub_toList,show z.cps.toList=_ from ez,show A++c::(B++c::C)=(A++c::(B++[c]))++C by simp,List.drop_left' (by simp;lia),xy (by lia)]))
   rw[e1,e2,e3]
  refine call_meets F.slot_str_split (typeIs_str _ _ _) F.entry_str_split (F.args_str_split_3 _ _ _) (meets_str_split_sep_max z ⟨#[c]⟩ 2 t t' t2 (by decide) h1 rfl (by rw[eo];rfl) sl (by rw[ep];show 3<=sizeLine;decide)) ?_;rw[ep];exact⟨.ref _,_,I.laid (a:=s.heap.objs.size) (o:=.lst [.str ⟨A.toArray⟩,.str ⟨B.toArray⟩,.str ⟨C.toArray⟩]) (fun _ _ e=>qf _ e) (qq _) ⟨by show 3<=sizeLine;decide,strsFrom s.toks [⟨A.toArray⟩,⟨B.toArray⟩,⟨C.toArray⟩],0,XC [⟨A.toArray⟩,⟨B.toArray⟩,⟨C.toArray⟩] _,xa _ rfl⟩,rfl,q _ I.fresh⟩
end
end L2
namespace L2
open PySem PySem.Spec PyProof.Rows PySem.W
section
variable{X:Cx}{o:Expr}{to:TE}{apos cpos:Pos}
end
end L2
namespace L2
open PySem PySem.Spec PyProof.Rows
noncomputable def JV(mg:Str->Option Value)(L:List (Str×Sp))(tf:TE)(t:TA):TE:=fun Z H Q=>tf Z H fun v H1=>∃f x sp,v=.ref f/\(x,sp)∈L/\mg x=some (.ref f)/\t Z H1 fun vs H2=>sp vs H2 Q E0
section
variable{X:Cx}{o i e:Expr}{pos:Pos}{tf:TE}
theorem pM{k:Nat}{L:List (Str×Sp)}{es:List Expr}{t:TA}{p:Pos}(CV:HW X.prog X.w X.K X.mg X.base k L)(hr:Eu k X.A)(hf:PE X (.Subscript o i p) tf)(ha:PA X (e::es) t)
 (he:‹starEach (e::es) X.env=(false,eval e X.env)::starEach es X.env›)(hpl:‹(backTo pos (starEach es X.env)).any (·.1)=false›):
 PE X (.Call (.Subscript o i p) (e::es) [] pos) (JV X.mg L tf t):=by
 intro pins s Z H Q I h;show wpAny _ _ (do callWith pos (<-eval (.Subscript o i p) X.env) [] (backTo pos (starEach (e::es) X.env)) (backToKw pos (keywordEach [] X.env))) _ _ _;refine qc (thn (hf s Z H _ I h) fun u s1 hZ=>?_);obtain⟨v,H1,I1,rv,f,y,sp,ev,hm,hmg,q1⟩:=hZ;subst ev;obtain rfl:u=Value.ref f:=rv;obtain⟨ps,C⟩:=CV.get hm;obtain⟨f',fd,F,b,kp,m⟩:=C.ex;have ef:f'=f:=by
  rw[hmg] at m;injection m with m;injection m with m;exact m.symm
 subst ef;refine jc8 (h₀:=X.base) I1.ok.mod.kin kp (thn (ha (pos:=pos) pins s1 Z _ _ I1 q1) fun us s2 ⟨vs,H2,I2,r,q⟩=>⟨I2.kIn,?_⟩) he hpl;dsimp only at q;have hl:us.length=ps.length:=by rw[<-r.length];exact F.len _ _ _ _ q
 have hb:=b s2 us I2.kIn (by rw[uj];exact hl);rw[uj] at hb;show wpAny _ _ (call (.ref f') us) _ _ _;refine wpAny_call (jn0 (F.run X.A X.stack s2 H2 ⟨us,[]⟩ us vs Q _ hr I2.env0 hb r q) fun z s' hq=>?_);cases z with
 | error e=>exact False.elim hq
 | ok fl=>
  cases fl with
  | ret u=>exact I2.after hq
  | next=>exact False.elim hq
  | brk=>exact False.elim hq
  | cont=>exact False.elim hq
end
noncomputable def ADZ(K:Fr)(g n q:Str)(st:Stmt)(ds:Array Value):Prop:=∃f fd,PySem.W.nsIn K mainGlobals g=some (some (.ref f))/\Ku K n q st f fd ds
noncomputable def ABe(K:Fr)(C:Addr)(x n q:Str)(st:Stmt)(ds:Array Value):Prop:=∃f fd,PySem.W.findIn K (.ref C) x=some (some (.ref f))/\Ku K n q st f fd ds/\PySem.W.typeIn K (.ref f)=some (.type "function")
noncomputable def ADa(K:Fr)(C:Addr)(x n q:Str)(st:Stmt)(ds:Array Value):Prop:=∃f fd,PySem.W.findCls K (.ref C) (.type "type") x=some (.val (.ref f))/\Ku K n q st f fd ds
noncomputable abbrev Yv(n q:Str)(st:Stmt)(ps:List Str)(dv:List Value)(ds:Array Value)(m:Nat):Prop:=∀(T:Addr) (kV doc pm:Value) (an:Option Addr) (cdv ct:Value) (us:List Value),us.length=m->
 ∃k:Option (Array Value)->Sem (List (Str×Value)),bindArgs (PySem.W.fnOf n q (Ff st) (Dl st) (BZ st) (.ref T) kV doc pm an cdv ct) ⟨us,[]⟩=seqItems? (.ref T) >>= k/\k (some ds)=pure (ps.zip (us++dv))
section
variable{K:Fr}{g n q:Str}{C f T:Addr}{st:Stmt}{oc to:Value}{od an td:Option Addr}{osl ts:Array (Option Value)}{kV doc pm cdv ct:Value}{ds:Array Value}{tn:Nat}
theorem wF(a:PySem.W.nsIn K mainGlobals g=some (some (.ref f)))(l:K.lookup f=some ⟨oc,od,.func (PySem.W.fnOf n q (Ff st) (Dl st) (BZ st) (.ref T) kV doc pm an cdv ct),osl⟩)
 (c:PySem.W.codeIn K cdv q=true)(k:PySem.W.keepIn K (.ref f)=true)(t:K.lookup T=some ⟨to,td,.seq ds tn,ts⟩):ADZ K g n q st ds:=⟨f,_,a,Yc l c k t rfl⟩
theorem wD(a:PySem.W.findIn K (.ref C) g=some (some (.ref f)))(l:K.lookup f=some ⟨oc,od,.func (PySem.W.fnOf n q (Ff st) (Dl st) (BZ st) (.ref T) kV doc pm an cdv ct),osl⟩)
 (c:PySem.W.codeIn K cdv q=true)(k:PySem.W.keepIn K (.ref f)=true)(t:K.lookup T=some ⟨to,td,.seq ds tn,ts⟩)(u:PySem.W.typeIn K (.ref f)=some (.type "function")):ABe K C g n q st ds:=⟨f,_,a,Yc l c k t rfl,u⟩
theorem wG(a:PySem.W.findCls K (.ref C) (.type "type") g=some (.val (.ref f)))(l:K.lookup f=some ⟨oc,od,.func (PySem.W.fnOf n q (Ff st) (Dl st) (BZ st) (.ref T) kV doc pm an cdv ct),osl⟩)
 (c:PySem.W.codeIn K cdv q=true)(k:PySem.W.keepIn K (.ref f)=true)(t:K.lookup T=some ⟨to,td,.seq ds tn,ts⟩):ADa K C g n q st ds:=⟨f,_,a,Yc l c k t rfl⟩
end
section
variable{P:Program}{w:World}{K:Fr}{h:Heap}{mg:Str->Option Value}{base:Heap}{g n q:Str}{C:Addr}{st:Stmt}{ps:List Str}{k:Nat}{sp:Sp}{ds:Array Value}{CX:CXT}{x:Str}
theorem wO(X:K.In h)(G:h.Ns mainGlobals mg)(Q:ADZ K g n q st ds)(b:Yv n q st ps [] ds ps.length)(ok:∀{f:Addr} {fd:FuncData} {ds:Array Value},Ku K n q st f fd ds->FW P w K mg base CX0 k f fd ps sp):Cal P w K mg base k g ps sp:=by
 obtain⟨f,fd,a,F⟩:=Q;exact⟨⟨f,fd,ok F,F.bindsD _ rfl b,F.kp,jh4 X G a⟩⟩
theorem Um(X:K.In h)(G:h.Ns mainGlobals mg)(mk:PySem.W.makesIn K C=true)(kp:PySem.W.keepIn K (.ref C)=true)(nC:PySem.W.nsIn K mainGlobals x=some (some (.ref C)))(Q:ABe K C "__init__" n q st ds)(b:Yv n q st ps [] ds ps.length)
 (ok:∀{f:Addr} {fd:FuncData} {ds:Array Value},Ku K n q st f fd ds->FW P w K mg base CX k f fd ps sp):mL P w K mg base CX k x C ps sp:=by
 obtain⟨f,fd,a,F,u⟩:=Q;exact⟨⟨f,fd,ok F,F.bindsD _ rfl b,⟨mk,a,jc0.mpr u,kp⟩,jh4 X G nC⟩⟩
theorem lV{dv:List Value}{dvs:List V}(m:Nat)(hm:m+dv.length=ps.length)(X:K.In h)(G:h.Ns mainGlobals mg)(mk:PySem.W.makesIn K C=true)(kp:PySem.W.keepIn K (.ref C)=true)(nC:PySem.W.nsIn K mainGlobals x=some (some (.ref C)))(Q:ABe K C "__init__" n q st ds)(b:Yv n q st ps dv ds m)
 (r:Vals dvs dv)(ok:∀{f:Addr} {fd:FuncData} {ds:Array Value},Ku K n q st f fd ds->FW P w K mg base CX k f fd ps sp):sV P w K mg base CX k x C ps dvs sp:=by
 obtain⟨f,fd,a,F,u⟩:=Q;exact⟨⟨f,fd,_,ok F,F.bindsD _ hm b,r,⟨mk,a,jc0.mpr u,kp⟩,jh4 X G nC⟩⟩
theorem rG(X:K.In h)(G:h.Ns mainGlobals mg)(nC:PySem.W.nsIn K mainGlobals x=some (some (.ref C)))(bsp:PySem.W.specialIn K (.ref C) "__getattribute__"=some (some (.builtin "type.__getattribute__")))(brd:PySem.W.readsIn K C (.type "type")=true)(Q:ADa K C "__init__" n q st ds)(b:Yv n q st ps [] ds ps.length)
 (ok:∀{f:Addr} {fd:FuncData} {ds:Array Value},Ku K n q st f fd ds->FW P w K mg base CX0 k f fd ps sp):ABh P w K mg base k x ps sp:=by
 obtain⟨f,fd,a,F⟩:=Q;exact⟨⟨f,C,fd,ok F,F.bindsD _ rfl b,⟨jh4 X G nC,bsp,brd,a,F.kp⟩⟩⟩
end
variable{X:Cx}{x:Str}{p q pos:Pos}{j:Int}{kd:Nat}
theorem pxT(i:Nat)(hN:‹X.N[i]?=some x›)(hv:Vis X.env.scope x:=by first | exact Or.inl rfl | exact Or.inr (Or.inl rfl) | exact Or.inr (Or.inr rfl))(hd:(x==("__debug__":Str))=false:=by decide)
 (hcd:(x==("__classdict__":Str))=false:=by decide):PE X (.Subscript (.Name x p) (.Constant (.int j) kd q) pos) (tOp (vC X.K) (Lw i) (tC (.int j))):=Dy MT (pv i hN hv hd hcd) Ae (fun _ _=>rfl)
theorem pxL(i:Nat)(hN:‹X.N[i]?=some x›)(hv:Vis X.env.scope x:=by first | exact Or.inl rfl | exact Or.inr (Or.inl rfl) | exact Or.inr (Or.inr rfl))(hd:(x==("__debug__":Str))=false:=by decide)
 (hcd:(x==("__classdict__":Str))=false:=by decide):PE X (.Subscript (.Name x p) (.Constant (.int j) kd q) pos) (tOp (vD X.K) (Lw i) (tC (.int j))):=Dy GR (pv i hN hv hd hcd) Ae (fun _ _=>rfl)
end L2
namespace L2
open PySem PySem.W PySem.Spec PyProof.Rows
class Stp (G:Prop) (T:outParam Prop):Prop where
 go:T->G
instance:Stp (ye t u D Z H) (t { D with nx:=u D } Z H):=⟨id⟩
instance:Stp (ABn te D Z H) (te Z H D.rt):=⟨id⟩
instance:Stp (nP te g D Z H) (te Z H fun x H1=>g x Z H1 D.nx):=⟨id⟩
instance:Stp (ABr c t u D Z H) (c Z H fun b H1=>if b=true then t D Z H1 else u D Z H1):=⟨id⟩
instance:Stp (xT D Z H) (D.nx Z H):=⟨id⟩
instance:Stp (xV te D Z H) (te Z H fun _ H1=>D.nx Z H1):=⟨id⟩
instance:Stp (tOp r ta tb Z H Q) (ta Z H fun x H1=>tb Z H1 fun y H2=>r x y H2 Q):=⟨id⟩
instance:Stp (tC v Z H Q) (Q v H):=⟨id⟩
instance:Stp (tUn r ta Z H Q) (ta Z H fun x H1=>r x H1 Q):=⟨id⟩
instance:Stp (nA t Z H Q) (t Z H fun x H'=>∃k,x=.bl k/\Q k H'):=⟨id⟩
instance:Stp (L2.tB t Z H Q) (t Z H fun x H'=>∃k,x=.bl k/\Q k H'):=⟨id⟩
instance:Stp (ABp t Z H Q) (t Z H fun c H1=>Q (!c) H1):=⟨id⟩
instance:Stp (ABv t u Z H Q) (t Z H fun c H1=>if c=true then u Z H1 Q else Q false H1):=⟨id⟩
instance:Stp (tOr t u Z H Q) (t Z H fun c H1=>if c=true then Q true H1 else u Z H1 Q):=⟨id⟩
instance:Stp (xX ta tb Z H Q) (ta Z H fun x H1=>∃c,x=.bl c/\if c=true then tb Z H1 Q else Q (.bl false) H1):=⟨id⟩
instance:Stp (xR ta Z H Q) (ta Z H fun x H1=>∃c,x=.bl c/\Q (.bl (!c)) H1):=⟨id⟩
instance:Stp (bZ r r' ta tb tc Z H Q) (ta Z H fun x H1=>tb Z H1 fun y H2=>r x y H2 fun z H3=>∃k,z=.bl k/\(if k=true then tc Z H3 fun w' H4=>r' y w' H4 Q else Q (.bl false) H3)):=⟨id⟩
instance:Stp (gB sp dvs E t Z H Q) (t Z H fun vs H1=>sp (vs++dvs) H1 Q E):=⟨id⟩
instance:Stp (tCB r t Z H Q) (t Z H fun vs H1=>r vs H1 Q):=⟨id⟩
instance:Stp (Y8 Z H Q) (Q [] H):=⟨id⟩
instance:Stp (xW ta tr Z H Q) (ta Z H fun x H1=>tr Z H1 fun xs H2=>Q (x::xs) H2):=⟨id⟩
instance:Stp (ABl t Z H Q) (t Z H fun xs H1=>xs.length<=sizeLine/\∀p,H1 p=none->Q (.ref p) (upd H1 p (.tup xs))):=⟨id⟩
instance:Stp (uA t Z H Q) (t Z H fun xs H1=>xs.length<=sizeLine/\∀p,H1 p=none->Q (.ref p) (upd H1 p (.lst xs))):=⟨id⟩
instance {K:Fr}:Stp (ABu K T r to Z H Q) (to Z H fun x H1=>tyV K T x H1/\r x [] H1 Q):=⟨id⟩
instance:Stp (V4 C sp dvs E0 t Z H Q) (t Z H fun vs H1=>∀x dx,H1 x=none->H1 dx=none->dx≠x->sp (.ref x::(vs++dvs)) (upd (upd H1 dx (.own x)) x (.ins C dx [])) (fun v H2=>v=.non/\Q (.ref x) H2) E0):=⟨id⟩
instance {K:Fr}:Stp (yg K ta f Z H Q) (ta Z H fun x H1=>∃a C dx fs v,x=.ref a/\H1 a=some (.ins C dx fs)/\Cls K C/\Df K C f/\fs.lookup f=some v/\Q v H1):=⟨id⟩
instance {K:Fr}:Stp (ACc K ta tv f D Z H) (tv Z H fun y H1=>ta Z H1 fun x H2=>∃a C dx fs,x=.ref a/\H2 a=some (.ins C dx fs)/\Cls K C/\Df K C f/\fs.length<1000/\D.nx Z (upd H2 a (.ins C dx (Dh f y fs)))):=⟨id⟩
instance:Stp (Y9 C m sp [] E0 ta t Z H Q) (ta Z H fun x H1=>∃a dx fs,x=.ref a/\H1 a=some (.ins C dx fs)/\fs.lookup m=none/\t Z H1 fun vs H2=>sp (x::(vs++[])) H2 Q E0):=⟨id⟩
instance:Stp (bW L m ta t Z H Q) (ta Z H fun x H1=>∃a C dx fs sp,(C,sp)∈L/\x=.ref a/\H1 a=some (.ins C dx fs)/\fs.lookup m=none/\t Z H1 fun vs H2=>sp (x::(vs++[])) H2 Q E0):=⟨id⟩
instance:Stp (tLR ta Z H Q) (ta Z H fun vs H1=>∃(i j c:Int) (n:Nat),(vs=[.int i,.int j,.int c]\/(vs=[.int i,.int j]/\c=1))/\0<c/\c<1073741824/\Builtin.Range.small i j c=true/\Builtin.Range.rangeSize i j c=(n:Int)/\n<=1000000/\
 ∀l,H1 l=none->Q (.ref l) (upd H1 l (.lst ((List.range n).map fun(k:Nat)=>V.int (i+(k:Int)*c))))):=⟨id⟩
instance:Stp (ABq ta Z H Q) (ta Z H fun vs H1=>∃(i j:Int),vs=[.int i,.int j]/\i<=j/\j-i<=1000000/\
 ∀l,H1 l=none->Q (.ref l) (upd H1 l (.lst ((List.range (j-i).toNat).map fun(k:Nat)=>V.int (i+(k:Int)))))):=⟨id⟩
instance:Stp (tSl r te tl th Z H Q) (te Z H fun x H1=>tl Z H1 fun l H2=>th Z H2 fun u H3=>r x l u H3 Q):=⟨id⟩
instance:Stp (xQ t Z H Q) (t Z H fun x H1=>∃i,x=.int i/\Q (some i) H1):=⟨id⟩
instance:Stp (fu Z H Q) (Q none H):=⟨id⟩
instance:Stp (xP ta Z H Q) (ta Z H fun x H'=>∃i:Int,x=.int i/\Q (i != 0) H'):=⟨id⟩
instance:Stp (ADL to ti t v Z H Q) (to Z H fun o H1=>ti Z H1 fun i H2=>t o i v H2 fun H3=>Q Z H3):=⟨id⟩
instance:Stp (ABo i j ta D Z H) (ta Z H fun vs H1=>∃v w,vs=[v,w]/\D.nx ((Z.set i (some v)).set j (some w)) H1):=⟨id⟩
class StL (N:List Str) (vs:List V) (τ:outParam St):Prop where
 e:start N vs=τ
instance i_st0:StL [] [] []:=⟨rfl⟩
instance i_st1{n:Str}{N:List Str}{v:V}{vs:List V}{τ:St}[h:StL N vs τ]:StL (n::N) (v::vs) (some v::τ):=⟨by
 rw[<-h.e];unfold start;rw[qm,qm,Nat.add_sub_add_right];rfl⟩
instance i_st2{n:Str}{N:List Str}{τ:St}[h:StL N [] τ]:StL (n::N) [] (none::τ):=⟨by
 rw[<-h.e];rfl⟩
class SeL (Z:St) (i:Nat) (v:Option V) (τ:outParam St):Prop where
 e:Z.set i v=τ
instance i_se0{Z:St}{x v:Option V}:SeL (x::Z) 0 v (v::Z):=⟨rfl⟩
instance i_se1{Z τ:St}{x v:Option V}{i:Nat}[h:SeL Z i v τ]:SeL (x::Z) (i+1) v (x::τ):=⟨xk (x:: ·) h.e⟩
class NoL (Z:St) (τ:outParam St):Prop where
 e:Z=τ
instance i_no0:NoL [] []:=⟨rfl⟩
instance i_no1{Z:St}{x:Option V}:NoL (x::Z) (x::Z):=⟨rfl⟩
instance i_no2{N:List Str}{vs:List V}{τ:St}[h:StL N vs τ]:NoL (start N vs) τ:=⟨h.e⟩
instance i_no3{Z τ ρ:St}{v:Option V}{i:Nat}[h:NoL Z τ][g:SeL τ i v ρ]:NoL (Z.set i v) ρ:=⟨by rw[h.e,g.e]⟩
class LoL (Z:St) (i:Nat) (v:outParam V):Prop where
 e:Z[i]?=some (some v)
instance i_lo0{Z:St}{v:V}:LoL (some v::Z) 0 v:=⟨rfl⟩
instance i_lo1{Z:St}{x:Option V}{i:Nat}{v:V}[h:LoL Z i v]:LoL (x::Z) (i+1) v:=⟨h.e⟩
instance i_gname0{i:Nat}{v:V}{Z:St}{H:Hp}{Q:St->Hp->Prop}:Stp (J3 i v Z H Q) (Q (Z.set i (some v)) H):=⟨id⟩
instance i_gname{i:Nat}{v:V}{Z τ ρ:St}{H:Hp}{Q:St->Hp->Prop}[h:NoL Z τ][g:SeL τ i (some v) ρ]:Stp (J3 i v Z H Q) (Q ρ H):=⟨fun z=>by
 show Q (Z.set i (some v)) H
 rwa [h.e,g.e]⟩
instance i_var{i:Nat}{Z τ:St}{H:Hp}{Q:VK}{v:V}[h:NoL Z τ][g:LoL τ i v]:Stp (Lw i Z H Q) (Q v H):=⟨fun z=>MF (h.e ▸ g.e) z⟩
instance:Stp (xU t Z H Q) (t Str.empty Z H Q):=⟨id⟩
instance {K:Fr}:Stp (xO K ta f Z H Q) (ta Z H fun x H1=>∃a C d fs v,x=.ref a/\H1 a=some (ABf a (.ref C) (some d))/\H1 d=some (.xd fs)/\ABa K C/\PySem.W.hasDictIn K C=true/\PySem.W.findIn K (.ref C) f=some none/\fs.lookup f=some v/\Q v H1):=⟨id⟩
instance:Stp (tIf t ta tb Z H Q) (t Z H fun c H1=>if c=true then ta Z H1 Q else tb Z H1 Q):=⟨id⟩
end L2
local macro_rules | `(tactic| fail "l")=> `(tactic| (intro _ _ _ _ h;(repeat (cases h;rename_i h));subst_vars;rfl))
local macro_rules | `(tactic| fail "v")=> `(tactic| ((with_reducible refine' L2.MF ?ev ?_);(case ev=>exact rfl)))
local macro_rules | `(tactic| fail "d")=> `(tactic| (refine' (?fw:L2.Vw _ _) ?pw ?xw;(case pw=>intro h;(repeat1' (first | with_reducible refine L2.Stp.go ?_ | fail "v"));exact h);(case fw=>exact fun _ x=>x)))
local macro_rules | `(tactic| fail"r")=> `(tactic| first | fail"d" | (with_reducible first | refine L2.ACf ?_ | refine L2.ADp ?_) | ((with_reducible refine' L2.ACg ?es ?_);(case es=>exact rfl)) | ((with_reducible refine' L2.ACe ?es ?_);(case es=>exact rfl)) | (with_reducible first | refine L2.gZ ?_ | refine L2.zy ?_ | refine L2.uw ?_ | refine L2.pB ?_ | refine L2.o6 ?_ | refine L2.uy ?_) | ((with_reducible refine' L2.Ds ?ec ?_);(case ec=>first | ((with_reducible show L2.ADc _ _);exact⟨by decide,by decide,by decide⟩) | ((with_reducible show L2.sX _ _);exact L2.Fg (by decide) (by decide)) | (show (0:Int)<_;first | decide | lia | exact L2.pG _))))
local macro_rules | `(tactic| symm)=> `(tactic| repeat fail "r")
local macro_rules | `(tactic| walk_at"fm")=> `(tactic| (repeat (first | exact List.forall_mem_nil _ | refine List.forall_mem_cons.mpr ⟨by with_unfolding_all rfl,?_⟩)))
local macro_rules | `(tactic| walk_at"f")=> `(tactic| ((with_reducible refine L2.Te ?_);(with_reducible first | refine L2.JF ?_ | refine L2.xr ?_ | refine L2.Xx ?_ | refine L2.ux ?_ | refine L2.gW ?_ | refine L2.oZ ?_)))
local macro_rules | `(tactic| walk_at"b0")=> `(tactic| (intro _ _ _ _ _ _ us hl;have h:us=[]:=jc2.mp hl;subst h;rfl))
local macro_rules | `(tactic| walk_at"b1")=> `(tactic| (intro _ _ _ _ _ _ us hl;obtain⟨_,h⟩:=L2.ADx hl;subst h;rfl))
local macro_rules | `(tactic| walk_at"b2")=> `(tactic| (intro _ _ _ _ _ _ us hl;obtain⟨_,_,h⟩:=L2.ADw hl;subst h;rfl))
local macro_rules | `(tactic| walk_at"b3")=> `(tactic| (intro _ _ _ _ _ _ us hl;obtain⟨_,_,_,h⟩:=L2.AAl hl;subst h;rfl))
local macro_rules | `(tactic| walk_at"b4")=> `(tactic| (intro _ _ _ _ _ _ us hl;obtain⟨_,_,_,_,h⟩:=L2.ACy hl;subst h;rfl))
local macro_rules | `(tactic| walk_at"b5")=> `(tactic| (intro _ _ _ _ _ _ us hl;obtain⟨_,_,_,_,_,h⟩:=L2.AAk hl;subst h;rfl))
local macro_rules | `(tactic| walk_at"b6")=> `(tactic| (intro _ _ _ _ _ _ us hl;obtain⟨_,_,_,_,_,_,h⟩:=L2.ADv hl;subst h;rfl))
local macro_rules | `(tactic| walk_at"b7")=> `(tactic| (intro _ _ _ _ _ _ us hl;obtain⟨_,_,_,_,_,_,_,h⟩:=L2.ACx hl;subst h;rfl))
local macro_rules | `(tactic| walk_at"b8")=> `(tactic| (intro _ _ _ _ _ _ us hl;obtain⟨_,_,_,_,_,_,_,_,h⟩:=L2.ADu hl;subst h;rfl))
namespace Fw
inductive Ex2{T0 T1:Type}(p:T0->T1->Prop):Prop where
 | i (x0:T0) (x1:T1) (h:p x0 x1):Ex2 p
inductive Ex3{T0 T1 T2:Type}(p:T0->T1->T2->Prop):Prop where
 | i (x0:T0) (x1:T1) (x2:T2) (h:p x0 x1 x2):Ex3 p
inductive Ex4{T0 T1 T2 T3:Type}(p:T0->T1->T2->T3->Prop):Prop where
 | i (x0:T0) (x1:T1) (x2:T2) (x3:T3) (h:p x0 x1 x2 x3):Ex4 p
inductive Ex5{T0 T1 T2 T3 T4:Type}(p:T0->T1->T2->T3->T4->Prop):Prop where
 | i (x0:T0) (x1:T1) (x2:T2) (x3:T3) (x4:T4) (h:p x0 x1 x2 x3 x4):Ex5 p
inductive Ex6{T0 T1 T2 T3 T4 T5:Type}(p:T0->T1->T2->T3->T4->T5->Prop):Prop where
 | i (x0:T0) (x1:T1) (x2:T2) (x3:T3) (x4:T4) (x5:T5) (h:p x0 x1 x2 x3 x4 x5):Ex6 p
inductive Ex7{T0 T1 T2 T3 T4 T5 T6:Type}(p:T0->T1->T2->T3->T4->T5->T6->Prop):Prop where
 | i (x0:T0) (x1:T1) (x2:T2) (x3:T3) (x4:T4) (x5:T5) (x6:T6) (h:p x0 x1 x2 x3 x4 x5 x6):Ex7 p
inductive Ex8{T0 T1 T2 T3 T4 T5 T6 T7:Type}(p:T0->T1->T2->T3->T4->T5->T6->T7->Prop):Prop where
 | i (x0:T0) (x1:T1) (x2:T2) (x3:T3) (x4:T4) (x5:T5) (x6:T6) (x7:T7) (h:p x0 x1 x2 x3 x4 x5 x6 x7):Ex8 p
inductive Ex9{T0 T1 T2 T3 T4 T5 T6 T7 T8:Type}(p:T0->T1->T2->T3->T4->T5->T6->T7->T8->Prop):Prop where
 | i (x0:T0) (x1:T1) (x2:T2) (x3:T3) (x4:T4) (x5:T5) (x6:T6) (x7:T7) (x8:T8) (h:p x0 x1 x2 x3 x4 x5 x6 x7 x8):Ex9 p
inductive An3(p0 p1 p2:Prop):Prop where
 | i (h0:p0) (h1:p1) (h2:p2):An3 p0 p1 p2
inductive An4(p0 p1 p2 p3:Prop):Prop where
 | i (h0:p0) (h1:p1) (h2:p2) (h3:p3):An4 p0 p1 p2 p3
inductive An5(p0 p1 p2 p3 p4:Prop):Prop where
 | i (h0:p0) (h1:p1) (h2:p2) (h3:p3) (h4:p4):An5 p0 p1 p2 p3 p4
inductive An6(p0 p1 p2 p3 p4 p5:Prop):Prop where
 | i (h0:p0) (h1:p1) (h2:p2) (h3:p3) (h4:p4) (h5:p5):An6 p0 p1 p2 p3 p4 p5
inductive An7(p0 p1 p2 p3 p4 p5 p6:Prop):Prop where
 | i (h0:p0) (h1:p1) (h2:p2) (h3:p3) (h4:p4) (h5:p5) (h6:p6):An7 p0 p1 p2 p3 p4 p5 p6
inductive An8(p0 p1 p2 p3 p4 p5 p6 p7:Prop):Prop where
 | i (h0:p0) (h1:p1) (h2:p2) (h3:p3) (h4:p4) (h5:p5) (h6:p6) (h7:p7):An8 p0 p1 p2 p3 p4 p5 p6 p7
inductive An9(p0 p1 p2 p3 p4 p5 p6 p7 p8:Prop):Prop where
 | i (h0:p0) (h1:p1) (h2:p2) (h3:p3) (h4:p4) (h5:p5) (h6:p6) (h7:p7) (h8:p8):An9 p0 p1 p2 p3 p4 p5 p6 p7 p8
inductive xK(p0 p1 p2 p3 p4 p5 p6 p7 p8 p9:Prop):Prop where
 | i (h0:p0) (h1:p1) (h2:p2) (h3:p3) (h4:p4) (h5:p5) (h6:p6) (h7:p7) (h8:p8) (h9:p9):xK p0 p1 p2 p3 p4 p5 p6 p7 p8 p9
theorem Ma(r d:Int)(hd:d≠0):0<=r.fmod d*d/\(r.fmod d).natAbs<d.natAbs:=by
 rcases(by omega:0<d\/d<0) with h | h
 ·have a:=jl2 r h;have b:=Int.fmod_lt_of_pos r h;exact⟨jd3 a (Jn h),by omega⟩
 ·have e:r.fmod d= -((-r).fmod (-d)):=by
   rw[Int.fmod_def,Int.fmod_def,Int.neg_fdiv_neg,jn8];omega
  have a:=jl2 (-r) (b:= -d) (by omega);have b:=Int.fmod_lt_of_pos (-r) (b:= -d) (by omega);rw[e];generalize (-r).fmod (-d)=z at*
  refine⟨?_,by omega⟩;have:=jd3 a (show 0<= -d by omega);rw[jn8];rw[Int.mul_neg] at this;omega
structure EqI(a b u v r u' v' r':Int):Prop where
 e1:u*a+v*b=r
 e2:u'*a+v'*b=r'
 g:Int.gcd r r'=Int.gcd a b
 ph:(u=1/\v=0/\r=a/\u'=0/\v'=1/\r'=b)\/
  (b≠0/\r≠0/\0<=r'*r/\r.natAbs<=b.natAbs/\r'.natAbs<=b.natAbs/\u'.natAbs*r.natAbs+u.natAbs*r'.natAbs<=b.natAbs/\u.natAbs<=b.natAbs+1)
theorem EqI.start(a b:Int):EqI a b 1 0 a 0 1 b:=⟨by lia,by lia,rfl,.inl ⟨rfl,rfl,rfl,rfl,rfl,rfl⟩⟩
theorem KN(u q x:Int):(u-q*x).natAbs<=u.natAbs+q.natAbs*x.natAbs:=by
 have h:=Int.natAbs_sub_le u (q*x);rw[jm1] at h;exact h
variable{r:Int}
theorem SX{d:Int}(hd:d≠0)(hs:0<=d*r):(r-r.fdiv d*d).natAbs+(r.fdiv d).natAbs*d.natAbs=r.natAbs:=by
 have e:r.fmod d+r.fdiv d*d=r:=jm3 r d;have e2:r-r.fdiv d*d=r.fmod d:=by omega
 rw[e2,<-jm1];have fs:=Ma r d hd;rcases(by omega:0<d\/d<0) with h | h
 ·have r0:0<=r:=by
   rcases(by omega:0<=r\/r<0) with z | z
   ·exact z
   ·have:=Int.mul_neg_of_pos_of_neg h z;omega
  have q0:0<=r.fdiv d:=Int.fdiv_nonneg r0 (Jn h);have a:=jl2 r h;have p:=jd3 q0 (Jn h);omega
 ·have r0:r<=0:=by
   rcases(by omega:r<=0\/0<r) with z | z
   ·exact z
   ·have:=Int.mul_neg_of_neg_of_pos h z;omega
  have q0:0<=r.fdiv d:=Int.fdiv_nonneg_of_nonpos_of_nonpos r0 (Jn h);have a:r.fmod d<=0:=by
   rcases(by omega:r.fmod d<=0\/0<r.fmod d) with z | z
   ·exact z
   ·have:=Int.mul_neg_of_pos_of_neg z h;omega
  have p:=jd3 q0 (show 0<= -d by omega);rw[Int.mul_neg] at p;omega
variable{a:Int}
theorem EqI.step{b u v u' v' r':Int}(I:EqI a b u v r u' v' r')(h:r'≠0):
 EqI a b u' v' r' (u-r.fdiv r'*u') (v-r.fdiv r'*v') (r-r.fdiv r'*r')/\(r-r.fdiv r'*r').natAbs<r'.natAbs:=by
 have e:r.fmod r'+r.fdiv r'*r'=r:=jm3 r r';have e2:r-r.fdiv r'*r'=r.fmod r':=by lia
 have fs:=Ma r r' h;refine⟨⟨I.e2,?_,?_,?_⟩,by rw[e2];exact fs.2⟩
 ·have:=I.e1;have:=I.e2
  grind
 ·rw[Int.gcd_sub_mul_right_right,Int.gcd_comm];exact I.g
 ·right;rcases I.ph with ⟨h1,h2,h3,h4,h5,h6⟩ | ⟨hb,hr,hs,l1,l2,l3,l4⟩
  ·subst h1 h2 h3 h4 h5 h6;refine⟨h,h,by rw[e2];exact fs.1,qq _,by rw[e2];lia,?_,by simp⟩;simp
  ·have q:=SX h hs;refine⟨hb,h,by rw[e2];exact fs.1,l2,by rw[e2];lia,?_,?_⟩
   ·have m:=KN u (r.fdiv r') u';generalize (r-r.fdiv r'*r').natAbs=A at*
    generalize (u-r.fdiv r'*u').natAbs=B at*
    generalize (r.fdiv r').natAbs=C at*
    have k1:B*r'.natAbs<=(u.natAbs+C*u'.natAbs)*r'.natAbs:=jj5 _ m;have k2:(u.natAbs+C*u'.natAbs)*r'.natAbs+u'.natAbs*A=u.natAbs*r'.natAbs+u'.natAbs*(A+C*r'.natAbs):=by grind
    rw[q] at k2;lia
   ·have:u'.natAbs*1<=u'.natAbs*r.natAbs:=jh2 _ (by lia);lia
theorem v_bound{b u v:Int}(hb:b≠0)(e:u*a+v*b=r)(l1:r.natAbs<=b.natAbs)(l4:u.natAbs<=b.natAbs+1):v.natAbs<=1+2*a.natAbs:=by
 have e1:v*b=r-u*a:=by lia
 have h:=KN r u a;rw[<-e1,jm1] at h;have hb':0<b.natAbs:=by lia
 have k:u.natAbs*a.natAbs<=(b.natAbs+1)*a.natAbs:=jj5 _ l4;have k2:a.natAbs*1<=a.natAbs*b.natAbs:=jh2 _ hb';have k3:v.natAbs*b.natAbs<=(1+2*a.natAbs)*b.natAbs:=by grind
 exact Nat.le_of_mul_le_mul_right k3 hb'
theorem EqI.bounds{b u v u' v' r':Int}(I:EqI a b u v r u' v' r'):
 u.natAbs<=b.natAbs+1/\v.natAbs<=1+2*a.natAbs/\u'.natAbs<=b.natAbs+1/\v'.natAbs<=1+2*a.natAbs/\r.natAbs<=a.natAbs+b.natAbs/\r'.natAbs<=b.natAbs:=by
 rcases I.ph with ⟨h1,h2,h3,h4,h5,h6⟩ | ⟨hb,hr,hs,l1,l2,l3,l4⟩
 ·subst h1 h2 h3 h4 h5 h6;refine⟨by simp,by simp,by simp,by simp,by lia,by lia⟩
 ·have:u'.natAbs*1<=u'.natAbs*r.natAbs:=jh2 _ (by lia);have lu:u'.natAbs<=b.natAbs+1:=by lia
  exact⟨l4,v_bound hb I.e1 l1 l4,lu,v_bound hb I.e2 l2 lu,by lia,l2⟩
theorem cZ{d:Int}(hd:d≠0):(r.fdiv d).natAbs<=r.natAbs+1:=by
 have e:r.fmod d+r.fdiv d*d=r:=jm3 r d;have fs:=(Ma r d hd).2;have h:(r.fdiv d*d).natAbs<=r.natAbs+(r.fmod d).natAbs:=by omega
 rw[jm1] at h;have d1:1<=d.natAbs:=by omega
 generalize (r.fdiv d).natAbs=x at*
 generalize d.natAbs=y at*
 generalize r.natAbs=z at*
 rcases(by omega:x<=1\/2<=x) with c | c
 ·omega
 ·obtain⟨k,rfl⟩:∃k,x=k+1:=⟨x-1,by omega⟩;have:(k+1)*y=k*y+y:=jp2 k y;have:k*1<=k*y:=jh2 k d1;omega
structure Eqn(a b u v g:Int):Prop where
 eq:u*a+v*b=g
 gd:g=(Int.gcd a b:Int)
 bu:u.natAbs<=b.natAbs+1
 bv:v.natAbs<=1+2*a.natAbs
theorem EqI.done{b u v u' v':Int}(I:EqI a b u v r u' v' 0):(r<0->Eqn a b (-u) (-v) (-r))/\(¬r<0->Eqn a b u v r):=by
 have g:=I.g;rw[Int.gcd_zero_right] at g;have B:=I.bounds;refine⟨fun h=>⟨?_,by lia,by lia,by lia⟩,fun h=>⟨I.e1,by lia,B.1,B.2.1⟩⟩;have:=I.e1;rw[jn8,jn8];lia
theorem K6{b:Int}(ha:0<a):0<(Int.gcd a b:Int):=by
 have:Int.gcd a b≠0:=fun z=>by
  have:=Int.eq_zero_of_gcd_eq_zero_left z;lia
 lia
theorem dw{b:Int}(ha:0<a):(Int.gcd a b:Int)<=a:=jn3 ha (je8 ..)
noncomputable def Ci(a b:Int):Int:=a/(Int.gcd a b:Int)*b
theorem Bv{b:Int}(ha:0<a)(hb:0<b):
 0<Ci a b/\a∣Ci a b/\b∣Ci a b/\Ci a b*(Int.gcd a b:Int)=a*b/\(∀t,a∣t->b∣t->Ci a b∣t)/\Ci a b=(Int.lcm a b:Int):=by
 have gp:=K6 (b:=b) ha;obtain⟨x,hx⟩:(Int.gcd a b:Int)∣a:=je8 ..;obtain⟨y,hy⟩:(Int.gcd a b:Int)∣b:=jg1 ..;have e1:a/(Int.gcd a b:Int)=x:=by
  have gne:(Int.gcd a b:Int)≠0:=by lia
  generalize hg:(Int.gcd a b:Int)=g at*
  rw[hx];exact jg2 x gne
 have e:Ci a b=x*b:=by unfold Ci;rw[e1]
 have pr:Ci a b*(Int.gcd a b:Int)=a*b:=by rw[e];conv=>rhs;rw[hx]
                                          grind
 have pl:(Int.lcm a b:Int)*(Int.gcd a b:Int)=a*b:=by
  have h:=Int.gcd_mul_lcm a b;have h2:((Int.gcd a b*Int.lcm a b:Nat):Int)=((a.natAbs*b.natAbs:Nat):Int):=by rw[h]
  rw[jn7,jn7,Int.natAbs_of_nonneg (Jn ha),Int.natAbs_of_nonneg (Jn hb)] at h2;rw[ub];exact h2
 have el:Ci a b=(Int.lcm a b:Int):=Int.eq_of_mul_eq_mul_right (by lia:(Int.gcd a b:Int)≠0) (pr.trans pl.symm);refine⟨?_,?_,?_,pr,?_,el⟩
 ·have:0<Ci a b*(Int.gcd a b:Int):=by rw[pr];exact Int.mul_pos ha hb
  exact Int.pos_of_mul_pos_left this gp
 ·rw[el];exact Int.dvd_lcm_left ..
 ·rw[el];exact Int.dvd_lcm_right ..
 ·intro t h1 h2;rw[el];exact Int.coe_lcm_dvd h1 h2
theorem WQ{b:Int}(ha:0<a)(hb:0<b):Ci a b=Ci b a:=by
 rw[(Bv ha hb).2.2.2.2.2,(Bv hb ha).2.2.2.2.2,Int.lcm_comm]
theorem vg{b:Int}(ha:0<a)(hb:0<b):Ci a b<=a*b:=by
 have f:=Bv ha hb;have gp:=K6 (b:=b) ha;have h:Ci a b*1<=Ci a b*(Int.gcd a b:Int):=jb3 (by lia) (Jn f.1);rw[f.2.2.2.1] at h;lia
noncomputable def On(n:Int)(b:Nat)(d:Int):Bool:=b.testBit (d%n).toNat
theorem ACs(b k:Nat):decide (((b:Nat):Int)/2^k%2=1)=b.testBit k:=by
 rw[Nat.testBit_eq_decide_div_mod_eq];have e:((b:Nat):Int)/2^k%2=((b/2^k%2:Nat):Int):=by
  rw[Int.natCast_emod,Int.natCast_ediv,jg3];rfl
 rw[e,ja1];simp only[decide_eq_true_eq];lia
theorem JD(b k:Nat):((b:Nat):Int)/2^k=((b >>> k:Nat):Int):=by
 rw[ve,Int.natCast_ediv,jg3];rfl
theorem SM(b k:Nat):((b:Nat):Int)*2^k=((b <<< k:Nat):Int):=by
 rw[Nat.shiftLeft_eq,jn7,jg3];rfl
theorem km(k:Nat):(1:Int)*2^k-1=((2^k-1:Nat):Int):=by
 have:0<2^k:=ki k;rw[Int.natCast_sub (by lia),jg3];simp
theorem pF(k:Nat):(1:Int)*2^k=((2^k:Nat):Int):=by
 rw[jg3];simp
variable{b:Nat}
theorem high{n i:Nat}(hb:b<2^n)(h:n<=i):b.testBit i=false:=by
 have p:2^n<=2^i:=vc (by decide) h;exact jl4 (by lia)
theorem HS(c w:Nat):c &&& (2^w-1)<2^w:=by
 rw[Nat.and_two_pow_sub_one_eq_mod];exact Nat.mod_lt _ (ki w)
theorem Fi(c w i:Nat)(h:i<w):(c &&& (2^w-1)).testBit i=c.testBit i:=by
 rw[jb0,ji9];simp[h]
noncomputable def lat(n b s:Nat):Nat:=((b <<< s) ||| (b >>> (n-s))) &&& (2^n-1)
theorem dX(n b s:Nat):lat n b s<2^n:=HS _ _
theorem vh{n s i:Nat}(hb:b<2^n)(hs:s<n)(hi:i<n):(lat n b s).testBit i=b.testBit ((i+n-s)%n):=by
 unfold lat;rw[Fi _ _ _ hi,jd4,jm7,jc4];by_cases h:s<=i
 ·have e:(i+n-s)%n=i-s:=by
   have:i+n-s=i-s+n:=by lia
   rw[this,Nat.add_mod_right,jh9 (by lia)]
  rw[e,high hb (show n<=n-s+i by lia)];simp[h]
 ·have e:(i+n-s)%n=n-s+i:=by
   rw[jh9 (by lia)];lia
  rw[e];simp[h]
theorem idx{n d num:Int}(hn:0<n):(((d%n).toNat+n.toNat-(num%n).toNat)%n.toNat)=((d-num)%n).toNat:=by
 have h1:=zh d (show n≠0 by lia);have h2:=qk d hn;have h3:=zh num (show n≠0 by lia);have h4:=qk num hn;have e:(d-num)%n=(d%n+n-num%n)%n:=by
  rw[Int.sub_emod,Int.sub_emod (d%n+n),Int.add_emod_right,Int.emod_emod,Int.emod_emod]
 have h5:=zh (d%n+n-num%n) (show n≠0 by lia);rw[e];have k:(((d%n).toNat+n.toNat-(num%n).toNat:Nat):Int)=d%n+n-num%n:=by lia
 have k2:(n.toNat:Int)=n:=by lia
 have:((((d%n).toNat+n.toNat-(num%n).toNat)%n.toNat:Nat):Int)=(d%n+n-num%n)%n:=by
  rw[Int.natCast_emod,k,k2]
 lia
theorem qM{n:Int}{num d:Int}(hn:0<n)(hb:b<2^n.toNat):On n (lat n.toNat b (num%n).toNat) d=On n b (d-num):=by
 unfold On;have h1:=zh d (show n≠0 by lia);have h2:=qk d hn;have h3:=zh num (show n≠0 by lia);have h4:=qk num hn;rw[vh hb (by lia) (by lia),idx hn]
structure N8(n b w c:Nat):Prop where
 lt:c<2^w
 bit:∀i,i<w->c.testBit i=b.testBit (i%n)
theorem N8.start{n:Nat}(h:b<2^n):N8 n b n b:=⟨h,fun i hi=>by rw[jh9 hi]⟩
theorem N8.dbl{n w c:Nat}(S:N8 n b w c)(hd:n∣w):N8 n b (w*2) (c ||| (c <<< w)):=by
 have e:2^(w*2)=2^w*2^w:=by rw[Nat.mul_two,jl8]
 refine⟨?_,fun i hi=>?_⟩
 ·refine Nat.or_lt_two_pow (xh S.lt (vc (by decide) (by lia))) ?_;rw[Nat.shiftLeft_eq,e];exact Nat.mul_lt_mul_of_pos_right S.lt (ki w)
 ·rw[jd4,jm7];by_cases h:i<w
  ·rw[S.bit i h];simp[Nat.not_le.mpr h]
  ·rw[high S.lt (by lia),S.bit (i-w) (by lia)];obtain⟨k,rfl⟩:=hd;have e2:i=(i-n*k)+n*k:=by lia
   have e3:i%n=(i-n*k)%n:=by conv=>lhs;rw[e2,Nat.add_mul_mod_self_left]
   rw[e3];simp;intro z;lia
theorem N8.cut{n w c z:Nat}(S:N8 n b w c)(h:z<=w):N8 n b z (c &&& (2^z-1)):=
 ⟨HS _ _,fun i hi=>by rw[Fi _ _ _ hi,S.bit i (by lia)]⟩
noncomputable def hit(n:Int)(ds:List Int)(d:Int):Bool:=ds.any fun x=>decide ((d-x)%n=0)
structure RB(n:Int)(ds:List Int)(b:Nat):Prop where
 lt:b<2^n.toNat
 bit:∀d,On n b d=hit n ds d
theorem RB.nil(n:Int):RB n [] 0:=⟨ki _,fun d=>by unfold On hit;simp⟩
theorem W9{n d x:Int}(hn:0<n):(d-x)%n=0<->d%n=x%n:=by
 rw[Int.sub_emod];have h1:=zh d (show n≠0 by lia);have h2:=qk d hn;have h3:=zh x (show n≠0 by lia);have h4:=qk x hn;constructor
 ·intro h;have:=Int.dvd_of_emod_eq_zero h;obtain⟨k,hk⟩:=this;have:k=0:=by
   rcases jl6 k 0 with z | z | z
   ·have:n*k<=n*(-1):=jb3 (by lia) (by lia);lia
   ·exact z
   ·have:n*1<=n*k:=jb3 (by lia) (by lia);lia
  subst this;lia
 ·intro h;rw[h];simp
theorem RB.snoc{n:Int}{ds:List Int}{x:Int}(hn:0<n)(h:RB n ds b):RB n (ds++[x]) (b ||| 2^(x%n).toNat):=by
 have h3:=zh x (show n≠0 by lia);have h4:=qk x hn;refine⟨Nat.or_lt_two_pow h.lt (Nat.pow_lt_pow_right (by decide) (by lia)),fun d=>?_⟩;have h1:=zh d (show n≠0 by lia);have hb:=h.bit d;unfold On hit at*
 rw[jd4,hb,List.any_append,jk1]
 congr 1
 rw[jf4,List.any_nil,jk4,ja1,decide_eq_true_eq,decide_eq_true_eq,W9 hn];lia
noncomputable def cnt(b:Nat):Nat->Nat
 | 0=>0
 | k+1=>cnt b k+(if b.testBit k then 1 else 0)
theorem Ug:∀k,cnt 0 k=0
 | 0=>rfl
 | k+1=>by simp[cnt,Ug k]
theorem Uh(b:Nat):∀k,cnt b (k+1)=b%2+cnt (b/2) k
 | 0=>by
  simp only[cnt,jj8];have:=Nat.mod_two_eq_zero_or_one b;rcases this with h | h<;>simp[h]
 | k+1=>by
  have ih:=Uh b k;rw[cnt,ih];show b%2+cnt (b/2) k+_=b%2+(cnt (b/2) k+_);rw[jd0];lia
noncomputable def CC(n:Int)(b:Nat)(d:Int):Int:=d/n*(cnt b n.toNat:Int)+(cnt b (d%n).toNat:Int)
theorem Jv{n:Int}(hn:0<n)(d:Int):CC n b (d+1)=CC n b d+(if On n b d then 1 else 0):=by
 have h1:=zh d (show n≠0 by lia);have h2:=qk d hn;have h3:=ji5 d n;unfold CC On;by_cases hl:d%n=n-1
 ·have hd:d+1=n*(d/n+1):=by rw[jd9,jc1];lia
  have e1:(d+1)/n=d/n+1:=by rw[hd];exact jg2 _ (by lia)
  have e2:(d+1)%n=0:=by rw[hd];exact Int.mul_emod_right _ _
  have e3:n.toNat=(d%n).toNat+1:=by lia
  rw[e1,e2];show(d/n+1)*(cnt b n.toNat:Int)+((cnt b 0:Nat):Int)=_;have e4:(cnt b n.toNat:Int)=(cnt b (d%n).toNat:Int)+(if b.testBit (d%n).toNat then 1 else 0):=by
   rw[e3,cnt];split<;>simp
  have e5:((cnt b 0:Nat):Int)=0:=rfl;rw[jg9,jc9,e5];lia
 ·have e1:(d+1)/n=d/n:=by
   have:d+1=n*(d/n)+(d%n+1):=by lia
   rw[this,ji4 _ _ (by lia),ja0 (a:=d%n+1) (b:=n) (by lia) (by lia),kz]
  have e2:(d+1)%n=d%n+1:=by
   have:d+1=n*(d/n)+(d%n+1):=by lia
   rw[this,jj3];exact jj2 (by lia) (by lia)
  rw[e1,e2];have e3:(d%n+1).toNat=(d%n).toNat+1:=by lia
  rw[e3,cnt];split<;>simp<;>lia
theorem xJ{n:Int}(hn:0<n)(d:Int):CC n b (d+n)=CC n b d+(cnt b n.toNat:Int):=by
 unfold CC;have e1:(d+n)/n=d/n+1:=by rw[Int.add_ediv_of_dvd_right (jg6 n),Int.ediv_self (by lia)]
 have e2:(d+n)%n=d%n:=Int.add_emod_right d n;rw[e1,e2,jg9,jc9];lia
theorem QS{n:Int}{b:Nat}(hn:0<n)(d:Int):∀k:Nat,CC n b d<=CC n b (d+(k:Int))
 | 0=>by simp
 | k+1=>by
  have ih:=QS (b:=b) hn d k;have e:=Jv (b:=b) hn (d+(k:Int));have:d+((k+1:Nat):Int)=d+(k:Int)+1:=by lia
  rw[this,e];split<;>lia
theorem Jw{n:Int}(hn:0<n){d e:Int}(h:d<=e):CC n b d<=CC n b e:=by
 have:=QS (b:=b) hn d (e-d).toNat
 rwa [show d+((e-d).toNat:Int)=e by lia] at this
theorem qt(c d:Nat):(2*c) &&& (2*d+1)=2*(c &&& d):=by
 refine Qb fun i=>?_;cases i with
 | zero=>rw[jb0];simp[jj8]
 | succ i=>
  rw[jb0,jd0,jd0,jd0,show 2*c/2=c by lia,show(2*d+1)/2=d by lia,show 2*(c &&& d)/2=c &&& d by lia,jb0]
theorem vR(c:Nat):(2*c+1) &&& (2*c)=2*c:=by
 refine Qb fun i=>?_;cases i with
 | zero=>rw[jb0];simp[jj8]
 | succ i=>
  rw[jb0,jd0,jd0,show 2*c/2=c by lia,show(2*c+1)/2=c by lia,Bool.and_self]
theorem iD:∀(k b:Nat),b.testBit k=true->(∀i,i<k->b.testBit i=false)->(b &&& (b-1))+2^k=b
 | 0,b,h,_=>by
  rw[jj8,decide_eq_true_eq] at h;obtain⟨c,rfl⟩:∃c,b=2*c+1:=⟨b/2,by lia⟩;rw[show 2*c+1-1=2*c by lia,vR]
 | k+1,b,h,g=>by
  have g0:=g 0 (by lia);rw[jj8,decide_eq_false_iff_not] at g0;obtain⟨c,rfl⟩:∃c,b=2*c:=⟨b/2,by lia⟩;rw[jd0,show 2*c/2=c by lia] at h;have c0:c≠0:=by
   rintro rfl;rw[jf1] at h;exact Bool.noConfusion h
  have ih:=iD k c h fun i hi=>by
   have:=g (i+1) (by lia)
   rwa [jd0,show 2*c/2=c by lia] at this
  rw[show 2*c-1=2*(c-1)+1 by lia,qt,jp1];lia
theorem AAi(h:b≠0):∃k,b.testBit k=true/\∀i,i<k->b.testBit i=false:=by
 obtain⟨j,hj⟩:=Nat.exists_testBit_of_ne_zero h;have:∀n j,j<=n->b.testBit j=true->∃k,b.testBit k=true/\∀i,i<k->b.testBit i=false:=by
  intro n
  induction n with
  | zero=>
   intro j hj hb;exact⟨j,hb,fun i hi=>by lia⟩
  | succ n ih=>
   intro j hj hb;by_cases c:∃i,i<j/\b.testBit i=true
   ·obtain⟨i,hi,hb'⟩:=c;exact ih i (by lia) hb'
   ·exact⟨j,hb,fun i hi=>by
     cases e:b.testBit i with
     | false=>rfl
     | true=>exact absurd ⟨i,hi,e⟩ c⟩
 exact this j j (qq _) hj
theorem qJ(k:Nat):(2^k).log2=k:=by
 have h0:(2:Nat)^k≠0:=by have:=ki k;lia
 exact Nat.log2_two_pow
theorem qX(h:b≠0):b.testBit b.log2=true/\∀i,b.log2<i->b.testBit i=false:=by
 have h1:=Nat.log2_self_le h;have h2:b<2^(b.log2+1):=Nat.lt_log2_self;constructor
 ·rw[Nat.testBit_eq_decide_div_mod_eq,decide_eq_true_eq];have p:=ki b.log2;have e:b/2^b.log2=1:=by
   rw[jp1] at h2;generalize 2^b.log2=w at*
   have a1:1<=b/w:=(Nat.le_div_iff_mul_le p).mpr (by lia);have a2:b/w<2:=(Nat.div_lt_iff_lt_mul p).mpr (by lia);lia
  rw[e]
 ·intro i hi;exact jl4 (xh h2 (vc (by decide) hi))
noncomputable def Lf(w:Nat):List Nat->Nat
 | []=>0
 | a::l=>a+2^w*Lf w l
noncomputable def fsum:List Nat->Nat
 | []=>0
 | a::l=>a+fsum l
noncomputable def Dg(w f s:Nat):Prop:=∃l:List Nat,(∀a∈l,a<=w)/\f=Lf w l/\s=fsum l
theorem Dg.nil{w:Nat}:Dg w 0 0:=⟨[],(fun _ h=>nomatch h),rfl,rfl⟩
theorem Dg.cons{w a f s:Nat}(h:a<=w)(g:Dg w f s):Dg w (a+2^w*f) (a+s):=by
 obtain⟨l,h1,rfl,rfl⟩:=g;exact⟨a::l,fun x hx=>(qv.mp hx).elim (fun e=>e ▸ h) (h1 x),rfl,rfl⟩
noncomputable def Ev(w f e:Nat):Prop:=∀i,e.testBit i=(f.testBit i&&decide (i%(2*w)<w))
theorem Wb{w:Nat}:∀l:List Nat,Lf w l=0->fsum l=0
 | [],_=>rfl
 | a::l,e=>by
  have e:a+2^w*Lf w l=0:=e;have e1:a=0:=by lia
  have e2:2^w*Lf w l=0:=by lia
  have p:=ki w;rcases Nat.mul_eq_zero.mp e2 with z | z
  ·lia
  ·show a+fsum l=0;rw[e1,Wb l z]
theorem Dg.last{w f s:Nat}(h:Dg w f s)(hl:f<2^w):f=s:=by
 obtain⟨l,_,rfl,rfl⟩:=h;cases l with
 | nil=>rfl
 | cons a l=>
  have hl:a+2^w*Lf w l<2^w:=hl;have z:Lf w l=0:=by
   rcases Nat.eq_zero_or_pos (Lf w l) with z | z
   ·exact z
   ·have:=Nat.le_mul_of_pos_right (2^w) z;lia
  show a+2^w*Lf w l=a+fsum l;rw[Wb l z,z];simp
theorem Wx{w a h:Nat}(ha:a<2^w)(i:Nat):(a+2^w*h).testBit i=if i<w then a.testBit i else h.testBit (i-w):=by
 rw[Nat.add_comm,Nat.testBit_two_pow_mul_add h ha]
theorem Ev.peel{w a h e:Nat}(w0:0<w)(ha:a<2^w)(H:Ev w (a+2^w*h) e):e=a+2^(2*w)*(e/2^(2*w))/\Ev w (h/2^w) (e/2^(2*w)):=by
 have e1:e%2^(2*w)=a:=by
  refine Qb fun i=>?_;rw[jh3,H i,Wx ha];by_cases c:i<w
  ·rw[ya c,jh9 (by lia)];simp[c,show i<2*w by lia]
  ·rw[ua c];have:a.testBit i=false:=jl4 (xh ha (vc (by decide) (by lia)));rw[this];by_cases c2:i<2*w
   ·rw[jh9 c2];simp[c]
   ·simp[c2]
 refine⟨?_,fun i=>?_⟩
 ·have:=Nat.mod_add_div e (2^(2*w));rw[e1] at this;exact this.symm
 ·rw[<-ve,<-ve,jc4,jc4,H,Wx ha,ua (by lia),show 2*w+i-w=w+i by lia,Nat.add_mod_left]
theorem yN{w:Nat}(w0:0<w):∀l:List Nat,(∀a∈l,a<=w)->∀e1 e2,Ev w (Lf w l) e1->Ev w (Lf w l/2^w) e2->Dg (2*w) (e1+e2) (fsum l)/\e1+e2<=Lf w l
 | [],_,e1,e2,h1,h2=>by
  have z:∀e,Ev w 0 e->e=0:=fun e he=>Qb fun i=>by rw[he i,jf1];rfl
  have h2:Ev w (0/2^w) e2:=h2;rw[Nat.zero_div] at h2;rw[z e1 h1,z e2 h2];exact⟨.nil,qq _⟩
 | [a],ha,e1,e2,h1,h2=>by
  have ha:=ha a jv;have h1:Ev w (a+2^w*0) e1:=h1;have h2:Ev w ((a+2^w*0)/2^w) e2:=h2;show Dg (2*w) (e1+e2) (a+0)/\e1+e2<=a+2^w*0;have al:a<2^w:=yk ha jo3;have z:∀e,Ev w 0 e->e=0:=fun e he=>Qb fun i=>by rw[he i,jf1];rfl
  obtain⟨p1,p2⟩:=h1.peel w0 al;rw[Nat.zero_div] at p2;have p3:=z _ p2;rw[jp0,Nat.add_zero,jj7 al] at h2;have p4:=z _ h2;rw[p3,jp0,Nat.add_zero] at p1;rw[p1,p4,jp0];refine⟨?_,by lia⟩;have:=Dg.cons (w:=2*w) (a:=a) (by lia) (.nil)
  rwa [jp0] at this
 | a::b::l,hl,e1,e2,h1,h2=>by
  have ha:=hl a jv;have hb:=hl b (qh _ jv);have hg:∀x∈l,x<=w:=fun x hx=>hl x (qh _ (qh _ hx));have h1:Ev w (a+2^w*(b+2^w*Lf w l)) e1:=h1;have h2:Ev w ((a+2^w*(b+2^w*Lf w l))/2^w) e2:=h2;have ih:=yN w0 l hg;show Dg (2*w) (e1+e2) (a+(b+fsum l))/\e1+e2<=a+2^w*(b+2^w*Lf w l);generalize Lf w l=g at*
  generalize fsum l=s at*
  have al:a<2^w:=yk ha jo3;have bl:b<2^w:=yk hb jo3;have p:=ki w;have d1:(a+2^w*(b+2^w*g))/2^w=b+2^w*g:=by rw[Nat.add_mul_div_left _ _ p,jj7 al,jm8]
  have d2:(b+2^w*g)/2^w=g:=by rw[Nat.add_mul_div_left _ _ p,jj7 bl,jm8]
  rw[d1] at h2;obtain⟨p1,p2⟩:=h1.peel w0 al;obtain⟨p3,p4⟩:=h2.peel w0 bl;rw[d2] at p2;obtain⟨i1,i2⟩:=ih _ _ p2 p4;have:=Dg.cons (w:=2*w) (a:=a+b) (by lia) i1;refine⟨?_,?_⟩
  ·rw[p1,p3];rw[Nat.mul_add] at this;have e:a+2^(2*w)*(e1/2^(2*w))+(b+2^(2*w)*(e2/2^(2*w)))=a+b+(2^(2*w)*(e1/2^(2*w))+2^(2*w)*(e2/2^(2*w))):=by lia
   rw[e,<-Nat.add_assoc a b s];exact this
  ·have m:=jh2 (2^(2*w)) i2;rw[Nat.mul_add] at m;have q1:b<=2^w*b:=Nat.le_mul_of_pos_left b p;have q2:2^w*(2^w*g)=2^(2*w)*g:=by rw[<-Nat.mul_assoc,<-jl8,Nat.two_mul]
   rw[Nat.mul_add,q2];lia
theorem Dg.pair{w f s:Nat}(w0:0<w)(h:Dg w f s){e1 e2:Nat}(h1:Ev w f e1)(h2:Ev w (f/2^w) e2):Dg (2*w) (e1+e2) s/\e1+e2<=f:=by
 obtain⟨l,hl,rfl,rfl⟩:=h;exact yN w0 l hl e1 e2 h1 h2
theorem Dg.start:∀(n b:Nat),b<2^n->Dg 1 b (cnt b n)
 | 0,b,h=>by
  have:b=0:=by simp at h;exact h
  subst this;exact .nil
 | n+1,b,h=>by
  have:=Dg.cons (w:=1) (a:=b%2) (by lia) (Dg.start n (b/2) (by rw[jp1] at h;lia));rw[Uh]
  rwa [Nat.pow_one,Nat.mod_add_div] at this
theorem Ke{c:Nat}:∀{k:Nat},(∀i,i<k->b.testBit i=c.testBit i)->cnt b k=cnt c k
 | 0,_=>rfl
 | k+1,h=>by
  rw[cnt,cnt,Ke (fun i hi=>h i (by lia)),h k (by lia)]
theorem Ui(b:Nat):∀k,cnt b k<=k
 | 0=>qq _
 | k+1=>by
  have:=Ui b k;rw[cnt];split<;>lia
theorem Rj(b h:Nat):∀k,cnt b (h+k)=cnt b h+cnt (b/2^h) k
 | 0=>rfl
 | k+1=>by
  show cnt b (h+k)+_=cnt b h+(cnt (b/2^h) k+_);rw[Rj b h k,<-ve,jc4,Nat.add_assoc];rfl
noncomputable def Pl(b k l s p:Nat):Prop:=∀j,l.testBit j=true->cnt l j=s->b.testBit (p+j)=true/\cnt b (p+j)=k
theorem Pl.low{k l s p h:Nat}(H:Pl b k l s p):Pl b k (l &&& (2^h-1)) s p:=fun j hj hc=>by
 have jh:j<h:=by
  refine jb7 fun z=>?_;rw[jb0,ji9] at hj;simp[show ¬j<h by lia] at hj
 rw[Fi _ _ _ jh] at hj;rw[Ke (c:=l) fun i hi=>Fi _ _ _ (by lia)] at hc;exact H j hj hc
theorem Pl.up{k l s p h:Nat}(H:Pl b k l s p)(hs:cnt l h<=s):Pl b k (l/2^h) (s-cnt l h) (p+h):=fun j hj hc=>by
 rw[<-ve,jc4] at hj;rw[Nat.add_assoc];exact H (h+j) hj (by rw[Rj,hc];lia)
theorem ir{k:Nat}(h:0<cnt b k):b≠0:=by
 rintro rfl;rw[Ug] at h;lia
theorem rE{b:Nat}:∀{k:Nat},b<2^k->b≠0->0<cnt b k
 | 0,h,h0=>by simp at h;lia
 | k+1,h,h0=>by
  rw[Uh];by_cases m:b%2=0
  ·have:=rE (b:=b/2) (k:=k) (by rw[jp1] at h;lia) (by lia);lia
  ·lia
theorem ADf{n:Int}{p:Nat}(hn:0<n)(hp:p<n.toNat)(x:Int):CC n b (x*n+(p:Int))=x*(cnt b n.toNat:Int)+(cnt b p:Int):=by
 unfold CC;have e1:(x*n+(p:Int))/n=x:=by
  rw[ub,ji4 _ _ (by lia),ja0 (by lia) (by lia),kz]
 have e2:(x*n+(p:Int))%n=(p:Int):=by
  rw[ub,jj3];exact jj2 (by lia) (by lia)
 rw[e1,e2,xi]
theorem ADY{n:Int}{p:Nat}(hn:0<n)(hp:p<n.toNat)(x:Int):On n b (x*n+(p:Int))=b.testBit p:=by
 unfold On;have e2:(x*n+(p:Int))%n=(p:Int):=by
  rw[ub,jj3];exact jj2 (by lia) (by lia)
 rw[e2,xi]
noncomputable def pc(b j:Nat):Nat:=b/2^(256*j)%2^256
theorem Tn(b j i:Nat):(pc b j).testBit i=(decide (i<256)&&b.testBit (256*j+i)):=by
 unfold pc;rw[jh3,<-ve,jc4]
theorem ACr(b j:Nat):pc b j<2^256:=Nat.mod_lt _ (ki _)
theorem pP(b p:Nat):pc (b ||| 2^p) (p/256)=pc b (p/256) ||| 2^(p%256):=by
 refine Qb fun i=>?_;rw[Tn,jd4,jd4,Tn,jk1,jk1];by_cases c:i<256
 ·have:(p=256*(p/256)+i)=(p%256=i):=propext ⟨fun h=>by lia,fun h=>by lia⟩;simp[c,this]
 ·have:¬p%256=i:=by lia
  simp[c,this]
theorem pO{p j:Nat}(h:j≠p/256):pc (b ||| 2^p) j=pc b j:=by
 refine Qb fun i=>?_;rw[Tn,jd4,Tn,jk1];by_cases c:i<256
 ·have:¬p=256*j+i:=by lia
  simp[c,this]
 ·simp[c]
theorem vL(b m:Nat):b%2^(256*m) ||| (pc b m <<< (256*m))=b%2^(256*(m+1)):=by
 refine Qb fun i=>?_;rw[jd4,jm7,jh3,jh3,Tn];by_cases c:i<256*m
 ·simp[c,show ¬256*m<=i by lia,show i<256*(m+1) by lia]
 ·by_cases c2:i<256*(m+1)
  ·simp[c,c2,show 256*m<=i by lia,show i-256*m<256 by lia,show 256*m+(i-256*m)=i by lia]
  ·simp[c,c2,show ¬i-256*m<256 by lia]
structure Rw(on:Int->Bool)(rw:List Int):Prop where
 srt:rw.Pairwise (· < ·)
 all:∀r∈rw,on r=true
 cov:∀r,on r=true->(∃x∈rw,x<=r)->(∃y∈rw,r<=y)->r∈rw
theorem fP{n m:Int}(hd:n∣m)(d k:Int):On n b (d+m*k)=On n b d:=by
 unfold On;obtain⟨c,rfl⟩:=hd;rw[jd2,Int.add_mul_emod_self_left]
structure Rs(on:Int->Bool)(row:List Int)(lo hi:Int):Prop where
 srt:row.Pairwise (· < ·)
 mem:∀r,r∈row<->lo<=r/\r<hi/\on r=true
theorem sY{n:Int}(hn:0<n):∀(k:Nat) (f:Int),(∀r,f<=r->r<f+(k:Int)->On n b r=false)->CC n b (f+(k:Int))=CC n b f
 | 0,f,_=>by simp
 | k+1,f,h=>by
  have ih:=sY hn k f fun r h1 h2=>h r h1 (by lia);have e:=Jv (b:=b) hn (f+(k:Int));rw[h (f+(k:Int)) (by lia) (by lia),ua zk,ih] at e;rw[show f+((k+1:Nat):Int)=f+(k:Int)+1 by lia,e];lia
noncomputable def Kth(n1:Int)(b1:Nat)(n2:Int)(b2:Nat)(k d:Int):Prop:=On n1 b1 d=true/\∃b e,On n2 b2 b=true/\On n2 b2 e=true/\b<=d/\d<e/\(∀r,b<r->r<e->On n2 b2 r=false)/\(0<k->CC n1 b1 (d+1)-CC n1 b1 b=k)/\(k<0->CC n1 b1 e-CC n1 b1 d= -k)
theorem ABi{n:Int}(hn:0<n)(d j:Int):CC n b (d+n*j)=CC n b d+j*(cnt b n.toNat:Int):=by
 unfold CC;rw[jf3 _ _ (by lia),Int.add_mul_emod_self_left,jg9];lia
theorem xH{n:Int}:CC n b 0=0:=by
 unfold CC;rw[Int.zero_ediv,Int.zero_emod];show 0*_+((cnt b 0:Nat):Int)=0;rw[Int.zero_mul];rfl
section
variable{o1 o2 p1 p2:Int->Bool}{t:Int}
end
section
variable{o1 o2:Int->Bool}{d r1 r2 p q:Int}
noncomputable def mG(o:Int->Bool)(d r:Int):Prop:=r<=d/\o r=true/\∀e,r<e->e<=d->o e=false
noncomputable def mD(o:Int->Bool)(d r:Int):Prop:=d<=r/\o r=true/\∀e,d<=e->e<r->o e=false
end
theorem O8{n:Int}{d:Int}(hn:0<n)(h:mG (On n b) d r):d-n<r:=by
 refine Int.not_le.mp fun z=>?_;have:=h.2.2 (r+n) (by lia) (by lia);have e:=fP (b:=b) (jg6 n) r 1;rw[jc1,h.2.1] at e;rw[e] at this;cases this
theorem O7{n:Int}{d:Int}(hn:0<n)(h:mD (On n b) d r):r<d+n:=by
 refine Int.not_le.mp fun z=>?_;have:=h.2.2 (r-n) (by lia) (by lia);have e:=fP (b:=b) (jg6 n) (r-n) 1;rw[jc1,show r-n+n=r by lia,h.2.1] at e;rw[<-e] at this;cases this
noncomputable abbrev Tm:=Int×Int×Int×Int
structure OkT(t:Tm):Prop where
 sg:t.1=1\/t.1= -1
 n0:1<=t.2.2.2
 n1:t.2.2.2<=1000
 a0:0<=t.2.1
 a1:t.2.1<=t.2.2.2
 b0:0<=t.2.2.1
 b1:t.2.2.1<t.2.2.2
noncomputable def onT(t:Tm)(k:Int):Bool:=decide (t.2.2.2<=(t.2.1*k+t.2.2.1)%t.2.2.2+t.2.1)
noncomputable def ctT(t:Tm)(k:Int):Int:=(t.2.1*k+t.2.2.1)/t.2.2.2
noncomputable def SU(ts:List Tm)(k:Int):Int:=(ts.map fun t=>t.1*ctT t k).sum
noncomputable def UP(base:Int)(ts:List Tm)(k:Int):Int:=base*k+SU ts k
noncomputable def ONS(ts:List Tm)(k:Int):Int:=((ts.filter fun t=>onT t k).map fun t=>t.1).sum
noncomputable def AT(base:Int)(ts:List Tm)(k:Int):Int:=base+ONS ts k
noncomputable def falls(ts:List Tm):Int:=((ts.filter fun t=>decide (t.1= -1)).length:Int)
theorem wN{t:Tm}(h:OkT t)(k:Int):ctT t (k+1)=ctT t k+(if onT t k=true then 1 else 0):=by
 unfold ctT onT;obtain⟨s,a,b,n⟩:=t;have n0:=h.n0;have a0:=h.a0;have a1:=h.a1;dsimp only at n0 a0 a1 ⊢;have e:a*(k+1)+b=a*k+b+a:=by rw[jd9,jc1];lia
 rw[e];generalize a*k+b=y;have q:=ji5 y n;have r0:=zh y (show n≠0 by lia);have r1:=qk y (show 0<n by lia);by_cases c:n<=y%n+a
 ·rw[decide_eq_true c,ya rfl];have h:y+a=n*(y/n+1)+(y%n+a-n):=by rw[jd9,jc1];lia
  conv=>lhs;rw[h]
  rw[ji4 _ _ (by lia),ja0 (a:=y%n+a-n) (b:=n) (by lia) (by lia)];lia
 ·rw[decide_eq_false c,ua zk];have h:y+a=n*(y/n)+(y%n+a):=by lia
  conv=>lhs;rw[h]
  rw[ji4 _ _ (by lia),ja0 (a:=y%n+a) (b:=n) (by lia) (by lia)]
theorem wM{t:Tm}(h:OkT t):ctT t 0=0:=by
 unfold ctT;rw[Int.mul_zero,jo8];exact ja0 h.b0 h.b1
theorem iz:∀{ts:List Tm} (_:∀t∈ts,OkT t) (k:Int),SU ts (k+1)=SU ts k+ONS ts k
 | [],_,k=>rfl
 | t::ts,h,k=>by
  have ih:=iz (ts:=ts) (fun x hx=>h x (qh _ hx)) k;have s:=wN (h t jv) k;unfold SU ONS at*
  rw[zi,zi,uu,uu,ih,s,jh8];by_cases c:onT t k=true
  ·rw[ya c,ya c,zi,uu,jd9,jc1];lia
  ·rw[ua c,ua c,kz];lia
theorem iy:∀{ts:List Tm} (_:∀t∈ts,OkT t),SU ts 0=0
 | [],_=>rfl
 | t::ts,h=>by
  have ih:=iy (ts:=ts) (fun x hx=>h x (qh _ hx));unfold SU at*
  rw[zi,uu,ih,wM (h t jv)];simp
theorem Rk:∀{ts:List Tm} (_:∀t∈ts,OkT t) (k:Int),-falls ts<=ONS ts k
 | [],_,k=>by show(-((0:Nat):Int))<=0;lia
 | t::ts,h,k=>by
  have ih:=Rk (ts:=ts) (fun x hx=>h x (qh _ hx)) k;have sg:=(h t jv).sg;unfold falls ONS at*
  rw[jh8,jh8];by_cases c:onT t k=true
  ·rw[ya c,zi,uu];rcases sg with z | z
   ·rw[ua (by rw[decide_eq_true_eq];lia)];lia
   ·rw[ya (decide_eq_true z),qm];lia
  ·rw[ua c];split
   ·rw[qm];lia
   ·lia
variable{base:Int}{ts:List Tm}
theorem Jq(h:∀t∈ts,OkT t)(k:Int):UP base ts (k+1)=UP base ts k+AT base ts k:=by
 unfold UP AT;rw[iz h,jd9,jc1];lia
theorem LR(h:∀t∈ts,OkT t):UP base ts 0=0:=by
 unfold UP;rw[iy h,Int.mul_zero];rfl
theorem Jr(h:∀t∈ts,OkT t)(hf:falls ts<=base){j k:Int}(jk:j<=k):UP base ts j<=UP base ts k:=by
 have:∀m:Nat,UP base ts j<=UP base ts (j+(m:Int)):=by
  intro m
  induction m with
  | zero=>simp
  | succ m ih=>
   have e:=Jq (base:=base) h (j+(m:Int));have l:=Rk h (j+(m:Int));unfold AT at e;rw[show j+((m+1:Nat):Int)=j+(m:Int)+1 by lia,e];lia
 have:=this (k-j).toNat
 rwa [show j+((k-j).toNat:Int)=k by lia] at this
theorem ABJ{t:Tm}(h:OkT t){P:Int}(hd:t.2.2.2∣P)(k q:Int):ctT t (k+P*q)=ctT t k+q*ctT t P:=by
 have n0:=h.n0;obtain⟨c,rfl⟩:=hd;unfold ctT;obtain⟨s,a,b,n⟩:=t;dsimp only at n0 ⊢;have b0:=h.b0;have b1:=h.b1;dsimp only at b0 b1;have e1:a*(k+n*c*q)+b=a*k+b+n*(a*(c*q)):=by
  rw[jd9,show a*(n*c*q)=n*(a*(c*q)) by rw[jd2,jd6]];lia
 have e2:a*(n*c)+b=b+n*(a*c):=by rw[jd6];lia
 rw[e1,e2,jf3 _ _ (by lia),jf3 _ _ (by lia),ja0 b0 b1,jo8]
 congr 1
 rw[jd6 q a c,ub q c]
theorem rY:∀{ts:List Tm} (_:∀t∈ts,OkT t) {P:Int} (_:∀t∈ts,t.2.2.2∣P) (k q:Int),SU ts (k+P*q)=SU ts k+q*SU ts P
 | [],_,P,_,k,q=>by unfold SU;simp
 | t::ts,h,P,hd,k,q=>by
  have ih:=rY (ts:=ts) (fun x hx=>h x (qh _ hx)) (P:=P) (fun x hx=>hd x (qh _ hx)) k q;have s:=ABJ (h t jv) (hd t jv) k q;unfold SU at*
  rw[zi,zi,zi,uu,uu,uu,ih,s,jd9,jd9,jd6 t.1 q];lia
theorem Yr(h:∀t∈ts,OkT t){P:Int}(hd:∀t∈ts,t.2.2.2∣P)(k q:Int):UP base ts (k+P*q)=UP base ts k+q*UP base ts P:=by
 unfold UP;rw[rY h hd,jd9,jd9,show base*(P*q)=q*(base*P) by rw[<-jd2,ub]];lia
theorem ADR{t:Tm}(h:OkT t){k:Int}(k0:0<=k):0<=ctT t k/\ctT t k<=k:=by
 have n0:=h.n0;have a0:=h.a0;have b0:=h.b0;have b1:=h.b1;have p0:0<=t.2.1*k:=jd3 a0 k0;have p1:t.2.1*k<=t.2.2.2*k:=ui h.a1 k0;unfold ctT;refine⟨jg0 (by lia) (by lia),?_⟩;have:(t.2.1*k+t.2.2.1)/t.2.2.2<k+1:=by
  rw[Int.ediv_lt_iff_lt_mul (by lia),jg9,jc9,ub k];lia
 lia
theorem rm:∀{ts:List Tm} (_:∀t∈ts,OkT t) {k:Int} (_:0<=k),-((ts.length:Int)*k)<=SU ts k/\SU ts k<=(ts.length:Int)*k
 | [],_,k,_=>by unfold SU;simp
 | t::ts,h,k,k0=>by
  have ih:=rm (ts:=ts) (fun x hx=>h x (qh _ hx)) k0;have c:=ADR (h t jv) k0;have sg:=(h t jv).sg;unfold SU at*
  rw[zi,uu,qm,jk5,jg9];have e1:((1:Nat):Int)*k=k:=by simp
  rcases sg with z | z
  ·rw[z,jc9];lia
  ·rw[z,show(-1:Int)*ctT t k= -ctT t k by lia];lia
noncomputable def PER(ts:List Tm):Int:=ts.foldl (fun p t=>Ci p t.2.2.2) 1
theorem Yq(h:∀t∈ts,OkT t)(hf:falls ts<base){P:Int}(P0:0<P):0<UP base ts P:=by
 have m:=Jr h (jl5 (falls ts)) (show (0:Int)<=P by lia);rw[LR h] at m;unfold UP at*
 have:(falls ts+1)*P<=base*P:=ui (by lia) (by lia);rw[jg9,jc9] at this;lia
theorem ABK{t:Tm}(h:OkT t){k:Int}(k0:k<=0):k<=ctT t k/\ctT t k<=0:=by
 have n0:=h.n0;have a0:=h.a0;have b0:=h.b0;have b1:=h.b1;have p0:t.2.1*k<=0:=Int.mul_nonpos_of_nonneg_of_nonpos a0 k0;have p1:t.2.2.2*k<=t.2.1*k:=jg8 h.a1 k0;unfold ctT;constructor
 ·rw[Int.le_ediv_iff_mul_le (by lia),ub];lia
 ·have:(t.2.1*k+t.2.2.1)/t.2.2.2<1:=by
   rw[Int.ediv_lt_iff_lt_mul (by lia),jc9];lia
  lia
theorem rZ:∀{ts:List Tm} (_:∀t∈ts,OkT t) {k:Int} (_:k<=0),(ts.length:Int)*k<=SU ts k/\SU ts k<= -((ts.length:Int)*k)
 | [],_,k,_=>by unfold SU;simp
 | t::ts,h,k,k0=>by
  have ih:=rZ (ts:=ts) (fun x hx=>h x (qh _ hx)) k0;have c:=ABK (h t jv) k0;have sg:=(h t jv).sg;unfold SU at*
  rw[zi,uu,qm,jk5,jg9];have e1:((1:Nat):Int)*k=k:=by simp
  rcases sg with z | z
  ·rw[z,jc9];omega
  ·rw[z,show(-1:Int)*ctT t k= -ctT t k by omega];omega
theorem rW{b:Int}(h:∀t∈ts,OkT t)(b0:0<=b)(b1:b<=20000)(few:ts.length<=6){k K:Int}(h0: -K<=k)(h1:k<=K): -(20006*K)<=UP b ts k/\UP b ts k<=20006*K:=by
 unfold UP;rcases Int.lt_or_le k 0 with c | c
 ·obtain⟨s1,s2⟩:=rZ h (show k<=0 by lia);have m1:20000*k<=b*k:=jg8 b1 (by lia);have m2:b*k<=0:=Int.mul_nonpos_of_nonneg_of_nonpos b0 (by lia);have m3:6*k<=(ts.length:Int)*k:=jg8 (by lia) (by lia);lia
 ·obtain⟨s1,s2⟩:=rm h c;have m1:b*k<=20000*k:=ui b1 c;have m2:0<=b*k:=jd3 b0 c;have m3:(ts.length:Int)*k<=6*k:=ui (by lia) c;lia
theorem jD(h:∀t∈ts,OkT t)(k:Int):ONS ts k<=(ts.length:Int):=by
 unfold ONS
 induction ts with
 | nil=>exact jl5 0
 | cons t ts ih=>
  have i:=ih fun x hx=>h x (qh _ hx);have sg:=(h t jv).sg;rw[jh8,qm];split
  ·rw[zi,uu];lia
  ·lia
theorem nQ:∀{ls:List Int},(∀n∈ls,0<=n/\n<=1000)->0<=ls.sum/\ls.sum<=1000*(ls.length:Int)
 | [],_=>by simp
 | a::ls,h=>by
  have i:=nQ (ls:=ls) fun n hn=>h n (qh _ hn);have:=h a jv;rw[uu,qm];lia
theorem sum_set:∀{ls:List Int} {i:Nat} {e:Int},i<ls.length->(ls.set i (ls.getD i 0+e)).sum=ls.sum+e
 | [],i,e,h=>by simp at h
 | a::ls,0,e,_=>by
  show(a+e)+ls.sum=(a::ls).sum+e;rw[uu];lia
 | a::ls,i+1,e,h=>by
  have ih:=sum_set (ls:=ls) (i:=i) (e:=e) (by simpa using h);show a+(ls.set i (ls.getD i 0+e)).sum=(a::ls).sum+e;rw[ih,uu];lia
noncomputable def Ks(ls:List Int)(lp:Int)(ts:List Tm)(y:Int):List Int:=ls.set (lp-1).toNat (ls.getD (lp-1).toNat 0+ONS ts y)
structure Fx(ls:List Int)(lp:Int)(ts:List Tm):Prop where
 l0:1<=ls.length
 l1:ls.length<=20
 m:∀n∈ls,0<=n/\n<=1000
 p0:1<=lp
 p1:lp<=(ls.length:Int)
 f0:falls ts<=ls.getD (lp-1).toNat 0
 f1:falls ts<ls.sum
 ok:∀t∈ts,OkT t
 few:ts.length<=6
theorem Fx.sum{ls:List Int}{lp:Int}(g:Fx ls lp ts):0<=ls.sum/\ls.sum<=20000:=by
 have:=nQ g.m;have:=g.l1;lia
theorem sJ{ls:List Int}{lp:Int}(g:Fx ls lp ts)(y:Int):(Ks ls lp ts y).sum=AT ls.sum ts y:=by
 have p0:=g.p0;have p1:=g.p1;unfold Ks AT;exact sum_set (by lia)
theorem getD_mem'{ls:List Int}{i:Nat}(h:i<ls.length):ls.getD i 0∈ls:=by
 rw[vv,qo h];exact je9 h
theorem bH{ls:List Int}{lp:Int}(g:Fx ls lp ts)(y:Int):∀n∈Ks ls lp ts y,0<=n/\n<=1006:=by
 intro n hn;have p0:=g.p0;have p1:=g.p1;unfold Ks at hn;rcases List.mem_or_eq_of_mem_set hn with z | z
 ·have:=g.m n z;omega
 ·have:=g.m _ (getD_mem' (ls:=ls) (i:=(lp-1).toNat) (by omega));have l:=Rk g.ok y;have u:=jD g.ok y;have:=g.few;have:=g.f0;omega
theorem bI{ls:List Int}{lp:Int}{y:Int}:(Ks ls lp ts y).length=ls.length:=by
 unfold Ks;rw[List.length_set]
theorem Ys{b:Int}{k:Int}:UP b ts k=UP (b-1) ts k+k:=by
 unfold UP;rw[Int.sub_mul,jc9];lia
theorem rT{b:Int}(h:∀t∈ts,OkT t)(hf:falls ts<b){j k:Int}(jk:j<k):UP b ts j<UP b ts k:=by
 have:=Jr h (show falls ts<=b-1 by lia) (Jn jk);rw[Ys (b:=b),Ys (b:=b) (k:=k)];lia
theorem Ly{b:Int}(h:∀t∈ts,OkT t)(hf:falls ts<b){n k:Int}(u1:UP b ts k<=n)(u2:n<UP b ts (k+1)):k.natAbs<=n.natAbs:=by
 have z:=LR (base:=b-1) h;rw[Ys] at u1 u2;rcases Int.lt_or_le k 0 with c | c
 ·have:=Jr h (show falls ts<=b-1 by lia) (show k+1<=0 by lia);lia
 ·have:=Jr h (show falls ts<=b-1 by lia) c;lia
structure Ec(bd:Int)(td:List Tm)(bm:Int)(tm:List Tm):Prop where
 fd:falls td<bd
 gd:bd<=1000
 fm:falls tm<bm
 gm:bm<=20
 okd:∀t∈td,OkT t
 okm:∀t∈tm,OkT t
 fwd:td.length<=6
 fwm:tm.length<=6
noncomputable def MYS(s bd:Int)(td:List Tm)(bm:Int)(tm:List Tm)(y:Int):Int:=s+UP bd td (UP bm tm y)
noncomputable def OD(bd:Int)(td:List Tm)(bm:Int)(tm:List Tm)(y:Int):List Int:=(List.range (AT bm tm y).toNat).map fun i:Nat=>AT bd td (UP bm tm y+(i:Int))
theorem rO{b:Int}(h:∀t∈ts,OkT t)(f:Int):∀n:Nat,((List.range n).map fun i:Nat=>AT b ts (f+(i:Int))).sum=UP b ts (f+(n:Int))-UP b ts f
 | 0=>by simp
 | n+1=>by
  have s:=Jq (base:=b) h (f+(n:Int));rw[List.range_succ,uk,List.sum_append,rO h f n,show f+((n+1:Nat):Int)=f+(n:Int)+1 by lia,s];simp;lia
theorem qp:0<=falls ts:=by
 unfold falls;lia
theorem Yw{b:Int}(h:∀t∈ts,OkT t)(hf:falls ts<b)(k:Int):1<=AT b ts k:=by
 have:=Rk h k;unfold AT;lia
theorem tG{b:Int}(h:∀t∈ts,OkT t)(few:ts.length<=6)(k:Int):AT b ts k<=b+6:=by
 have:=jD h k;unfold AT;lia
theorem sI{s bd:Int}{td:List Tm}{bm:Int}{tm:List Tm}(g:Ec bd td bm tm)(y:Int):(OD bd td bm tm y).sum=MYS s bd td bm tm (y+1)-MYS s bd td bm tm y:=by
 unfold OD MYS;have p:=Yw g.okm g.fm y;rw[rO g.okd,show((AT bm tm y).toNat:Int)=AT bm tm y by lia,<-Jq g.okm];lia
theorem bF{bd:Int}{td:List Tm}{bm:Int}{tm:List Tm}(g:Ec bd td bm tm)(y:Int):∀n∈OD bd td bm tm y,0<=n/\n<=1006:=by
 intro n hn;unfold OD at hn;obtain⟨i,_,rfl⟩:=ka.mp hn;have:=Yw g.okd g.fd (UP bm tm y+(i:Int));have:=tG g.okd g.fwd (b:=bd) (UP bm tm y+(i:Int));have:=g.gd;lia
theorem bG{bd:Int}{td:List Tm}{bm:Int}{tm:List Tm}(g:Ec bd td bm tm)(y:Int):1<=(OD bd td bm tm y).length/\(OD bd td bm tm y).length<=26:=by
 unfold OD;rw[js,Zl];have:=Yw g.okm g.fm y;have:=tG g.okm g.fwm (b:=bm) y;have:=g.gm;lia
inductive BV where
 | sun (s:Int) (ls:List Int) (lp:Int) (ts:List Tm)
 | moon (s bd:Int) (td:List Tm) (bm:Int) (tm:List Tm)
noncomputable def BV.Y:BV->Int->Int
 | .sun s ls _ ts,y=>s+UP ls.sum ts y
 | .moon s bd td bm tm,y=>MYS s bd td bm tm y
noncomputable def BV.L:BV->Int->List Int
 | .sun _ ls lp ts,y=>Ks ls lp ts y
 | .moon _ bd td bm tm,y=>OD bd td bm tm y
noncomputable def BV.good:BV->Prop
 | .sun _ ls lp ts=>Fx ls lp ts
 | .moon _ bd td bm tm=>Ec bd td bm tm
noncomputable def BV.st:BV->Int
 | .sun s _ _ _=>s
 | .moon s _ _ _ _=>s
noncomputable def PS(l:List Int)(j:Nat):Int:=(l.take j).sum
theorem La{l:List Int}:PS l 0=0:=rfl
theorem Jt{l:List Int}{j:Nat}(h:j<l.length):PS l (j+1)=PS l j+l.getD j 0:=by
 unfold PS;rw[vk,vv,qo h,List.sum_append];simp
theorem Lb{l:List Int}(h:∀n∈l,0<=n){i:Nat}:∀{j:Nat},i<=j->j<=l.length->PS l i<=PS l j
 | 0,hij,_=>by
  have:i=0:=by lia
  subst this;exact jl5 _
 | j+1,hij,hj=>by
  rcases Nat.lt_or_eq_of_le hij with c | c
  ·have:=Lb (i:=i) h (show i<=j by lia) (by lia);have e:=Jt (l:=l) (j:=j) (by lia);have:=h _ (getD_mem' (ls:=l) (i:=j) (by lia));lia
  ·subst c;exact jl5 _
theorem Yt{l:List Int}:PS l l.length=l.sum:=by
 unfold PS;rw[Qr]
variable{d:BV}
theorem BV.step(g:d.good)(y:Int):d.Y (y+1)=d.Y y+(d.L y).sum:=by
 cases d with
 | sun s ls lp ts=>
  show s+UP ls.sum ts (y+1)=s+UP ls.sum ts y+(Ks ls lp ts y).sum;rw[sJ g y,Jq (Fx.ok g)];lia
 | moon s bd td bm tm=>
  show MYS s bd td bm tm (y+1)=MYS s bd td bm tm y+(OD bd td bm tm y).sum;rw[sI (s:=s) g y];lia
theorem BV.mem(g:d.good)(y:Int):∀n∈d.L y,0<=n/\n<=1006:=by
 cases d with
 | sun s ls lp ts=>exact bH g y
 | moon s bd td bm tm=>exact bF g y
theorem BV.len(g:d.good)(y:Int):1<=(d.L y).length/\(d.L y).length<=26:=by
 cases d with
 | sun s ls lp ts=>
  show 1<=(Ks ls lp ts y).length/\(Ks ls lp ts y).length<=26;rw[bI];have:=Fx.l0 g;have:=Fx.l1 g;lia
 | moon s bd td bm tm=>exact bG g y
theorem BV.lt(g:d.good){j k:Int}(h:j<k):d.Y j<d.Y k:=by
 cases d with
 | sun s ls lp ts=>
  have:=rT (Fx.ok g) (Fx.f1 g) h;show s+UP ls.sum ts j<s+UP ls.sum ts k;lia
 | moon s bd td bm tm=>
  have:=rT (Ec.okd g) (Ec.fd g) (rT (Ec.okm g) (Ec.fm g) h);show s+UP bd td (UP bm tm j)<s+UP bd td (UP bm tm k);lia
theorem BV.uniq(g:d.good){n j k:Int}(h1:d.Y j<=n)(h2:n<d.Y (j+1))(h3:d.Y k<=n)(h4:n<d.Y (k+1)):j=k:=by
 rcases jl6 j k with c | c | c
 ·rcases Int.lt_or_eq_of_le (show j+1<=k by lia) with z | z
  ·have:=BV.lt g z;lia
  ·rw[z] at h2;lia
 ·exact c
 ·rcases Int.lt_or_eq_of_le (show k+1<=j by lia) with z | z
  ·have:=BV.lt g z;lia
  ·rw[z] at h4;lia
theorem BV.zero(g:d.good):d.Y 0=d.st:=by
 cases d with
 | sun s ls lp ts=>
  show s+UP ls.sum ts 0=s;rw[LR (Fx.ok g),kz]
 | moon s bd td bm tm=>
  show s+UP bd td (UP bm tm 0)=s;rw[LR (Ec.okm g),LR (Ec.okd g),kz]
structure IsD(d:BV)(y m r:Int):Prop where
 m0:1<=m
 m1:m<=((d.L y).length:Int)
 r0:1<=r
 r1:r<=(d.L y).getD (m-1).toNat 0
noncomputable def Cz(d:BV)(y m r:Int):Int:=d.Y y+PS (d.L y) (m-1).toNat+r-1
theorem IsD.year(g:d.good){y m r:Int}(h:IsD d y m r):d.Y y<=Cz d y m r/\Cz d y m r<d.Y (y+1):=by
 have m0:=h.m0;have m1:=h.m1;have r0:=h.r0;have r1:=h.r1;have nn:∀n∈d.L y,0<=n:=fun n hn=>(BV.mem g y n hn).1;have a:=Lb nn (i:=0) (j:=(m-1).toNat) (by lia) (by lia);have b:=Jt (l:=d.L y) (j:=(m-1).toNat) (by lia);have c:=Lb nn (i:=(m-1).toNat+1) (j:=(d.L y).length) (by lia) (qq _);rw[Yt] at c;rw[La] at a;rw[BV.step g];unfold Cz;lia
theorem IsD.uniq(g:d.good){y m r y' m' r':Int}(h:IsD d y m r)(h':IsD d y' m' r')(e:Cz d y m r=Cz d y' m' r'):y=y'/\m=m'/\r=r':=by
 have e1:=h.year g;have e2:=h'.year g;rw[<-e] at e2;have ey:=BV.uniq g e1.1 e1.2 e2.1 e2.2;subst ey;have m0:=h.m0;have m1:=h.m1;have r0:=h.r0;have r1:=h.r1;have m0':=h'.m0;have m1':=h'.m1;have r0':=h'.r0;have r1':=h'.r1;have nn:∀n∈d.L y,0<=n:=fun n hn=>(BV.mem g y n hn).1;have b:=Jt (l:=d.L y) (j:=(m-1).toNat) (by lia);have b':=Jt (l:=d.L y) (j:=(m'-1).toNat) (by lia);unfold Cz at e;have em:m=m':=by
  rcases jl6 m m' with c | c | c
  ·have:=Lb nn (i:=(m-1).toNat+1) (j:=(m'-1).toNat) (by lia) (by lia);lia
  ·exact c
  ·have:=Lb nn (i:=(m'-1).toNat+1) (j:=(m-1).toNat) (by lia) (by lia);lia
 subst em;exact⟨rfl,rfl,by lia⟩
theorem JG(h:∀t∈ts,OkT t):0<PER ts/\∀t∈ts,t.2.2.2∣PER ts:=by
 have key:∀(us:List Tm) (p:Int),0<p->(∀t∈us,OkT t)->0<us.foldl (fun p t=>Ci p t.2.2.2) p/\p∣us.foldl (fun p t=>Ci p t.2.2.2) p/\∀t∈us,t.2.2.2∣us.foldl (fun p t=>Ci p t.2.2.2) p:=by
  intro us
  induction us with
  | nil=>exact fun p hp _=>⟨hp,jg6 _,fun t ht=>nomatch ht⟩
  | cons u us ih=>
   intro p hp ok;have n0:=(ok u jv).n0;have f:=Bv hp (show 0<u.2.2.2 by lia);obtain⟨i1,i2,i3⟩:=ih (Ci p u.2.2.2) f.1 fun t ht=>ok t (qh _ ht);refine⟨i1,jd1 f.2.1 i2,fun t ht=>?_⟩;rcases qv.mp ht with e | e
   ·subst e;exact jd1 f.2.2.1 i2
   ·exact i3 t e
 exact⟨(key ts 1 (by decide) h).1,(key ts 1 (by decide) h).2.2⟩
theorem N6{b:Int}(h:∀t∈ts,OkT t){P:Int}(hd:∀t∈ts,t.2.2.2∣P)(k:Int):UP b ts (k+P)=UP b ts k+UP b ts P:=by
 have:=Yr (base:=b) h hd k 1
 rwa [jc1,jc9] at this
theorem VG{b:Int}(h:∀t∈ts,OkT t){P:Int}(hd:∀t∈ts,t.2.2.2∣P)(k:Int):AT b ts (k+P)=AT b ts k:=by
 have a:=Jq (base:=b) h (k+P);have c:=Jq (base:=b) h k;have u:=N6 (b:=b) h hd k;have v:=N6 (b:=b) h hd (k+1);rw[show k+1+P=k+P+1 by lia] at v;lia
theorem mC(h:∀t∈ts,OkT t){P:Int}(hd:∀t∈ts,t.2.2.2∣P)(k:Int):ONS ts (k+P)=ONS ts k:=by
 have:=VG (b:=0) h hd k;unfold AT at this;lia
noncomputable def moT(td:List Tm)(bm:Int)(tm:List Tm):Int:=PER td/(Int.gcd (PER td) (UP bm tm (PER tm)):Int)
noncomputable def BV.cy:BV->Int×Int
 | .sun _ ls _ ts=>(PER ts,UP ls.sum ts (PER ts))
 | .moon _ bd td bm tm=>(PER tm*moT td bm tm,UP bd td (UP bm tm (PER tm)*moT td bm tm))
theorem qG{td:List Tm}{bm:Int}{tm:List Tm}(h:∀t∈td,OkT t):∀t∈td,t.2.2.2∣UP bm tm (PER tm)*moT td bm tm:=by
 intro t ht;obtain⟨p0,pd⟩:=JG h;refine jd1 (pd t ht) ?_;unfold moT;generalize UP bm tm (PER tm)=M;generalize PER td=D at*
 have g1:=je8 (a:=D) (b:=M);have g2:=jg1 (a:=D) (b:=M);have g0:=K6 (b:=M) p0;obtain⟨u,hu⟩:=g1;obtain⟨v,hv⟩:=g2;generalize (Int.gcd D M:Int)=G at*
 rw[hu,hv,jg2 _ (by lia)];exact⟨v,by rw[jd2,jd2,ub u v]⟩
theorem BV.cyY(g:d.good)(y:Int):d.Y (y+d.cy.1)=d.Y y+d.cy.2:=by
 cases d with
 | sun s ls lp ts=>
  have:=N6 (b:=ls.sum) (Fx.ok g) (JG (Fx.ok g)).2 y;show s+UP ls.sum ts (y+PER ts)=s+UP ls.sum ts y+UP ls.sum ts (PER ts);lia
 | moon s bd td bm tm=>
  show MYS s bd td bm tm (y+PER tm*moT td bm tm)=MYS s bd td bm tm y+UP bd td (UP bm tm (PER tm)*moT td bm tm);have a:=Yr (base:=bm) (Ec.okm g) (JG (Ec.okm g)).2 y (moT td bm tm);have b:=N6 (b:=bd) (Ec.okd g) (qG (bm:=bm) (tm:=tm) (Ec.okd g)) (UP bm tm y);unfold MYS;rw[a,ub (moT td bm tm),b];lia
theorem BV.cyL(g:d.good)(y:Int):d.L (y+d.cy.1)=d.L y:=by
 cases d with
 | sun s ls lp ts=>
  show Ks ls lp ts (y+PER ts)=Ks ls lp ts y;unfold Ks;rw[mC (Fx.ok g) (JG (Fx.ok g)).2]
 | moon s bd td bm tm=>
  show OD bd td bm tm (y+PER tm*moT td bm tm)=OD bd td bm tm y;have a:=Yr (base:=bm) (Ec.okm g) (JG (Ec.okm g)).2 y (moT td bm tm);have e:∀t∈tm,t.2.2.2∣PER tm*moT td bm tm:=fun t ht=>jd1 ((JG (Ec.okm g)).2 t ht) (Int.dvd_mul_right _ _);unfold OD;rw[VG (Ec.okm g) e,a];refine jo0 fun i _=>?_;rw[ub (moT td bm tm),show UP bm tm y+UP bm tm (PER tm)*moT td bm tm+(i:Int)=UP bm tm y+(i:Int)+UP bm tm (PER tm)*moT td bm tm by lia];exact VG (Ec.okd g) (qG (bm:=bm) (tm:=tm) (Ec.okd g)) _
theorem IsD.cyc(g:d.good){y m r:Int}(h:IsD d y m r):IsD d (y+d.cy.1) m r/\Cz d (y+d.cy.1) m r=Cz d y m r+d.cy.2:=by
 have e:=BV.cyL g y;refine⟨⟨h.m0,by rw[e];exact h.m1,h.r0,by rw[e];exact h.r1⟩,?_⟩;unfold Cz;rw[e,BV.cyY g];lia
theorem IsD.cycB(g:d.good){y m r:Int}(h:IsD d y m r):IsD d (y-d.cy.1) m r/\Cz d (y-d.cy.1) m r=Cz d y m r-d.cy.2:=by
 have e:=BV.cyL g (y-d.cy.1);have e2:=BV.cyY g (y-d.cy.1);rw[show y-d.cy.1+d.cy.1=y by lia] at e e2;refine⟨⟨h.m0,by rw[<-e];exact h.m1,h.r0,by rw[<-e];exact h.r1⟩,?_⟩;unfold Cz;rw[<-e];lia
noncomputable def Gt(T B:Int->Bool)(e:Int)(k:Nat)(d:Int):Prop:=∃j:Nat,j<k/\T (d-e*(j:Int))=true/\∀i:Nat,i<j->B (d-e*(i:Int))=false
theorem lcm_self{n:Int}(h:0<n):Ci n n=n:=by
 unfold Ci;have e:((Int.gcd n n:Nat):Int)=n:=by
  rw[Int.gcd_self];lia
 rw[e,Int.ediv_self (by lia),jc9]
theorem BV.far(g:d.good)(k:Nat):d.Y 0+(k:Int)<=d.Y (k:Int)/\d.Y (-(k:Int))<=d.Y 0-(k:Int):=by
 induction k with
 | zero=>exact⟨by simp,by simp⟩
 | succ k ih=>
  have a:=BV.lt g (show (k:Int)<((k+1:Nat):Int) by lia);have b:=BV.lt g (show -((k+1:Nat):Int)< -(k:Int) by lia);lia
theorem BV.yb(g:d.good){n y:Int}(h1:d.Y y<=n)(h2:n<d.Y (y+1)):y.natAbs<=(n-d.st).natAbs+1:=by
 rw[<-BV.zero g];rcases Int.le_total 0 y with c | c
 ·have a:=(BV.far g y.toNat).1;rw[show ((y.toNat:Nat):Int)=y by lia] at a;lia
 ·by_cases z:y=0
  ·subst z;lia
  ·have a:=(BV.far g (-(y+1)).toNat).2;rw[show -(((-(y+1)).toNat:Nat):Int)=y+1 by lia] at a;lia
noncomputable abbrev Wd:=List Nat
noncomputable def kL:Wd:=[40]
noncomputable def kR:Wd:=[41]
noncomputable def opd(p:Wd):Wd:=p.dropWhile (· ==40)
noncomputable def core(p:Wd):Wd:=((opd p).reverse.dropWhile (· ==41)).reverse
noncomputable def Hs(p:Wd):List Wd:=List.replicate (p.length-(opd p).length) kL++[core p]++List.replicate ((opd p).length-(core p).length) kR
theorem O3(p:Wd):(opd p).length<=p.length:=(jl3 _).length_le
theorem Ri(p:Wd):(core p).length<=(opd p).length:=by
 unfold core;rw[jj9];have:=(jl3 (· ==41) (l:=(opd p).reverse)).length_le
 rwa [jj9] at this
noncomputable def jn:List Wd->Wd
 | []=>[]
 | [w]=>w
 | w::y::r=>w++32::jn (y::r)
noncomputable def bA:List Wd->List Wd
 | []=>[]
 | p::r=>(40::p)::r
noncomputable def bB:List Wd->List Wd
 | []=>[]
 | [p]=>[p++[41]]
 | p::q::r=>p::bB (q::r)
theorem Jf{w:Wd}{r:List Wd}(h:r≠[]):jn (w::r)=w++32::jn r:=by
 cases r with
 | nil=>exact absurd rfl h
 | cons y r=>rfl
theorem qR:∀{ps qs:List Wd},ps≠[]->qs≠[]->jn (ps++qs)=jn ps++32::jn qs
 | [],_,h,_=>absurd rfl h
 | [w],qs,_,h=>by rw[List.singleton_append,Jf h];rfl
 | w::y::r,qs,_,h=>by
  rw[jh7,Jf (by simp),qR (by simp) h];show _=(w++32::jn (y::r))++_;simp
theorem ADG{ps:List Wd}(h:ps≠[]):jn (bA ps)=40::jn ps:=by
 match ps,h with
 | [w],_=>rfl
 | w::y::r,_=>rfl
theorem yH:∀{ps:List Wd},ps≠[]->jn (bB ps)=jn ps++[41]
 | [],h=>absurd rfl h
 | [w],_=>rfl
 | w::y::r,_=>by
  have ih:=yH (ps:=y::r) (by simp);have ne:bB (y::r)≠[]:=by cases r<;>simp[bB]
  show jn (w::bB (y::r))=_;rw[Jf ne,ih];show _=(w++32::jn (y::r))++[41];simp
theorem nY:∀{w:Wd} {ws:List Wd},(∀p∈w::ws,32∉p)->L2.spl 32 (jn (w::ws))=w::ws
 | w,[],h=>L2.RN 32 w (h w jv)
 | w,y::r,h=>by
  show L2.spl 32 (w++32::jn (y::r))=_;rw[L2.Kv 32 w _ (h w jv),nY fun p hp=>h p (qh _ hp)]
theorem Nz{ps:List Wd}(h:ps≠[]):bA ps≠[]:=by cases ps<;>simp_all [bA]
theorem W3{ps:List Wd}(h:ps≠[]):bB ps≠[]:=by
 match ps,h with
 | [w],_=>simp[bB]
 | w::y::r,_=>simp[bB]
theorem rN:∀(ps:List Wd) {qs:List Wd},qs≠[]->bB (ps++qs)=ps++bB qs
 | [],_,_=>rfl
 | [p],q::r,_=>rfl
 | p::y::r,qs,h=>by
  have:=rN (y::r) h;rw[jh7] at this ⊢;show bB (p::y::(r++qs))=_;show p::bB (y::(r++qs))=_;rw[this];rfl
theorem M6(p:Wd):opd (40::p)=opd p:=by simp[opd,jb8]
theorem G7(p:Wd):core (40::p)=core p:=by unfold core;rw[M6]
theorem YC{p q:Wd}(h:opd p≠[]):opd (p++q)=opd p++q:=by
 unfold opd at*
 induction p with
 | nil=>exact absurd rfl h
 | cons a p ih=>
  by_cases e:a=40
  ·subst e;simp only[jh7,jb8,beq_self_eq_true,if_true] at*
   exact ih h
  ·simp[jb8,e]
theorem K9{p:Wd}(h:opd p≠[]):core (p++[41])=core p:=by
 unfold core;rw[YC h,List.reverse_append];simp[jb8]
theorem Kc{p:Wd}(h:core p≠[]):opd p≠[]:=fun e=>h (by unfold core;rw[e];rfl)
theorem WD(p:Wd):Hs (40::p)=kL::Hs p:=by
 have:=O3 p;unfold Hs;rw[M6,G7,qm,Nat.succ_sub this,ja2];rfl
theorem V9{p:Wd}(h:core p≠[]):Hs (p++[41])=Hs p++[kR]:=by
 have h2:=Kc h;have:=Ri p;unfold Hs;rw[K9 h2,YC h2,qr,qr,show p.length+[41].length-((opd p).length+[41].length)=p.length-(opd p).length by simp,show(opd p).length+[41].length-(core p).length=(opd p).length-(core p).length+1 by simp;lia,List.replicate_succ'];simp
theorem PP{p:Wd}(h1:p.head?≠some 40)(h2:p.getLast?≠some 41):core p=p:=by
 have e1:opd p=p:=by
  cases p with
  | nil=>rfl
  | cons a r=>
   have:a≠40:=fun e=>h1 (by rw[e];rfl);simp[opd,jb8,this]
 unfold core;rw[e1];cases e:p.reverse with
 | nil=>rw[List.dropWhile_nil];rw[List.reverse_eq_nil_iff.mp e];rfl
 | cons a r=>
  have:a≠41:=fun z=>h2 (by rw[List.getLast?_eq_head?_reverse,e,z];rfl);have e2:(a::r).dropWhile (· ==41)=a::r:=by simp[jb8,this]
  rw[e2,<-e,List.reverse_reverse]
theorem jj{p:Wd}(h1:p.head?≠some 40)(h2:p.getLast?≠some 41):Hs p=[p]:=by
 have e1:opd p=p:=by
  cases p with
  | nil=>rfl
  | cons a r=>
   have:a≠40:=fun e=>h1 (by rw[e];rfl);simp[opd,jb8,this]
 unfold Hs;rw[PP h1 h2,e1];simp
theorem gw{ps:List Wd}(h:ps≠[]):∃l p,ps=l++[p]:=⟨ps.dropLast,ps.getLast h,(List.dropLast_concat_getLast h).symm⟩
theorem iw{l:List Wd}{p:Wd}:bB (l++[p])=l++[p++[41]]:=rN l (by simp)
noncomputable def tks(ps:List Wd):List Wd:=ps.flatMap Hs
theorem m8{w:Wd}{ps:List Wd}(h:Hs w=[w]):tks (w::ps)=w::tks ps:=by
 unfold tks;rw[jd7,h];rfl
theorem tY(ps qs:List Wd):tks (ps++qs)=tks ps++tks qs:=jh1
theorem mz{ps:List Wd}(ne:ps≠[])(co:∀p∈ps,core p≠[]):tks (bB (bA ps))=kL::(tks ps++[kR]):=by
 match ps,ne with
 | [f],_=>
  show Hs ((40::f)++[41])++[]=kL::((Hs f++[])++[kR]);rw[V9 (by rw[G7];exact co f jv),WD];simp
 | f::y::r,_=>
  obtain⟨l,p,e⟩:=gw (ps:=y::r) (by simp);have E:bB (bA (f::y::r))=(40::f)::(l++[p++[41]]):=by
   show(40::f)::bB (y::r)=_;rw[e,iw]
  rw[E,e];unfold tks;rw[jd7,jh1,jd7,List.flatMap_nil,jd7,jh1,jd7,List.flatMap_nil,WD,V9 (co p (by rw[e];simp))];simp
theorem bh{ps:List Wd}(ne:ps≠[])(bl:∀p∈ps,32∉p):L2.spl 32 (jn ps)=ps:=by
 cases ps with
 | nil=>exact absurd rfl ne
 | cons w ws=>exact nY bl
theorem Yx{ws:List Wd}{q:Wd}(h:q∈bB (bA ws))(ne:ws≠[]):∃w∈ws,q=w\/q=40::w\/q=w++[41]\/q=40::w++[41]:=by
 have A:∀q∈bA ws,∃w∈ws,q=w\/q=40::w:=fun q hq=>by
  cases ws with
  | nil=>exact absurd rfl ne
  | cons f r=>
   rcases qv.mp hq with z | z
   ·exact⟨f,jv,.inr z⟩
   ·exact⟨q,qh _ z,.inl rfl⟩
 obtain⟨l,p,e⟩:=gw (Nz ne);rw[e] at A;rw[e,iw] at h;rcases ku.mp h with z | z
 ·obtain⟨w,hw,h⟩:=A q (jj4 _ z);exact⟨w,hw,h.elim .inl fun h=>.inr (.inl h)⟩
 ·obtain⟨w,hw,h⟩:=A p (vi _ jv);rw[vb.mp z];rcases h with h | h
  ·exact⟨w,hw,.inr (.inr (.inl (by rw[h])))⟩
  ·exact⟨w,hw,.inr (.inr (.inr (by rw[h])))⟩
theorem YW{c:Nat}(h:c≠32):∀{ws:List Wd},c∈jn ws->∃w∈ws,c∈w
 | [],m=>(nomatch m)
 | [w],m=>⟨w,jv,m⟩
 | w::x::r,m=>by
  rw[Jf (by simp)] at m;rcases ku.mp m with m | m
  ·exact⟨w,jv,m⟩
  ·rcases qv.mp m with m | m
   ·exact absurd m h
   ·obtain⟨y,hy,z⟩:=YW h m;exact⟨y,qh _ hy,z⟩
end Fw
namespace Fw
open PySem L2 PyProof.Rows
noncomputable def top(i:Nat):Stmt:=PySem.Challenge.pw_feastwheel_k92_whole_asked_of_texts.main.body.getD i (.Pass ⟨0,0,0,0⟩)
noncomputable abbrev je:Stmt:=top 19
noncomputable abbrev Vh:Stmt:=top 20
noncomputable abbrev Zi:Stmt:=top 21
noncomputable abbrev Vc:Stmt:=top 22
noncomputable abbrev Zb:Stmt:=top 24
noncomputable abbrev Xh:Stmt:=top 25
noncomputable abbrev Zm:Stmt:=top 26
noncomputable abbrev Lz:Stmt:=top 33
noncomputable abbrev jf:Stmt:=top 34
noncomputable abbrev cT:Stmt:=top 35
noncomputable abbrev oX:Stmt:=top 36
noncomputable abbrev Mq:Stmt:=top 42
noncomputable abbrev cD:Stmt:=top 43
noncomputable abbrev jg:Stmt:=top 44
noncomputable abbrev zg:Stmt:=top 45
noncomputable abbrev Zj:Stmt:=top 47
noncomputable abbrev ji:Stmt:=top 48
noncomputable abbrev ZW:Stmt:=top 49
noncomputable abbrev Vi:Stmt:=top 53
noncomputable abbrev zq:Stmt:=top 54
noncomputable abbrev oW:Stmt:=top 55
noncomputable abbrev oU:Stmt:=top 56
noncomputable abbrev jU:Stmt:=top 57
noncomputable abbrev Xi:Stmt:=top 58
noncomputable abbrev uo:Stmt:=top 59
noncomputable abbrev cG:Stmt:=top 62
noncomputable abbrev cO:Stmt:=top 63
noncomputable abbrev jX:Stmt:=top 64
noncomputable abbrev Xl:Stmt:=top 65
noncomputable abbrev cP:Stmt:=top 66
noncomputable abbrev Sh:Stmt:=top 67
noncomputable abbrev jY:Stmt:=top 68
noncomputable abbrev jV:Stmt:=top 73
noncomputable abbrev Xf:Stmt:=top 74
noncomputable abbrev jd:Stmt:=top 75
noncomputable abbrev Ss:Stmt:=top 76
noncomputable abbrev Oh:Stmt:=top 77
noncomputable abbrev Zc:Stmt:=top 78
noncomputable abbrev Gn:Stmt:=inClass (top 79) 0
noncomputable abbrev Xq:Stmt:=inClass (top 79) 1
noncomputable abbrev S8:Stmt:=inClass (top 79) 2
noncomputable abbrev Om:Stmt:=inClass (top 79) 3
noncomputable abbrev S9:Stmt:=inClass (top 79) 4
noncomputable abbrev Qk:Stmt:=top 86
noncomputable abbrev Gs:Stmt:=inClass (top 87) 0
noncomputable abbrev Oj:Stmt:=inClass (top 87) 1
noncomputable abbrev Vj:Stmt:=inClass (top 87) 2
noncomputable abbrev Vk:Stmt:=inClass (top 87) 3
noncomputable abbrev Zn:Stmt:=inClass (top 87) 4
noncomputable abbrev Vb:Stmt:=top 88
noncomputable abbrev Qq:Stmt:=inClass (top 89) 0
noncomputable abbrev Mt:Stmt:=inClass (top 89) 1
noncomputable abbrev Sy:Stmt:=inClass (top 89) 2
noncomputable abbrev S5:Stmt:=inClass (top 89) 3
noncomputable abbrev Xp:Stmt:=inClass (top 89) 4
noncomputable abbrev Sg:Stmt:=top 91
noncomputable abbrev ZX:Stmt:=top 92
noncomputable abbrev Xg:Stmt:=top 93
noncomputable abbrev cF:Stmt:=top 94
noncomputable abbrev Za:Stmt:=top 95
noncomputable abbrev Ql:Stmt:=top 96
noncomputable abbrev Mv:Stmt:=inClass (top 98) 0
noncomputable abbrev Qj:Stmt:=top 110
noncomputable abbrev Qm:Stmt:=top 111
noncomputable abbrev Sv:Stmt:=top 112
noncomputable abbrev Xn:Stmt:=top 113
noncomputable abbrev cQ:Stmt:=top 115
noncomputable abbrev za:Stmt:=top 116
noncomputable abbrev um:Stmt:=top 117
noncomputable abbrev zc:Stmt:=top 118
noncomputable abbrev Sq:Stmt:=top 119
noncomputable abbrev zj:Stmt:=top 120
noncomputable abbrev ACb:Stmt:=top 121
noncomputable abbrev uq:Stmt:=top 122
noncomputable abbrev HY:Stmt:=inClass (top 124) 0
noncomputable abbrev Ol:Stmt:=inClass (top 124) 1
noncomputable abbrev KH:Stmt:=inClass (top 124) 3
noncomputable abbrev TV:Stmt:=inClass (top 125) 0
noncomputable abbrev Vo:Stmt:=inClass (top 126) 0
noncomputable abbrev Zk:Stmt:=top 127
noncomputable abbrev Qs:Stmt:=inClass (top 128) 0
noncomputable abbrev VR:Stmt:=top 129
noncomputable abbrev Xm:Stmt:=top 130
noncomputable abbrev Gz:Stmt:=inClass (top 131) 0
noncomputable abbrev Sx:Stmt:=inClass (top 132) 0
noncomputable abbrev Qu:Stmt:=inClass (top 133) 0
noncomputable abbrev Mu:Stmt:=inClass (top 134) 0
noncomputable abbrev TQ:Stmt:=inClass (top 135) 0
noncomputable abbrev Mr:Stmt:=inClass (top 136) 0
noncomputable abbrev Oo:Stmt:=inClass (top 137) 0
noncomputable abbrev Qn:Stmt:=inClass (top 138) 0
noncomputable abbrev Oi:Stmt:=inClass (top 139) 0
noncomputable abbrev Qp:Stmt:=inClass (top 140) 0
noncomputable abbrev Qo:Stmt:=inClass (top 141) 0
noncomputable abbrev TF:Stmt:=inClass (top 142) 0
noncomputable abbrev Oq:Stmt:=inClass (top 143) 0
noncomputable abbrev Ms:Stmt:=inClass (top 147) 0
noncomputable abbrev Vn:Stmt:=inClass (top 147) 1
noncomputable abbrev Vm:Stmt:=inClass (top 147) 2
noncomputable abbrev cB:Stmt:=top 148
noncomputable abbrev ZR:Stmt:=top 149
noncomputable abbrev Va:Stmt:=top 150
noncomputable abbrev VV:Stmt:=top 151
noncomputable abbrev ZS:Stmt:=top 152
noncomputable abbrev ZV:Stmt:=top 153
noncomputable abbrev HX:Stmt:=top 154
noncomputable abbrev JZ:Stmt:=top 155
noncomputable abbrev KC:Stmt:=top 156
noncomputable abbrev Io:Stmt:=top 157
noncomputable abbrev J9:Stmt:=top 158
noncomputable abbrev Zf:Stmt:=top 159
noncomputable abbrev Ze:Stmt:=top 160
noncomputable abbrev cH:Stmt:=top 161
noncomputable abbrev ZZ:Stmt:=top 162
noncomputable abbrev ZQ:Stmt:=top 169
noncomputable abbrev jW:Stmt:=top 172
noncomputable abbrev Sw:Stmt:=top 173
noncomputable abbrev ZM:Stmt:=top 174
noncomputable abbrev ZP:Stmt:=top 175
noncomputable abbrev cC:Stmt:=top 176
noncomputable abbrev Xe:Stmt:=top 177
noncomputable abbrev Sd:Stmt:=top 187
noncomputable abbrev jc:Stmt:=top 188
noncomputable abbrev Zg:Stmt:=top 189
noncomputable abbrev Vd:Stmt:=top 190
noncomputable abbrev zm:Stmt:=top 191
noncomputable abbrev Qt:Stmt:=inClass (top 192) 0
noncomputable abbrev cU:Stmt:=inClass (top 192) 1
noncomputable abbrev Vf:Stmt:=top 194
noncomputable abbrev Xk:Stmt:=top 195
noncomputable abbrev cJ:Stmt:=top 196
noncomputable abbrev Su:Stmt:=top 197
noncomputable abbrev cL:Stmt:=top 198
noncomputable abbrev jZ:Stmt:=top 199
noncomputable abbrev cI:Stmt:=top 200
noncomputable abbrev Xj:Stmt:=top 201
noncomputable abbrev Zh:Stmt:=top 202
noncomputable abbrev oV:Stmt:=top 203
noncomputable abbrev cN:Stmt:=top 204
noncomputable abbrev Vg:Stmt:=top 205
noncomputable abbrev cM:Stmt:=top 206
noncomputable abbrev Ve:Stmt:=top 207
noncomputable abbrev jb:Stmt:=top 208
noncomputable abbrev gP:Stmt:=top 209
noncomputable abbrev Vl:Stmt:=inClass (top 83) 0
noncomputable abbrev S7:Stmt:=inClass (top 83) 0
noncomputable def oN(K:Fr):Sp:=fun vs H Q _=>Ex3 fun(a:Addr) (ns:List Int) (k:Int)=>An5 (vs=[.ref a,.int k]) (SqL K H a (ns.map V.int)) (0<=k) (ns.length<=63) (Q (.int (ns.getD k.toNat 0)) H)
noncomputable def uC:Sp:=fun vs H Q _=>∃i:Int,vs=[.int i]/\Q (.bl true) H
variable{K:Fr}{a:Addr}{H:Hp}{Q:VK}{E:XK}
theorem gY{ns:List Int}{k:Int}(hS:SqL K H a (ns.map V.int))(hl:ns.length<=63)(hk:0<=k)(h:Q (.int (ns.getD k.toNat 0)) H):oN K ([.ref a,.int k]++[]) H Q E:=⟨a,ns,k,rfl,hS,hk,hl,h⟩
variable{i:Int}
theorem Zq(h:Q (.bl true) H):uC ([.int i]++[]) H Q E:=⟨i,rfl,h⟩
theorem wu{ns:List Int}{k:Int}(h0:0<=k)(h:k<(ns.length:Int)):atI (ns.map V.int) k=some (.int (ns.getD k.toNat 0)):=by
 have hk:k.toNat<ns.length:=by lia
 have ek:k=((k.toNat:Nat):Int):=by lia
 have q:atI (ns.map V.int) ((k.toNat:Nat):Int)=some (.int ns[k.toNat]):=Dm (by rw[zo,qo hk]<;>rfl);rw[<-ek] at q;rw[q];simp[List.getD,hk]
theorem p40:(10:Int)^(40:Int).toNat=10000000000000000000000000000000000000000:=by decide
theorem p39:(10:Int)^(39:Int).toNat=1000000000000000000000000000000000000000:=by decide
theorem Ww{x:Int}(h1: -1000000000000000000000000000000000000000000000000000000000000<=x)(h2:x<=1000000000000000000000000000000000000000000000000000000000000):Bt 200 x:=by
 unfold Bt;have:(2:Nat)^200=1606938044258990275541962092341162602522202993782792835301376:=by decide
 lia
theorem Hz{a b:V}:([a,b]:List V).length<=sizeLine:=by show 2<=sizeLine;decide
variable{y:V}
theorem at0{x:V}:atI [x,y] 0=some x:=rfl
theorem at1{x:V}:atI [x,y] 1=some y:=rfl
local macro_rules | `(tactic| symm)=> `(tactic| (repeat (first | fail "r" | ((with_reducible refine' Fw.gY ?hc1 ?hc2 ?hc3 ?_);(case hc1=>assumption);(case hc2=>assumption);(case hc3=>decide)) | with_reducible refine Fw.Zq ?_)))
local macro_rules | `(tactic| exists $e)=> `(tactic| (refine $e;symm))
noncomputable def nq:Sp:=fun vs H Q _=>∃n:Int,An3 (vs=[.int n]) (1<=n) (Q .non H)
noncomputable def ADk:Sp:=fun vs H Q _=>Ex2 fun(a b:Int)=>An4 (vs=[.int a,.int b]) (Bt 500 a) (Bt 500 b) (∀(p:Addr) (u v g:Int) (H':Hp),Av H H'->H' p=some (.tup [.int u,.int v,.int g])->Eqn a b u v g->Q (.ref p) H')
noncomputable def jP:Sp:=fun vs H Q _=>Ex2 fun(a b:Int)=>An4 (vs=[.int a,.int b]) (Bt 500 a) (Bt 500 b) (∀H',Av H H'->Q (.int (Int.gcd a b:Int)) H')
noncomputable def oM:Sp:=fun vs H Q _=>Ex2 fun(a b:Int)=>An6 (vs=[.int a,.int b]) (0<a) (0<b) (Bt 500 a) (Bt 500 b) (∀H',Av H H'->Q (.int (Ci a b)) H')
theorem ABX{x z:V}:atI [x,y,z] 0=some x:=rfl
theorem ABW{x z:V}:atI [x,y,z] 1=some y:=rfl
theorem bD{x z:V}:atI [x,y,z] 2=some z:=rfl
theorem three{a b c:V}:([a,b,c]:List V).length<=sizeLine:=by show 3<=sizeLine;decide
theorem two{a b:V}:([a,b]:List V).length<=sizeLine:=by show 2<=sizeLine;decide
theorem iu{k m:Nat}{x y:Int}(h:Bt k y)(l:x.natAbs<=4*y.natAbs+4)(hk:k+4<=m):Bt m x:=by
 unfold Bt at*
 have p:2^(k+4)<=2^m:=vc (by decide) hk;have e:2^(k+4)=2^k*16:=by rw[jl8]
 lia
theorem ABQ{k m:Nat}{x y z:Int}(h:Bt k y)(h':Bt k z)(l:x.natAbs<=y.natAbs+z.natAbs+4)(hk:k+4<=m):Bt m x:=by
 unfold Bt at*
 have p:2^(k+4)<=2^m:=vc (by decide) hk;have e:2^(k+4)=2^k*16:=by rw[jl8]
 lia
theorem Bx{k:Nat}{x:Int}(h0:0<=x)(h1:x<18446744073709551616)(hk:64<=k):Bt k x:=Bt.mono (k:=64) (by unfold Bt;lia) hk
noncomputable def zR:Sp:=fun vs H Q _=>∃n:Int,An4 (vs=[.int n]) (0<=n) (n<=1000000) (Q (.int ((2^n.toNat-1:Nat):Int)) H)
noncomputable def ACI(K:Fr):Sp:=fun vs H Q _=>Ex4 fun(a:Addr) (n d:Int) (b:Nat)=>An4 (vs=[.ref a,.int d]) (SqT K H a [.int n,.int (b:Int)]) (0<n) (Q (.bl (On n b d)) H)
variable{b:Nat}
theorem Iz{n:Nat}(h:b<2^n):Bt n (b:Int):=by unfold Bt;rw[Int.natAbs_natCast];exact h
theorem AAb(b k:Nat):decide (V.int (((b:Nat):Int)/2^k%2)=V.int 1)=b.testBit k:=by
 rw[<-ACs,ja1];simp
theorem bt1:Bt 1 1:=by unfold Bt;decide
variable{d:Int}
theorem Mg{k:Nat}{n:Int}(h:Bt k d)(hn:0<n):Bt k (d/n):=by
 refine h.le ?_;rcases Int.lt_or_le d 0 with c | c
 ·have h1:d/n<0:=Int.ediv_neg_of_neg_of_pos c hn;have h2:d<=d/n:=(Int.le_ediv_iff_mul_le hn).mpr (by
   have:=Int.mul_le_mul_of_nonpos_left (show d<=0 by lia) (show 1<=n by lia);lia)
  lia
 ·have h1:0<=d/n:=jg0 c (by lia);have h2:d/n<=d:=je7 n c;lia
theorem _root_.L2.Bt.sub{k:Nat}{x y:Int}(h:Bt k x)(g:Bt k y):Bt (k+1) (x-y):=by
 have:=h.add g.neg
 rwa [<-Int.sub_eq_add_neg] at this
noncomputable def uJ:Sp:=fun vs H Q _=>Ex3 fun(b k n:Nat)=>An5 (vs=[.int (b:Int),.int (k:Int)]) (b<2^n) (n<=150000) (k<cnt b n) (∀(p:Nat) H',Av H H'->b.testBit p=true->cnt b p=k->Q (.int (p:Int)) H')
theorem wY{k:Nat}(h:k<=150000):Bt 18 (k:Int):=Iz (yk h (by decide))
theorem yU{k:Nat}{n:Int}(hn:0<n)(h1:n<=150000)(hd:Bt k d):Bt (k+19) (CC n b d):=by
 have m0:=zh d (show n≠0 by lia);have m1:=qk d hn;have c1:=Ui b n.toNat;have c2:=Ui b (d%n).toNat;unfold CC;exact((Mg hd hn).mul (wY (by lia))).add ((wY (by lia)).mono (by lia))
theorem Ja{f:Int->Int->V}{j:Int}(h:Q (f i j) H)(a:0<=i:=by lia)(b:i<18446744073709551616:=by lia)(c:0<=j:=by lia)(d:j<18446744073709551616:=by lia):rI jB f (.int i) (.int j) H Q:=Ds ⟨64,64,Bx a b (by decide),Bx c d (by decide),by decide⟩ h
noncomputable def jJ:Sp:=fun vs H Q _=>∃n:Int,An3 (vs=[.int n]) (n<=150000) (Q .non H)
noncomputable def V7(K:Fr):Sp:=fun vs H Q _=>Ex4 fun(a:Addr) (n z:Int) (b:Nat)=>An8 (vs=[.ref a,.int z]) (SqT K H a [.int n,.int (b:Int)]) (0<n) (n<=300000) (b<2^n.toNat) (0<z) (z<=150000) (∀c:Nat,N8 n.toNat b z.toNat c->Q (.int (c:Int)) H)
theorem wy(b k:Nat):decide (V.int (Builtin.bitAnd ((b:Int)/2^k) 1)=V.int 1)=b.testBit k:=by
 rw[JD,show(1:Int)=((1:Nat):Int) from rfl,Ey,Nat.and_one_is_mod,<-AAb]
 congr 1
 rw[JD];have e:(((b >>> k:Nat):Int)%2)=((b >>> k%2:Nat):Int):=by lia
 rw[e];rfl
noncomputable def Tj(b k:Nat):List V:=(List.range k).map fun j=>V.int ((pc b j:Nat):Int)
theorem My(b k:Nat):(Tj b k).length=k:=by unfold Tj;simp
theorem Mz{k j:Nat}(h:j<k):(Tj b k)[j]?=some (V.int ((pc b j:Nat):Int)):=by
 unfold Tj;rw[zo,List.getElem?_range h];rfl
theorem jo(k:Nat):(List.replicate k [V.int 0]).flatten=Tj 0 k:=by
 unfold Tj;have:(fun j=>V.int ((pc 0 j:Nat):Int))=fun _=>V.int 0:=by
  funext j
  unfold pc;simp
 rw[this,List.map_const',Zl]
 induction k with
 | zero=>rfl
 | succ k ih=>rw[ja2,jd8,ih,ja2];rfl
theorem pN{k p:Nat}(h:p/256<k):(Tj b k).set (p/256) (V.int ((pc b (p/256) ||| 2^(p%256):Nat):Int))=Tj (b ||| 2^p) k:=by
 refine List.ext_getElem? fun j=>?_;rw[List.getElem?_set];by_cases hj:j<k
 ·rw[Mz hj];by_cases c:p/256=j
  ·rw[ya c,ya (by rw[My];lia)];subst c;rw[Mz hj,pP]
  ·rw[ua c,Mz hj,pO (Ne.symm c)]
 ·have e:∀b,(Tj b k)[j]?=none:=fun b=>jm4 (by rw[My];lia);rw[ua (by lia),e,e]
noncomputable def jL(K:Fr):Sp:=fun vs H Q _=>Ex3 fun(a:Addr) (ds:List Int) (n:Int)=>An5 (vs=[.int n,.ref a]) (SqL K H a (ds.map V.int)) (0<n) (n<=150000) (∀(p:Addr) (b:Nat) (H':Hp),Av H H'->H' p=some (.tup [.int n,.int (b:Int)])->RB n ds b->Q (.ref p) H')
theorem u6{n:Int}(hn:0<n)(hb:b<2^n.toNat):b%2^(256*((n/256+1).toNat))=b:=
 jh9 (xh hb (vc (by decide) (by lia)))
noncomputable def dl(b m:Nat):List Nat:=(List.range m).filter fun i=>b.testBit i
theorem lF(xs:List Int):Hu (xs.map V.int) (some 1) none=(xs.drop 1).map V.int:=lH xs 1
theorem lE(xs:List V):Hu xs none (some 1)=xs.take 1:=rB xs 1
theorem rC{b:Addr}{xs ys:List Int}{Z:L2.St}{te:TE}(ha:SqL K H a (xs.map V.int))(hb:SqL K H b (ys.map V.int))(hl:xs.length<sizeLine)(f:Int->Int->Int)
 (he:∀(x y:Int) (H':Hp) (Q':VK),Q' (.int (f x y)) H'->te (some (.int x)::some (.int y)::Z) H' Q')
 (h:∀(D:Addr) (H':Hp),H D=none->Av H H'->H' D=some (.lst ((List.zipWith f xs ys).map V.int))->Q (.ref D) H'):
 VF 2 (qe K 2 (Wa (J3 0) (Wa (J3 1) wA))) fZ te Z Q (sO K a b false) H:=by
 intro D hD;have zl:(List.zipWith f xs ys).length=min xs.length ys.length:=List.length_zipWith;refine⟨fun i m zs H2=>i<=min xs.length ys.length/\m=min xs.length ys.length-i/\zs=((List.zipWith f xs ys).take i).map V.int/\H2 D=some (.lst zs)/\Av H H2,⟨_,vj _,rfl,rfl,An,Ax hD _⟩,?_⟩;rintro i m zs H2 ⟨hi,rfl,rfl,hz,s2⟩;refine⟨hz,?_⟩;by_cases c:i<min xs.length ys.length
 ·have c1:i<xs.length:=by lia
  have c2:i<ys.length:=by lia
  have ex:(xs.map V.int)[i]?=some (.int xs[i]):=by rw[zo,qo c1];rfl
  have ey:(ys.map V.int)[i]?=some (.int ys[i]):=by rw[zo,qo c2];rfl
  refine .inr ⟨⟨_,_,_,_,s2.seq ha,s2.seq hb,ex,ey⟩,?_,min xs.length ys.length-(i+1),by lia,?_⟩
  ·rw[js,jf0];lia
  rintro v H3 ⟨T,x,y,hT,rfl,rfl,hxy⟩ ρ hρ;obtain⟨gx,gy⟩:=hxy _ _ (s2.seq ha) (s2.seq hb);rw[ex] at gx;rw[ey] at gy;cases gx;cases gy;obtain⟨p,q,rfl⟩:∃p q,ρ=[p,q]:=by
   match ρ,hρ with
   | [p,q],_=>exact⟨p,q,rfl⟩
  refine⟨T,[.int xs[i],.int ys[i]],rfl,SqT.of An,rfl,.int xs[i],[.int ys[i]],rfl,.int ys[i],[],rfl,⟨rfl,[some (.int xs[i]),some (.int ys[i])],rfl,rfl,?_⟩⟩;refine Gu ?_;rw[ya rfl];have nT:D≠T:=Bp hz hT;refine he _ _ _ _ ⟨by rw[BK nT];exact hz,by lia,rfl,?_,An,?_⟩
  ·rw[List.take_succ,uk]
   congr 1
   have:(List.zipWith f xs ys)[i]?=some (f xs[i] ys[i]):=by
    rw[List.getElem?_zipWith',qo c1,qo c2];rfl
   rw[this];rfl
  ·exact Ek hD (s2.trans (Ax hT _))
 ·have e:i=min xs.length ys.length:=by lia
  refine .inl ⟨⟨_,_,s2.seq ha,s2.seq hb,by rw[js,js];exact e⟩,h D H2 hD s2 ?_⟩;rw[hz,xy (by lia)]
noncomputable def zL(K:Fr):Sp:=fun vs H Q _=>Ex5 fun(a:Addr) (n f e:Int) (b:Nat)=>An8 (vs=[.ref a,.int f,.int e]) (SqT K H a [.int n,.int (b:Int)]) (0<n) (n<=150000) (b<2^n.toNat) (Bt 250 f) (Bt 250 e) (∀H',Av H H'->Q (.int (CC n b e-CC n b f)) H')
noncomputable def zE:Sp:=fun vs H Q _=>Ex2 fun(b n:Nat)=>An4 (vs=[.int (b:Int)]) (b<2^n) (n<=150000) (∀H',Av H H'->Q (.int ((cnt b n:Nat):Int)) H')
noncomputable def ue(K:Fr):Sp:=fun vs H Q _=>Ex4 fun(a:Addr) (n d:Int) (b:Nat)=>An7 (vs=[.ref a,.int d]) (SqT K H a [.int n,.int (b:Int)]) (0<n) (n<=150000) (b<2^n.toNat) (Bt 260 d) (∀H',Av H H'->Q (.int (CC n b d)) H')
theorem iK{w z f c:Nat}(w0:0<w)(hf:f<2^z)(S:N8 (2*w) (2^w-1) z c)(k:Nat):Ev w (f/2^k) ((f/2^k) &&& c):=fun i=>by
 rw[jb0];have fl:f/2^k<2^z:=yk (Nat.div_le_self _ _) hf;by_cases h:i<z
 ·rw[S.bit i h,ji9]
 ·rw[high fl (by lia)];rfl
structure RC(K:Fr)(CR C:Addr):Prop where
 cl:Cls K C
 k:Df K C "kept"
 m:Df K C "made_of"
 w:Df K C "words"
 ca:PySem.W.findIn K (.ref C) "__class__"=some (some (.builtin "object.__class__"))
 ob:PySem.W.mroIn K C (.type "object")=some true
 isr:PySem.W.kitOne K (.ref C) (.ref CR)=some true
noncomputable def rF(p pm pw:Addr):List (Str×V):=[("kept",.ref p),("made_of",.ref pm),("words",.ref pw)]
structure Dn(K:Fr)(CR:Addr)(CL:List Addr)(H:Hp)(x:Addr)(n:Int)(b:Nat):Prop where
 ex:∃C dx p pm pw,C∈CL/\RC K CR C/\H x=some (.ins C dx (rF p pm pw))/\H p=some (.tup [.int n,.int (b:Int)])
 n0:0<n
 n1:n<=150000
 lt:b<2^n.toNat
variable{x:Addr}{H':Hp}
theorem Dn.same{CR:Addr}{CL:List Addr}{n:Int}(R:Dn K CR CL H x n b)(s:Av H H'):Dn K CR CL H' x n b:=by
 obtain⟨C,dx,p,pm,pw,h1,h2,h3,h4⟩:=R.ex;exact⟨⟨C,dx,p,pm,pw,h1,h2,s _ _ h3,s _ _ h4⟩,R.n0,R.n1,R.lt⟩
noncomputable def KB(x:Addr)(H H':Hp):Prop:=∀y o,y≠x->H y=some o->H' y=some o
variable{H1:Hp}
theorem KB.pre(s:Av H H1)(k:KB x H1 H'):KB x H H':=fun y o h e=>k y o h (s _ _ e)
variable{o:HO}
theorem WP{dx:Addr}{o':HO}(hx:H1 x=none)(hd:H1 dx=none)(ne:dx≠x)(k:KB x (upd (upd H1 dx o) x o') H'):Av H1 H':=fun y u e=>by
 have y1:y≠x:=Bp e hx;have y2:y≠dx:=Bp e hd;exact k y u y1 (by rw[BK y1,BK y2];exact e)
noncomputable def gH(K:Fr)(CR:Addr):Sp:=fun vs H Q _=>Ex6 fun(x p pm pw C dx:Addr)=>An4 (vs=[.ref x,.ref p,.ref pm,.ref pw]) (H x=some (.ins C dx [])) (RC K CR C) (∀H',KB x H H'->H' x=some (.ins C dx (rF p pm pw))->Q .non H')
noncomputable def Ls(K:Fr)(CR:Addr)(CL:List Addr)(C:Addr)(H:Hp)(x:Addr)(Q:VK)(n:Int)(G:Nat->Prop):Prop:=(∃dx,H x=some (.ins C dx []))/\∀(b:Nat) H',KB x H H'->Dn K CR CL H' x n b->G b->Q .non H'
noncomputable def ACS(K:Fr)(CR:Addr)(CL:List Addr)(C:Addr)(b0:Nat):Sp:=fun vs H Q _=>∃x,vs=[.ref x]/\Ls K CR CL C H x Q 1 (fun b=>b=b0)
noncomputable def RT(K:Fr)(CR:Addr)(CL:List Addr):Sp:=fun vs H Q _=>Ex3 fun(x:Addr) (n:Int) (b:Nat)=>An3 (vs=[.ref x]) (Dn K CR CL H x n b) (∀p,H p=some (.tup [.int n,.int (b:Int)])->Q (.ref p) H)
noncomputable def gJ(K:Fr)(CR:Addr)(CL:List Addr):Sp:=fun vs H Q _=>Ex4 fun(x:Addr) (n d:Int) (b:Nat)=>An3 (vs=[.ref x,.int d]) (Dn K CR CL H x n b) (Q (.bl (On n b d)) H)
theorem GQ{CR:Addr}{CL:List Addr}{C dx p pm pw:Addr}{H2:Hp}{n:Int}(hC:C∈CL)(R:RC K CR C)(hx:H2 x=some (.ins C dx []))(hp:H2 p=some (.tup [.int n,.int (b:Int)]))(k:KB x H2 H')(e:H' x=some (.ins C dx (rF p pm pw)))(n0:0<n)(n1:n<=150000)(lt:b<2^n.toNat):Dn K CR CL H' x n b:=
 ⟨⟨C,dx,p,pm,pw,hC,R,e,k _ _ (Ho hp hx (fun z=>nomatch z)) hp⟩,n0,n1,lt⟩
noncomputable def gO(K:Fr):Sp:=fun vs H Q _=>Ex4 fun(a:Addr) (n num:Int) (b:Nat)=>An6 (vs=[.ref a,.int num]) (SqT K H a [.int n,.int (b:Int)]) (0<n) (n<=150000) (b<2^n.toNat) (∀p,H p=none->Q (.ref p) (upd H p (.tup [.int n,.int ((lat n.toNat b (num%n).toNat:Nat):Int)])))
theorem YS{n z:Int}(n0:0<n)(z0:0<z)(h:n∣z):Ci n z=z:=by
 have f:=Bv n0 z0;have h1:Ci n z∣z:=f.2.2.2.2.1 _ h (jg6 _);exact Int.dvd_antisymm (by lia) (by lia) h1 f.2.2.1
noncomputable def bn(a b:Bool):Bool:=a&&!b
section
variable(K:Fr)
end
theorem iH{n k:Int}(hn:0<n)(hk:0<k):k<=n*k:=by
 have:=ui (show 1<=n by lia) (Jn hk);lia
theorem vf{n k:Int}(hn:0<n)(hk:0<k):n<=n*k:=by
 have:=jb3 (show 1<=k by lia) (Jn hn);lia
structure Rn(H:Hp)(a:Addr)(n:Int)(b:Nat):Prop where
 s:H a=some (.tup [.int n,.int (b:Int)])
 p:0<n
 l:n<=150000
 k:b<2^n.toNat
noncomputable def RQ(z:Int)(H:Hp)(Q:VK):Prop:=∀(p:Addr) (c:Nat) (H':Hp),Av H H'->Rn H' p z c->Q (.ref p) H'
noncomputable def ABz:Sp:=fun vs H Q _=>Ex4 fun(a:Addr) (n z:Int) (b:Nat)=>An6 (vs=[.ref a,.int z]) (Rn H a n b) (0<z) (z<=150000) (n∣z) (RQ z H Q)
noncomputable def ADl:Sp:=fun vs H Q _=>Ex6 fun(a1 a2:Addr) (n1 n2:Int) (b1 b2:Nat)=>An5 (vs=[.ref a1,.ref a2]) (Rn H a1 n1 b1) (Rn H a2 n2 b2) (Ci n1 n2<=150000) (∀H',Av H H'->Q (.int (Ci n1 n2)) H')
noncomputable def Qh:Sp:=fun vs H Q _=>Ex6 fun(a1 a2:Addr) (n1 n2:Int) (b1 b2:Nat)=>An5 (vs=[.ref a1,.ref a2]) (Rn H a1 n1 b1) (Rn H a2 n2 b2) (Ci n1 n2<=150000) (RQ (Ci n1 n2) H Q)
noncomputable def xZ:Sp:=fun vs H Q _=>Ex3 fun(a:Addr) (n:Int) (b:Nat)=>An3 (vs=[.ref a]) (Rn H a n b) (RQ n H Q)
noncomputable def ACT(mg:Str->Option Value)(L:List (Str×Sp)):Sp:=fun vs H Q _=>Ex8 fun(a1 a2 f:Addr) (n e:Int) (b c:Nat) (x:Str)=>An7 (vs=[.ref a1,.ref a2,.int e,.ref f]) ((x,Qh)∈L) (mg x=some (.ref f)) (Rn H a1 n b) (Rn H a2 n c) (e=1\/e= -1) (RQ n H Q)
noncomputable def ACM:Sp:=fun vs H Q _=>Ex7 fun(k:Int) (a1 a2:Addr) (n1 n2:Int) (b1 b2:Nat)=>An6 (vs=[.int k,.ref a1,.ref a2]) (Rn H a1 n1 b1) (Rn H a2 n2 b2) (k≠0) (Ci n1 n2<=150000) (RQ (Ci n1 n2) H Q)
noncomputable def ACU:Sp:=fun vs H Q _=>Ex5 fun(k d:Int) (a:Addr) (n:Int) (b:Nat)=>An7 (vs=[.int k,.ref a,.int d]) (Rn H a n b) (Bt 250 d) (Bt 400 k) (1<=k) (n*k<=150000) (RQ (n*k) H Q)
noncomputable def ACW:Sp:=fun vs H Q _=>Ex3 fun(a:Addr) (n:Int) (b:Nat)=>An3 (vs=[.ref a]) (Rn H a n b) (∀(l:Addr) (ds:List Int) (H':Hp),Av H H'->H' l=some (.lst (ds.map V.int))->(ds.length:Int)<=n+256->Q (.ref l) H')
section
variable{H H':Hp}{a a':Addr}{z:Int}{b b':Nat}{Q:VK}{E:XK}
theorem Rn.same{n:Int}(R:Rn H a n b)(s:Av H H'):Rn H' a n b:=⟨s _ _ R.s,R.p,R.l,R.k⟩
theorem RQ.of(q:RQ z H Q)(s:Av H H'):RQ z H' Q:=fun p c H1 s1=>q p c H1 (s.trans s1)
theorem Rn.bi{n:Int}(R:Rn H a n b)(z0:0<z)(z1:z<=150000)(q:∀c:Nat,c<2^z.toNat->Q (.int (c:Int)) H):V7 K [.ref a,.int z] H Q E:=⟨a,n,z,b,rfl,SqT.of R.s,R.p,by have:=R.l;lia,R.k,z0,z1,fun c S=>q c S.lt⟩
theorem JW.self(R:Rn H a z b)(R':Rn H a' z b')(q:RQ z H Q):Qh [.ref a,.ref a'] H Q E:=by
 have e:=lcm_self R.p;exact⟨a,a',z,z,b,b',rfl,R,R',by rw[e];exact R.l,by rw[e];exact q⟩
theorem RQ.mk{p:Addr}{c:Nat}(q:RQ z H Q)(hp:H p=none)(z0:0<z)(z1:z<=150000)(h:c<2^z.toNat):Q (.ref p) (upd H p (.tup [.int z,.int (c:Int)])):=q p c _ (Ax hp _) ⟨An,z0,z1,h⟩
theorem Rn.la{num:Int}(R:Rn H a z b)(q:RQ z H Q):gO K [.ref a,.int num] H Q E:=⟨a,z,num,b,rfl,SqT.of R.s,R.p,R.l,R.k,fun _ hp=>q.mk hp R.p R.l (dX _ _ _)⟩
end
noncomputable def tmV(t:Tm):List V:=[.int t.1,.int t.2.1,.int t.2.2.1,.int t.2.2.2]
inductive Tms(H:Hp):List V->List Tm->Prop
 | nil:Tms H [] []
 | cons {p:Addr} {t:Tm} {vs:List V} {ts:List Tm}:H p=some (.tup (tmV t))->Tms H vs ts->Tms H (.ref p::vs) (t::ts)
theorem Tms.same(s:Av H H'):∀{vs:List V} {ts:List Tm},Tms H vs ts->Tms H' vs ts
 | _,_,.nil=>.nil
 | _,_,.cons h t=>.cons (s _ _ h) (Tms.same s t)
theorem Tms.len:∀{vs:List V} {ts:List Tm},Tms H vs ts->vs.length=ts.length
 | _,_,.nil=>rfl
 | _,_,.cons _ t=>by rw[qm,qm,Tms.len t]
theorem Tms.mem{x:V}:∀{vs:List V} {ts:List Tm},Tms H vs ts->x∈vs->∃p t,x=.ref p/\t∈ts/\H p=some (.tup (tmV t))
 | _,_,.nil,h=>nomatch h
 | _,_,.cons g r,h=>by
  rcases qv.mp h with e | e
  ·exact⟨_,_,e,jv,g⟩
  ·obtain⟨p,t,e1,e2,e3⟩:=Tms.mem r e;exact⟨p,t,e1,qh _ e2,e3⟩
theorem Tms.at:∀{vs:List V} {ts:List Tm},Tms H vs ts->∀{i:Nat} {x:V},vs[i]?=some x->∃p t,x=.ref p/\ts[i]?=some t/\H p=some (.tup (tmV t))
 | _,_,.nil,i,x,h=>by simp at h
 | _,_,.cons g r,0,x,h=>by
  injection h with h;exact⟨_,_,h.symm,rfl,g⟩
 | _,_,.cons g r,i+1,x,h=>Tms.at r (i:=i) h
noncomputable def VH(H:Hp)(v:V):Option Tm:=match v with
 | .ref p=>match H p with
  | some (.tup [.int s,.int a,.int b,.int n])=>some (s,a,b,n)
  | _=>none
 | _=>none
theorem JT{p:Addr}{t:Tm}(h:H p=some (.tup (tmV t))):VH H (.ref p)=some t:=by
 unfold VH tmV at*
 simp only[h]
theorem Tms.fm(g:Tm->Bool)(f:Tm->V):∀{vs:List V} {ts:List Tm},Tms H vs ts->(vs.filter fun v=>((VH H v).map g).getD false).map (fun v=>((VH H v).map f).getD .non)=(ts.filter g).map f
 | _,_,.nil=>rfl
 | _,_,.cons (p:=p) (t:=t) h r=>by
  rw[jh8,jh8,JT h];show(if g t=true then _ else _:List V).map _=_;by_cases c:g t=true
  ·rw[ya c,ya c,zi,zi,Tms.fm g f r,JT h];rfl
  ·rw[ua c,ua c,Tms.fm g f r]
theorem rR{t:Tm}:atI (tmV t) 0=some (V.int t.1):=rfl
theorem rQ{t:Tm}:atI (tmV t) 1=some (V.int t.2.1):=rfl
theorem ww{t:Tm}:atI (tmV t) 2=some (V.int t.2.2.1):=rfl
theorem Vz{t:Tm}:atI (tmV t) 3=some (V.int t.2.2.2):=rfl
structure TmT(K:Fr)(H:Hp)(p:Addr)(ts:List Tm):Prop where
 ex:∃vs,SqT K H p vs/\Tms H vs ts
 ok:∀t∈ts,OkT t
 few:ts.length<=6
variable{ts:List Tm}
theorem TmT.same{p:Addr}(T:TmT K H p ts)(s:Av H H'):TmT K H' p ts:=by
 obtain⟨vs,h1,h2⟩:=T.ex;exact⟨⟨vs,s.tup h1,h2.same s⟩,T.ok,T.few⟩
noncomputable def ni:Sp:=fun vs H Q _=>Ex3 fun(p:Addr) (k:Int) (t:Tm)=>An5 (vs=[.ref p,.int k]) (H p=some (.tup (tmV t))) (OkT t) (Bt 400 k) (Q (.bl (onT t k)) H)
noncomputable def uG(K:Fr):Sp:=fun vs H Q _=>Ex3 fun(p:Addr) (k:Int) (ts:List Tm)=>An4 (vs=[.ref p,.int k]) (TmT K H p ts) (Bt 400 k) (∀H',Av H H'->Q (.int (SU ts k)) H')
noncomputable def oK:Sp:=fun vs H Q _=>Ex2 fun(p:Addr) (t:Tm)=>An4 (vs=[.ref p]) (H p=some (.tup (tmV t))) (OkT t) (Q (.bl true) H)
noncomputable def uQ(K:Fr):Sp:=fun vs H Q _=>Ex3 fun(p:Addr) (b:Int) (ts:List Tm)=>An3 (vs=[.int b,.ref p]) (TmT K H p ts) (∀H',Av H H'->Q (.int (b-falls ts)) H')
structure W5(b:Int)(ts:List Tm):Prop where
 b0:0<=b
 b1:b<=20000
 fl:falls ts<=b
noncomputable def jM(K:Fr):Sp:=fun vs H Q _=>Ex3 fun(p:Addr) (b:Int) (ts:List Tm)=>An4 (vs=[.int b,.ref p]) (TmT K H p ts) (W5 b ts) (∀H',Av H H'->Q .non H')
noncomputable def oG(K:Fr):Sp:=fun vs H Q _=>Ex2 fun(p:Addr) (ts:List Tm)=>An3 (vs=[.ref p]) (TmT K H p ts) (∀H',Av H H'->Q (.int (PER ts)) H')
theorem K3(h:∀t∈ts,OkT t):∀(i:Nat),i<=6->0<PER (ts.take i)/\PER (ts.take i)<=1000^i
 | 0,_=>⟨(show (0:Int)<1 by decide),(show (1:Int)<=1 by decide)⟩
 | i+1,hi=>by
  obtain⟨h1,h2⟩:=K3 h i (by lia);rw[vk];cases e:ts[i]? with
  | none=>
   simp only[Option.toList_none,uj];refine⟨h1,jg7 h2 ?_⟩;rw[Int.pow_succ];have:(0:Int)<1000^i:=Int.pow_pos (by decide);lia
  | some t=>
   have ok:=h t (zv e);have e2:PER (ts.take i++(some t).toList)=Ci (PER (ts.take i)) t.2.2.2:=by
    unfold PER;rw[kx,List.foldl_append];rfl
   rw[e2];have n0:=ok.n0;refine⟨(Bv h1 (by lia)).1,jg7 (vg h1 (by lia)) ?_⟩;rw[Int.pow_succ];exact vt h2 ok.n1 (by lia) (Jn (Int.pow_pos (by decide)))
theorem vH{i:Nat}(h:i<=6):(1000:Int)^i<=1000000000000000000:=by
 have:=vc (n:=1000) (by decide) h;rw[show(1000:Int)^i=((1000^i:Nat):Int) from(jg3 1000 i).symm];lia
theorem X6(h:∀t∈ts,OkT t):∀(i:Nat),i<=6->∀t∈ts.take i,t.2.2.2∣PER (ts.take i)
 | 0,_=>fun t ht=>by simp at ht
 | i+1,hi=>by
  obtain⟨h1,_⟩:=K3 h i (by lia);have ih:=X6 h i (by lia);rw[vk];cases e:ts[i]? with
  | none=>
   simp only[Option.toList_none,uj];exact ih
  | some u=>
   have ok:=h u (zv e);have e2:PER (ts.take i++(some u).toList)=Ci (PER (ts.take i)) u.2.2.2:=by
    unfold PER;rw[kx,List.foldl_append];rfl
   have n0:=ok.n0;have f:=Bv h1 (show 0<u.2.2.2 by lia);rw[e2];intro t ht;rcases ku.mp ht with z | z
   ·exact jd1 (ih t z) f.2.1
   ·rw[kx,vb] at z;subst z;exact f.2.2.1
noncomputable def mF(b:Int)(p:Addr)(c s:Int):List (Str×V):=[("base",.int b),("terms",.ref p),("full_count",.int c),("full_sum",.int s)]
structure Me(K:Fr)(C:Addr)(H:Hp)(x:Addr)(b:Int)(ts:List Tm):Prop where
 ex:∃dx p,H x=some (.ins C dx (mF b p (PER ts) (UP b ts (PER ts))))/\TmT K H p ts
 gd:W5 b ts
 po:0<UP b ts (PER ts)
noncomputable def yo(K:Fr)(C:Addr):Sp:=fun vs H Q _=>Ex7 fun(x p dx:Addr) (k b:Int) (ts:List Tm) (fs:List (Str×V))=>An9 (vs=[.ref x,.int k]) (H x=some (.ins C dx fs)) (fs.lookup (Str.ofString "base")=some (V.int b)) (fs.lookup (Str.ofString "terms")=some (V.ref p)) (TmT K H p ts) (0<=b) (b<=20000) (Bt 400 k) (∀H',Av H H'->Q (.int (UP b ts k)) H')
noncomputable def yw(K:Fr)(C:Addr):Sp:=fun vs H Q _=>Ex4 fun(x:Addr) (n b:Int) (ts:List Tm)=>An4 (vs=[.ref x,.int n]) (Me K C H x b ts) (Bt 300 n) (∀(k:Int) H',Av H H'->UP b ts k<=n->n<UP b ts (k+1)->Bt 370 k->Q (.int k) H')
noncomputable def XR(K:Fr)(C:Addr):Sp:=fun vs H Q _=>Ex6 fun(x dx:Addr) (b:Int) (v:V) (us:List V) (ts:List Tm)=>An9 (vs=[.ref x,.int b,v]) (H x=some (.ins C dx [])) (Tms H us ts) (( v=.non/\us=[])\/∃l,v=.ref l/\H l=some (.lst us)) (∀t∈ts,OkT t) (ts.length<=6) (W5 b ts) (0<UP b ts (PER ts)) (∀H',(∀y o,y≠x->H y=some o->H' y=some o)->Me K C H' x b ts->Q .non H')
theorem Me.same{C:Addr}{b:Int}(M:Me K C H x b ts)(s:Av H H'):Me K C H' x b ts:=by
 obtain⟨dx,p,e,T⟩:=M.ex;exact⟨⟨dx,p,s _ _ e,T.same s⟩,M.gd,M.po⟩
theorem Me.meth{C:Addr}{b:Int}(M:Me K C H x b ts):∃dx fs,H x=some (.ins C dx fs)/\fs.lookup (Str.ofString "seek")=none/\fs.lookup (Str.ofString "at")=none/\fs.lookup (Str.ofString "upto")=none/\fs.lookup (Str.ofString "period")=none:=by
 obtain⟨dx,p,e,T⟩:=M.ex;exact⟨dx,_,e,rfl,rfl,rfl,rfl⟩
noncomputable def ADm(K:Fr)(C:Addr):Sp:=fun vs H Q _=>Ex4 fun(x:Addr) (k b:Int) (ts:List Tm)=>An4 (vs=[.ref x,.int k]) (Me K C H x b ts) (Bt 400 k) (∀H',Av H H'->Q (.int (AT b ts k)) H')
noncomputable def ACG(K:Fr)(C:Addr):Sp:=fun vs H Q _=>Ex3 fun(x:Addr) (b:Int) (ts:List Tm)=>An3 (vs=[.ref x]) (Me K C H x b ts) (Q (.int (PER ts)) H)
theorem YX{C:Addr}{dx:Addr}{b:Int}{v:V}{us:List V}(hx:H1 x=none)(hdx:H1 dx=none)(ne:dx≠x)(hT:Tms H1 us ts)(hv:(v=.non/\us=[])\/∃l,v=.ref l/\H1 l=some (.lst us))(ok:∀t∈ts,OkT t)(few:ts.length<=6)(g:W5 b ts)(po:0<UP b ts (PER ts))
 (q:∀H',Av H1 H'->Me K C H' x b ts->Q .non H'):XR K C [.ref x,.int b,v] (upd (upd H1 dx (.own x)) x (.ins C dx [])) Q E:=by
 have k4:Av H1 (upd (upd H1 dx (.own x)) x (.ins C dx [])):=(Ax hdx _).trans (Ax (by rw[BK (Ne.symm ne)];exact hx) _);have x4:upd (upd H1 dx (.own x)) x (.ins C dx []) x=some (.ins C dx []):=An;refine⟨x,dx,b,v,us,ts,rfl,x4,hT.same k4,?_,ok,few,g,po,fun H5 k5 M=>q _ (fun y o h=>k5 y o (fun e=>by subst e;rw[hx] at h;cases h) (k4 y o h)) M⟩;rcases hv with z | ⟨l,z,e⟩
 ·exact .inl z
 ·exact .inr ⟨l,z,k4 _ _ e⟩
noncomputable def But(l:Addr)(H H':Hp):Prop:=∀y o,y≠l->H y=some o->H' y=some o
variable{l:Addr}
theorem But.upd:But l H (L2.upd H l o):=fun y o hy h=>by rw[BK hy];exact h
structure NoT(o:HO):Prop where
 t:∀vs,o≠.tup vs
 f:∀ob u,o≠.frz ob u
variable{xs:List V}
theorem NoT.lst:NoT (.lst xs):=⟨fun _ z=>(nomatch z),fun _ _ z=>(nomatch z)⟩
theorem NoT.ins{C d:Addr}{fs:List (Str×V)}:NoT (.ins C d fs):=⟨fun _ z=>(nomatch z),fun _ _ z=>(nomatch z)⟩
theorem Tms.but(hl:H l=some o)(no:NoT o)(k:But l H H'):∀{vs:List V} {ts:List Tm},Tms H vs ts->Tms H' vs ts
 | _,_,.nil=>.nil
 | _,_,.cons g r=>.cons (k _ _ (Ho g hl (Ne.symm (no.t _))) g) (Tms.but hl no k r)
theorem gF{p:Addr}{vs:List V}(hl:H l=some o)(no:NoT o)(k:But l H H')(h:SqT K H p vs):SqT K H' p vs:=by
 rcases h with (h | ⟨o,h⟩) | h
 ·exact .inl (.inl (k _ _ (Ho h hl (Ne.symm (no.t _))) h))
 ·exact .inl (.inr ⟨o,k _ _ (Ho h hl (Ne.symm (no.f _ _))) h⟩)
 ·exact .inr h
theorem TmT.but{p:Addr}(hl:H l=some o)(no:NoT o)(k:But l H H')(T:TmT K H p ts):TmT K H' p ts:=by
 obtain⟨vs,h1,h2⟩:=T.ex;exact⟨⟨vs,gF hl no k h1,h2.but hl no k⟩,T.ok,T.few⟩
theorem Me.butX{C:Addr}{b:Int}(M:Me K C H x b ts)(hl:H l=some o)(no:NoT o)(ne:x≠l)(k:But l H H'):Me K C H' x b ts:=by
 obtain⟨dx,p,e,T⟩:=M.ex;exact⟨⟨dx,p,k _ _ ne e,T.but hl no k⟩,M.gd,M.po⟩
theorem Me.but{C:Addr}{b:Int}(M:Me K C H x b ts)(hl:H l=some (.lst xs))(k:But l H H'):Me K C H' x b ts:=by
 obtain⟨dx,p,e,T⟩:=M.ex;exact M.butX hl .lst (Ho e hl (by intro z;cases z)) k
theorem Fx.gm{ls:List Int}{lp:Int}(g:Fx ls lp ts):W5 ls.sum ts:=⟨g.sum.1,g.sum.2,Jn g.f1⟩
theorem RX(ok:∀t∈ts,OkT t)(few:ts.length<=6):0<PER ts/\PER ts<=1000000000000000000/\∀t∈ts,t.2.2.2∣PER ts:=by
 obtain⟨h1,h2⟩:=K3 ok 6 (by decide);have hd:=X6 ok 6 (by decide);rw[xy few] at h1 h2 hd;exact⟨h1,jg7 h2 (vH (by decide)),hd⟩
theorem Fx.po{ls:List Int}{lp:Int}(g:Fx ls lp ts):0<UP ls.sum ts (PER ts):=Yq g.ok g.f1 (RX g.ok g.few).1
noncomputable def sF(s lp:Int)(p y:Addr):List (Str×V):=[("start",.int s),("months",.ref p),("leap",.int lp),("years",.ref y)]
structure Hm(K:Fr)(CS CM:Addr)(H:Hp)(x:Addr)(s:Int)(ls:List Int)(lp:Int)(ts:List Tm):Prop where
 ex:∃dx p y,H x=some (.ins CS dx (sF s lp p y))/\SqT K H p (ls.map V.int)/\Me K CM H y ls.sum ts
 gd:Fx ls lp ts
 bs:Bt 290 s
section
variable{K:Fr}{CS CM:Addr}{H H':Hp}{x:Addr}{s:Int}{ls:List Int}{lp:Int}{ts:List Tm}
theorem Hm.same(S:Hm K CS CM H x s ls lp ts)(e:Av H H'):Hm K CS CM H' x s ls lp ts:=by
 obtain⟨dx,p,y,h1,h2,h3⟩:=S.ex;exact⟨⟨dx,p,y,e _ _ h1,e.tup h2,h3.same e⟩,S.gd,S.bs⟩
theorem Hm.but(S:Hm K CS CM H x s ls lp ts)(hl:H l=some (.lst xs))(k:But l H H'):Hm K CS CM H' x s ls lp ts:=by
 obtain⟨dx,p,y,h1,h2,h3⟩:=S.ex;exact⟨⟨dx,p,y,k _ _ (Ho h1 hl (by intro z;cases z)) h1,gF hl .lst k h2,h3.but hl k⟩,S.gd,S.bs⟩
theorem Hm.meth(S:Hm K CS CM H x s ls lp ts):∃dx fs,H x=some (.ins CS dx fs)/\fs.lookup (Str.ofString "year_start")=none/\fs.lookup (Str.ofString "year_at")=none/\fs.lookup (Str.ofString "lengths")=none/\fs.lookup (Str.ofString "cycle")=none/\fs.lookup (Str.ofString "date_of")=none/\fs.lookup (Str.ofString "day_of")=none:=by
 obtain⟨dx,p,y,e,_⟩:=S.ex;exact⟨dx,_,e,rfl,rfl,rfl,rfl,rfl,rfl⟩
end
noncomputable def uI(K:Fr):Sp:=fun vs H Q _=>Ex4 fun(l:Addr) (lp:Int) (ls:List Int) (ts:List Tm)=>An4 (vs=[.ref l,.int lp]) (SqL K H l (ls.map V.int)) (Fx ls lp ts) (Q .non H)
noncomputable def RV(K:Fr)(CS CM:Addr):Sp:=fun vs H Q _=>Ex9 fun(x dx ll:Addr) (s lp:Int) (v:V) (us:List V) (ls:List Int) (ts:List Tm)=>An8 (vs=[.ref x,.int s,.ref ll,.int lp,v]) (H x=some (.ins CS dx [])) (H ll=some (.lst (ls.map V.int))) (Tms H us ts) (( v=.non/\us=[])\/∃l,v=.ref l/\H l=some (.lst us)) (Fx ls lp ts) (Bt 290 s) (∀H',(∀y o,y≠x->H y=some o->H' y=some o)->Hm K CS CM H' x s ls lp ts->Q .non H')
theorem qU{CS CM:Addr}{dx ll:Addr}{s lp:Int}{v:V}{us:List V}{ls:List Int}(hx:H1 x=none)(hdx:H1 dx=none)(ne:dx≠x)(hl:H1 ll=some (.lst (ls.map V.int)))(hT:Tms H1 us ts)(hv:(v=.non/\us=[])\/∃l,v=.ref l/\H1 l=some (.lst us))(g:Fx ls lp ts)(bs:Bt 290 s)
 (q:∀H',Av H1 H'->Hm K CS CM H' x s ls lp ts->Q .non H'):RV K CS CM [.ref x,.int s,.ref ll,.int lp,v] (upd (upd H1 dx (.own x)) x (.ins CS dx [])) Q E:=by
 have k4:Av H1 (upd (upd H1 dx (.own x)) x (.ins CS dx [])):=(Ax hdx _).trans (Ax (by rw[BK (Ne.symm ne)];exact hx) _);have x4:upd (upd H1 dx (.own x)) x (.ins CS dx []) x=some (.ins CS dx []):=An;refine⟨x,dx,ll,s,lp,v,us,ls,ts,rfl,x4,k4 _ _ hl,hT.same k4,?_,g,bs,fun H5 k5 M=>q _ (fun y o h=>k5 y o (fun e=>by subst e;rw[hx] at h;cases h) (k4 y o h)) M⟩;rcases hv with z | ⟨l,z,e⟩
 ·exact .inl z
 ·exact .inr ⟨l,z,k4 _ _ e⟩
noncomputable def ABw(K:Fr)(CS CM:Addr):Sp:=fun vs H Q _=>Ex6 fun(x:Addr) (n s:Int) (ls:List Int) (lp:Int) (ts:List Tm)=>An4 (vs=[.ref x,.int n]) (Hm K CS CM H x s ls lp ts) (Bt 390 n) (∀H',Av H H'->Q (.int (s+UP ls.sum ts n)) H')
noncomputable def ADj(K:Fr)(CS CM:Addr):Sp:=fun vs H Q _=>Ex6 fun(x:Addr) (n s:Int) (ls:List Int) (lp:Int) (ts:List Tm)=>An4 (vs=[.ref x,.int n]) (Hm K CS CM H x s ls lp ts) (Bt 290 n) (∀(k:Int) H',Av H H'->s+UP ls.sum ts k<=n->n<s+UP ls.sum ts (k+1)->Bt 300 k->Q (.int k) H')
noncomputable def oJ(K:Fr)(CS CM:Addr):Sp:=fun vs H Q _=>Ex6 fun(x:Addr) (n s:Int) (ls:List Int) (lp:Int) (ts:List Tm)=>An4 (vs=[.ref x,.int n]) (Hm K CS CM H x s ls lp ts) (Bt 390 n) (∀(p:Addr) H',H p=none->Av H H'->H' p=some (.lst ((Ks ls lp ts n).map V.int))->Q (.ref p) H')
noncomputable def xj(K:Fr)(CS CM:Addr):Sp:=fun vs H Q _=>Ex5 fun(x:Addr) (s:Int) (ls:List Int) (lp:Int) (ts:List Tm)=>An3 (vs=[.ref x]) (Hm K CS CM H x s ls lp ts) (∀(p:Addr) H',Av H H'->H' p=some (.tup [.int (PER ts),.int (UP ls.sum ts (PER ts))])->Q (.ref p) H')
theorem yR{n:Nat}{b:Int}(h:∀t∈ts,OkT t)(b0:0<=b)(b1:b<=20000)(few:ts.length<=6){k:Int}(bk:Bt n k):Bt (n+16) (UP b ts k):=by
 have:=rW h b0 b1 few (k:=k) (K:=(k.natAbs:Int)) (by lia) (by lia);unfold Bt at*
 rw[jl8];lia
noncomputable def moF(s:Int)(d m:Addr):List (Str×V):=[("start",.int s),("days",.ref d),("many",.ref m)]
structure Fl(K:Fr)(CO CM:Addr)(H:Hp)(x:Addr)(s bd:Int)(td:List Tm)(bm:Int)(tm:List Tm):Prop where
 ex:∃dx d m,H x=some (.ins CO dx (moF s d m))/\Me K CM H d bd td/\Me K CM H m bm tm
 gd:Ec bd td bm tm
 bs:Bt 290 s
section
variable{K:Fr}{CO CM:Addr}{H H':Hp}{x:Addr}{s bd:Int}{td:List Tm}{bm:Int}{tm:List Tm}
theorem Fl.same(S:Fl K CO CM H x s bd td bm tm)(e:Av H H'):Fl K CO CM H' x s bd td bm tm:=by
 obtain⟨dx,d,m,h1,h2,h3⟩:=S.ex;exact⟨⟨dx,d,m,e _ _ h1,h2.same e,h3.same e⟩,S.gd,S.bs⟩
theorem Fl.but(S:Fl K CO CM H x s bd td bm tm)(hl:H l=some (.lst xs))(k:But l H H'):Fl K CO CM H' x s bd td bm tm:=by
 obtain⟨dx,d,m,h1,h2,h3⟩:=S.ex;exact⟨⟨dx,d,m,k _ _ (Ho h1 hl (by intro z;cases z)) h1,h2.but hl k,h3.but hl k⟩,S.gd,S.bs⟩
theorem Fl.meth(S:Fl K CO CM H x s bd td bm tm):∃dx fs,H x=some (.ins CO dx fs)/\fs.lookup (Str.ofString "year_start")=none/\fs.lookup (Str.ofString "year_at")=none/\fs.lookup (Str.ofString "lengths")=none/\fs.lookup (Str.ofString "cycle")=none/\fs.lookup (Str.ofString "date_of")=none/\fs.lookup (Str.ofString "day_of")=none:=by
 obtain⟨dx,d,m,e,_⟩:=S.ex;exact⟨dx,_,e,rfl,rfl,rfl,rfl,rfl,rfl⟩
end
noncomputable def uH(K:Fr)(C:Addr):Sp:=fun vs H Q _=>Ex4 fun(y:Addr) (b g:Int) (ts:List Tm)=>An5 (vs=[.ref y,.int g]) (Me K C H y b ts) (falls ts<b) (b<=g) (∀H',Av H H'->Q .non H')
noncomputable def ZK(K:Fr)(CO CM:Addr):Sp:=fun vs H Q _=>Ex9 fun(x dx d m:Addr) (s bd bm:Int) (td tm:List Tm)=>An7 (vs=[.ref x,.int s,.ref d,.ref m]) (H x=some (.ins CO dx [])) (Me K CM H d bd td) (Me K CM H m bm tm) (Ec bd td bm tm) (Bt 290 s) (∀H',(∀y o,y≠x->H y=some o->H' y=some o)->Fl K CO CM H' x s bd td bm tm->Q .non H')
theorem kW{CO CM:Addr}{dx d m:Addr}{s bd bm:Int}{td tm:List Tm}(hx:H1 x=none)(hdx:H1 dx=none)(ne:dx≠x)(hd:Me K CM H1 d bd td)(hm:Me K CM H1 m bm tm)(g:Ec bd td bm tm)(bs:Bt 290 s)
 (q:∀H',Av H1 H'->Fl K CO CM H' x s bd td bm tm->Q .non H'):ZK K CO CM [.ref x,.int s,.ref d,.ref m] (upd (upd H1 dx (.own x)) x (.ins CO dx [])) Q E:=by
 have k4:Av H1 (upd (upd H1 dx (.own x)) x (.ins CO dx [])):=(Ax hdx _).trans (Ax (by rw[BK (Ne.symm ne)];exact hx) _);have x4:upd (upd H1 dx (.own x)) x (.ins CO dx []) x=some (.ins CO dx []):=An;exact⟨x,dx,d,m,s,bd,bm,td,tm,rfl,x4,hd.same k4,hm.same k4,g,bs,fun H5 k5 M=>q _ (fun y o h=>k5 y o (fun e=>by subst e;rw[hx] at h;cases h) (k4 y o h)) M⟩
noncomputable def xf(K:Fr)(CO CM:Addr):Sp:=fun vs H Q _=>Ex7 fun(x:Addr) (n s bd bm:Int) (td tm:List Tm)=>An4 (vs=[.ref x,.int n]) (Fl K CO CM H x s bd td bm tm) (Bt 370 n) (∀H',Av H H'->Q (.int (MYS s bd td bm tm n)) H')
noncomputable def ACL(K:Fr)(CO CM:Addr):Sp:=fun vs H Q _=>Ex7 fun(x:Addr) (n s bd bm:Int) (td tm:List Tm)=>An4 (vs=[.ref x,.int n]) (Fl K CO CM H x s bd td bm tm) (Bt 290 n) (∀(k:Int) H',Av H H'->MYS s bd td bm tm k<=n->n<MYS s bd td bm tm (k+1)->Bt 300 k->Q (.int k) H')
noncomputable def gK(K:Fr)(CO CM:Addr):Sp:=fun vs H Q _=>Ex7 fun(x:Addr) (n s bd bm:Int) (td tm:List Tm)=>An4 (vs=[.ref x,.int n]) (Fl K CO CM H x s bd td bm tm) (Bt 370 n) (∀(p:Addr) H',H p=none->Av H H'->H' p=some (.lst ((OD bd td bm tm n).map V.int))->Q (.ref p) H')
theorem lG(xs:List Int){j:Nat}(hj:j<=xs.length):Hu (xs.map V.int) none (some (j:Int))=(xs.take j).map V.int:=by
 unfold Hu;rw[HT.sIx_none,HT.sIx_nat,js,jl0 hj,ji1,Nat.sub_zero,List.map_take]
theorem pA{D:Ends}{Z:L2.St}(h:D.bk Z H):nO D Z H:=h
noncomputable def Dj(K:Fr)(CS CO CM:Addr)(H:Hp)(x:Addr):BV->Prop
 | .sun s ls lp ts=>Hm K CS CM H x s ls lp ts
 | .moon s bd td bm tm=>Fl K CO CM H x s bd td bm tm
noncomputable def yI:BV->Bool
 | .sun .. =>true
 | .moon .. =>false
section
variable{K:Fr}{CS CO CM:Addr}{H H':Hp}{x:Addr}{d:BV}
theorem Dj.same(S:Dj K CS CO CM H x d)(e:Av H H'):Dj K CS CO CM H' x d:=by
 cases d with
 | sun s ls lp ts=>exact Hm.same S e
 | moon s bd td bm tm=>exact Fl.same S e
theorem Dj.but(S:Dj K CS CO CM H x d)(hl:H l=some (.lst xs))(k:But l H H'):Dj K CS CO CM H' x d:=by
 cases d with
 | sun s ls lp ts=>exact Hm.but S hl k
 | moon s bd td bm tm=>exact Fl.but S hl k
theorem Dj.good(S:Dj K CS CO CM H x d):d.good:=by
 cases d with
 | sun s ls lp ts=>exact Hm.gd S
 | moon s bd td bm tm=>exact Fl.gd S
theorem Dj.ys(S:Dj K CS CO CM H x d):∃C dx fs sp,(C,sp)∈[(CS,ABw K CS CM),(CO,xf K CO CM)]/\H x=some (.ins C dx fs)/\fs.lookup (Str.ofString "year_start")=none/\
 ∀{H2:Hp} {n:Int} {Q:VK} {E:XK},Dj K CS CO CM H2 x d->Bt 370 n->(∀H',Av H2 H'->Q (.int (d.Y n)) H')->sp [.ref x,.int n] H2 Q E:=by
 cases d with
 | sun s ls lp ts=>
  obtain⟨dx,fs,e,m⟩:=Hm.meth S;exact⟨CS,dx,fs,_,jv,e,m.1,fun S2 bn q=>⟨x,_,s,ls,lp,ts,rfl,S2,bn.mono (by decide),q⟩⟩
 | moon s bd td bm tm=>
  obtain⟨dx,fs,e,m⟩:=Fl.meth S;exact⟨CO,dx,fs,_,qh _ jv,e,m.1,fun S2 bn q=>⟨x,_,s,bd,bm,td,tm,rfl,S2,bn,q⟩⟩
theorem Dj.le(S:Dj K CS CO CM H x d):∃C dx fs sp,(C,sp)∈[(CS,oJ K CS CM),(CO,gK K CO CM)]/\H x=some (.ins C dx fs)/\fs.lookup (Str.ofString "lengths")=none/\
 ∀{H2:Hp} {n:Int} {Q:VK} {E:XK},Dj K CS CO CM H2 x d->Bt 370 n->(∀(p:Addr) H',H2 p=none->Av H2 H'->H' p=some (.lst ((d.L n).map V.int))->Q (.ref p) H')->sp [.ref x,.int n] H2 Q E:=by
 cases d with
 | sun s ls lp ts=>
  obtain⟨dx,fs,e,m⟩:=Hm.meth S;exact⟨CS,dx,fs,_,jv,e,m.2.2.1,fun S2 bn q=>⟨x,_,s,ls,lp,ts,rfl,S2,bn.mono (by decide),q⟩⟩
 | moon s bd td bm tm=>
  obtain⟨dx,fs,e,m⟩:=Fl.meth S;exact⟨CO,dx,fs,_,qh _ jv,e,m.2.2.1,fun S2 bn q=>⟨x,_,s,bd,bm,td,tm,rfl,S2,bn,q⟩⟩
end
noncomputable def XS(K:Fr)(CS CO CM:Addr)(b:Bool):Sp:=fun vs H Q _=>Ex3 fun(x:Addr) (n:Int) (d:BV)=>An5 (vs=[.ref x,.int n]) (yI d=b) (Dj K CS CO CM H x d) (Bt 290 n) (∀(p:Addr) (y m r:Int) H',Av H H'->H' p=some (.tup [.int y,.int m,.int r])->IsD d y m r->Cz d y m r=n->Bt 300 y->Q (.ref p) H')
section
variable{K:Fr}{CS CO CM:Addr}{H H':Hp}{x:Addr}{d:BV}
theorem Dj.dt(S:Dj K CS CO CM H x d):∃C dx fs sp,(C,sp)∈[(CS,XS K CS CO CM true),(CO,XS K CS CO CM false)]/\H x=some (.ins C dx fs)/\fs.lookup (Str.ofString "date_of")=none/\
 ∀{H2:Hp} {n:Int} {Q:VK} {E:XK},Dj K CS CO CM H2 x d->Bt 290 n->(∀(p:Addr) (y m r:Int) H',Av H2 H'->H' p=some (.tup [.int y,.int m,.int r])->IsD d y m r->Cz d y m r=n->Bt 300 y->Q (.ref p) H')->sp [.ref x,.int n] H2 Q E:=by
 cases d with
 | sun s ls lp ts=>
  obtain⟨dx,fs,e,m⟩:=Hm.meth S;exact⟨CS,dx,fs,_,jv,e,m.2.2.2.2.1,fun S2 bn q=>⟨x,_,_,rfl,rfl,S2,bn,q⟩⟩
 | moon s bd td bm tm=>
  obtain⟨dx,fs,e,m⟩:=Fl.meth S;exact⟨CO,dx,fs,_,qh _ jv,e,m.2.2.2.2.1,fun S2 bn q=>⟨x,_,_,rfl,rfl,S2,bn,q⟩⟩
end
noncomputable def ACJ:Sp:=fun _ _ _ _=>False
noncomputable def oI(o:Option Int):V:=match o with | none=>.non | some i=>.int i
noncomputable def okM(m:Option Int):Prop:=∀i,m=some i->1<=i
noncomputable def oH(K:Fr)(CO CM:Addr):Sp:=fun vs H Q _=>Ex6 fun(x:Addr) (s bd bm:Int) (td tm:List Tm)=>An3 (vs=[.ref x]) (Fl K CO CM H x s bd td bm tm) (∀(p:Addr) H',Av H H'->H' p=some (.tup [.int (PER tm*moT td bm tm),.int (UP bd td (UP bm tm (PER tm)*moT td bm tm))])->Q (.ref p) H')
theorem Dj.cyc{CS CO CM:Addr}{d:BV}(S:Dj K CS CO CM H x d):∃C dx fs sp,(C,sp)∈[(CS,xj K CS CM),(CO,oH K CO CM)]/\H x=some (.ins C dx fs)/\fs.lookup (Str.ofString "cycle")=none/\
 ∀{H2:Hp} {Q:VK} {E:XK},Dj K CS CO CM H2 x d->(∀(p:Addr) H',Av H2 H'->H' p=some (.tup [.int d.cy.1,.int d.cy.2])->Q (.ref p) H')->sp [.ref x] H2 Q E:=by
 cases d with
 | sun s ls lp ts=>
  obtain⟨dx,fs,e,m⟩:=Hm.meth S;exact⟨CS,dx,fs,_,jv,e,m.2.2.2.1,fun S2 q=>⟨x,s,ls,lp,ts,rfl,S2,q⟩⟩
 | moon s bd td bm tm=>
  obtain⟨dx,fs,e,m⟩:=Fl.meth S;exact⟨CO,dx,fs,_,qh _ jv,e,m.2.2.2.1,fun S2 q=>⟨x,s,bd,bm,td,tm,rfl,S2,q⟩⟩
noncomputable def plD(n i:Int):Int:=if 0<i then i-1 else n+i
noncomputable def PN(f n:Int)(d:Option Int):List Int:=match d with
 | none=>(List.range n.toNat).map fun i:Nat=>f+(i:Int)
 | some i=>if plD n i<0\/n<=plD n i then [] else [f+plD n i]
noncomputable def yrL:List Int->Int->Int->Option Int->Option Int->List Int
 | [],_,_,_,_=>[]
 | n::ls,f,k,m,i=>(if m=none\/m=some k then PN f n i else [])++yrL ls (f+n) (k+1) m i
theorem W8{M:Int}:∀{ls:List Int},(∀n∈ls,0<=n/\n<=M)->0<=ls.sum/\ls.sum<=M*(ls.length:Int)
 | [],_=>⟨jl5 _,by simp⟩
 | a::ls,h=>by
  have:=W8 (ls:=ls) fun n hn=>h n (qh _ hn);have:=h a jv;have e:M*((a::ls).length:Int)=M*(ls.length:Int)+M:=by
   rw[qm,show((ls.length+1:Nat):Int)=(ls.length:Int)+1 by lia,jd9,jc1]
  rw[uu,e];lia
theorem Rm:∀(l1 l2:List Int) (f k:Int) (m i:Option Int),yrL (l1++l2) f k m i=yrL l1 f k m i++yrL l2 (f+l1.sum) (k+(l1.length:Int)) m i
 | [],l2,f,k,m,i=>by
  show yrL l2 f k m i=[]++yrL l2 (f+0) (k+0) m i;rw[ji8,kz,kz]
 | n::l1,l2,f,k,m,i=>by
  show _++yrL (l1++l2) (f+n) (k+1) m i=(_++yrL l1 (f+n) (k+1) m i)++_;rw[Rm l1 l2,ke,uu,qm,show f+(n+l1.sum)=f+n+l1.sum by lia,show k+((l1.length+1:Nat):Int)=k+1+(l1.length:Int) by lia]
theorem mU{ls:List Int}{j:Nat}{n:Int}(h:ls[j]?=some n)(f:Int)(m i:Option Int):yrL (ls.take (j+1)) f 1 m i=yrL (ls.take j) f 1 m i++(if m=none\/m=some (1+(j:Int)) then PN (f+PS ls j) n i else []):=by
 have hj:=(zn.mp h).1;rw[vk,h,kx,Rm,jf0,jl0 (by lia)];show _++(_++[])=_;rw[uj];rfl
theorem iT{f n:Int}(n0:0<=n)(i:Option Int):((PN f n i).length:Int)<=n:=by
 unfold PN;cases i with
 | none=>
  simp only[js,Zl];lia
 | some i=>
  simp only[];generalize plD n i=pl;split<;>simp<;>lia
theorem bK:∀(ls:List Int) (f k:Int) (m i:Option Int),(∀n∈ls,0<=n)->((yrL ls f k m i).length:Int)<=ls.sum
 | [],f,k,m,i,_=>jl5 _
 | n::ls,f,k,m,i,h=>by
  have a:=bK ls (f+n) (k+1) m i fun x hx=>h x (qh _ hx);have n0:=h n jv;have b:=iT (f:=f) n0 i;show(((if m=none\/m=some k then PN f n i else [])++yrL ls (f+n) (k+1) m i).length:Int)<=(n::ls).sum;rw[qr,uu];split
  ·lia
  ·rw[ji7];lia
noncomputable def uE:Sp:=fun vs H Q _=>Ex3 fun(m d:Option Int) (st:Int)=>An5 (vs=[oI m,oI d,.int st]) (okM m) (d≠some 0) (1<=st) (Q .non H)
noncomputable def uX:Sp:=fun vs H Q _=>Ex3 fun(f n:Int) (d:Option Int)=>An4 (vs=[.int f,.int n,oI d]) (0<=n) (n<=10000) (∀(l:Addr) (H':Hp),H l=none->Av H H'->H' l=some (.lst ((PN f n d).map V.int))->Q (.ref l) H')
noncomputable def uW(K:Fr)(CS CO CM:Addr):Sp:=fun vs H Q _=>Ex5 fun(x:Addr) (d:BV) (y:Int) (m i:Option Int)=>An4 (vs=[.ref x,.int y,oI m,oI i]) (Dj K CS CO CM H x d) (Bt 370 y) (∀(l:Addr) (H':Hp),H l=none->Av H H'->H' l=some (.lst ((yrL (d.L y) (d.Y y) 1 m i).map V.int))->Q (.ref l) H')
noncomputable def dtL(g:BV)(m i:Option Int):Nat->List Int
 | 0=>[]
 | k+1=>dtL g m i k++yrL (g.L (k:Int)) (g.Y (k:Int)) 1 m i
structure SmC(g:BV):Prop where
 y0:1<=g.cy.1
 y1:g.cy.1<=10
 d0:1<=g.cy.2
 d1:g.cy.2<=64
noncomputable def ZL(K:Fr)(CS CO CM:Addr):Sp:=fun vs H Q _=>Ex4 fun(x:Addr) (g:BV) (m i:Option Int)=>An6 (vs=[.ref x,oI m,oI i,.int 1,.int 0]) (Dj K CS CO CM H x g) (SmC g) (okM m) (i≠some 0) (∀(p:Addr) (c:Nat) (H':Hp),Av H H'->H' p=some (.tup [.int g.cy.2,.int (c:Int)])->RB g.cy.2 (dtL g m i g.cy.1.toNat) c->Q (.ref p) H')
noncomputable def cpl(z:Str):List Nat:=z.cps.toList
theorem Hr{y z:Str}(h:cpl y=cpl z):y=z:=by
 cases y;cases z;simp only[cpl] at h;exact xk Str.mk (je6.mp h)
noncomputable def HQ(cs:List Nat):List Nat:=if cs.head?=some 45 then cs.drop 1 else cs
structure OJ(cs:List Nat):Prop where
 lo:1<=(HQ cs).length
 hi:(HQ cs).length<=60
 dg:∀c∈HQ cs,48<=c/\c<=57
 z0:(HQ cs).head?=some 48->cs=[48]
noncomputable def KJ(cs:List Nat):Int:=if cs.head?=some 45 then -((PySem.NumText.digitsVal (HQ cs):Nat):Int) else ((PySem.NumText.digitsVal (HQ cs):Nat):Int)
theorem Eg(z:Str):(cpl z).length=z.length:=ky
theorem PL{z:Str}(h:OJ (cpl z)):PySem.intText? z=some (KJ (cpl z)):=by
 have hl:z.length<=4300:=by
  have:=h.hi;rw[<-Eg];unfold HQ at this;split at this
  ·rw[jb5] at this;lia
  ·lia
 unfold KJ;by_cases e:(cpl z).head?=some 45
 ·rw[ya e];have ef:HQ (cpl z)=(cpl z).drop 1:=by unfold HQ;rw[ya e]
  have hz:z.cps.toList=45::(cpl z).drop 1:=by
   show cpl z=_;generalize cpl z=cs at e;cases cs with
   | nil=>cases e
   | cons a r=>
    injection e with e;rw[e];rfl
  rw[ef];refine PySem.intText_neg hz (fun c hc=>h.dg c (by rw[ef];exact hc)) (fun z0=>?_) hl;have:=h.lo;rw[ef,z0] at this;simp at this
 ·rw[ua e];have ef:HQ (cpl z)=cpl z:=by unfold HQ;rw[ua e]
  rw[ef];refine PySem.intText_digits (fun c hc=>h.dg c (by rw[ef];exact hc)) (fun z0=>?_) hl;have:=h.lo;rw[ef] at this;have z1:cpl z=[]:=z0;rw[z1] at this;simp at this
theorem Pu{z:Str}(h:1<=z.length):cpl (Txt.slice z (some 1) none)=(cpl z).drop 1:=by
 rw[slice_from_eq (b:=(z.length:Int)) (by decide) (by omega) rfl];show((List.drop 1 z.cps.toList).take ((z.length:Int)-1).toNat)=_;rw[xy]
 ·rfl
 ·rw[jb5];have:z.cps.toList.length=z.length:=Eg z;omega
theorem jQ(z:Str):cpl (Txt.slice z none (some 1))=(cpl z).take 1:=by
 by_cases h:1<=z.length
 ·have e:=slice_closes_toL (x:=z) (j:=1) (by decide) (by lia);rw[eq_of_beq e];rfl
 ·have e0:(cpl z).length=0:=by rw[Eg];lia
  have e1:(cpl (Txt.slice z none (some 1))).length=0:=by
   have:=Txt.slice_le z none (some 1);rw[Eg];lia
  rw[jc2.mp e0,jc2.mp e1];rfl
theorem jR{z:Str}{lo hi:Option Int}{c:Nat}(h:c∈cpl (Txt.slice z lo hi)):c∈cpl z:=by
 unfold Txt.slice at h;split at h
 ·exact h
 ·simp only[cpl] at h;obtain⟨i,_,hi⟩:=List.mem_filterMap.mp h;have hi':z.cps.toList[i]?=some c:=by rw[Array.getElem?_toList];exact hi
  exact zv hi'
theorem Fv{z:Str}:asc z=true<->∀c∈cpl z,c<128:=by
 unfold asc cpl;rw[Array.all_eq_true'];simp[Array.mem_toList_iff]
theorem XD{z:Str}(h:1<=z.length\/True):Txt.startswith z "-"=decide ((cpl z).head?=some 45):=by
 have ey:(Str.ofString "-")=⟨#[45]⟩:=by ac_rfl
 rw[ey];unfold Txt.startswith Builtin.Str.subAt;show(decide (0+1<=z.length)&&(z.cps.extract 0 (0+1)== #[45]))=_;rw[ja1,jb2,decide_eq_true_eq,decide_eq_true_eq,jc0];have el:(cpl z).length=z.length:=Eg z;have ex:(z.cps.extract 0 (0+1)).toList=(cpl z).take 1:=by
  rw[Array.toList_extract];simp[cpl,List.extract_eq_drop_take]
 constructor
 ·rintro⟨_,e⟩;rw[e] at ex;generalize cpl z=cs at ex;cases cs with
  | nil=>cases ex
  | cons a r=>
   injection ex with e1 _;rw[e1];rfl
 ·intro e;cases hc:cpl z with
  | nil=>rw[hc] at e;cases e
  | cons a r=>
   rw[hc] at e ex el;injection e with e;rw[qm] at el;refine⟨by lia,je6.mp ?_⟩;rw[ex,e];rfl
theorem wI(c:Nat):c∈cpl (Str.ofString "0123456789")<->48<=c/\c<=57:=by
 have e:cpl (Str.ofString "0123456789")=List.range' 48 10:=by ac_rfl
 rw[e,List.mem_range'_1];lia
theorem qW(c:Nat):(!(Builtin.Str.occurrences (Str.ofString "0123456789") ⟨#[c]⟩ 0 (Str.ofString "0123456789").length 1).isEmpty)=decide (48<=c/\c<=57):=by
 rw[StrLaws.found_one,ja1,decide_eq_true_eq,decide_eq_true_eq];exact wI c
structure TOk(z:Str):Prop where
 asc:asc z=true
 len:z.length<=1000000
theorem TOk.fit{z:Str}(h:TOk z):z.length<=sizeLine:=zw h.len (by decide)
theorem TOk.slice{z:Str}(h:TOk z)(lo hi:Option Int):TOk (Txt.slice z lo hi):=⟨Fv.mpr fun c hc=>Fv.mp h.asc c (jR hc),zw (Txt.slice_le z lo hi) h.len⟩
inductive Hnd(H:Hp):V->Prop
 | txt (z:Str):TOk z->Hnd H (.str z)
 | non:Hnd H .non
 | int (i:Int):Hnd H (.int i)
 | tup (a:Addr) (xs:List V):H a=some (.tup xs)->Hnd H (.ref a)
 | lst (a:Addr) (xs:List V):H a=some (.lst xs)->Hnd H (.ref a)
noncomputable def isT(v:V):Bool:=match v with | .str _=>true | _=>false
theorem AAo(K:Fr):PySem.W.kitOne K (.type "str") (.type "str")=some true:=by unfold PySem.W.kitOne;rw[ya (by simp)]
theorem AAp(K:Fr):PySem.W.kitOne K (.type "NoneType") (.type "str")=some false:=by first | rfl | ac_rfl | with_unfolding_all rfl
theorem vm(K:Fr):PySem.W.kitOne K (.type "int") (.type "str")=some false:=by first | rfl | ac_rfl | with_unfolding_all rfl
theorem AAn(K:Fr):PySem.W.kitOne K (.type "tuple") (.type "str")=some false:=by first | rfl | ac_rfl | with_unfolding_all rfl
theorem AAq(K:Fr):PySem.W.kitOne K (.type "list") (.type "str")=some false:=by first | rfl | ac_rfl | with_unfolding_all rfl
theorem cX{v:V}(h:Hnd H v)(q:Q (.bl (isT v)) H):AAH K [v,.ty "str"] H Q:=by
 cases h with
 | txt z hz=>exact Td (.str z) (AAo K) q
 | non=>exact Td .non (AAp K) q
 | int i=>exact Td (.int i) (vm K) q
 | tup a xs e=>exact Td (.tup e) (AAn K) q
 | lst a xs e=>exact Td (.lst e) (AAq K) q
noncomputable def uT:Sp:=fun vs H Q _=>∃z:Str,An3 (vs=[.str z]) (TOk z) (∀(v:Bool) (H':Hp),Av H H'->(v=true<->OJ (cpl z))->Q (.bl v) H')
theorem K8(a b:Str):cpl (a++b)=cpl a++cpl b:=by
 show(a.cps++b.cps).toList=_;rw[jn5];rfl
structure TL(k:Nat)(z:Str):Prop where
 asc:asc z=true
 len:z.length<=k
theorem aG(m:Nat):∀c∈(Nat.toDigits 10 m).map Char.toNat,c<128:=fun c hc=>by
 obtain⟨ch,hch,e⟩:=ka.mp hc;have r:=digit_range (Nat.isDigit_of_mem_toDigits (by decide) (by decide) hch);lia
theorem TL.int(h:i.natAbs.log2<1920):TL 1921 (Ca i):=by
 refine⟨Fv.mpr fun c hc=>?_,Ka h⟩;unfold Ca cpl at hc;rw[signs_ofString] at hc;cases i with
 | ofNat m=>
  have e:(toString (Int.ofNat m)).toList=Nat.toDigits 10 m:=by
   show(Nat.repr m).toList=_;rw[jo4]
  rw[e] at hc;exact aG m c hc
 | negSucc m=>
  have e:(toString (Int.negSucc m)).toList='-'::Nat.toDigits 10 (m+1):=by
   show("-"++Nat.repr (m+1)).toList=_;rw[String.toList_append,jo4];rfl
  rw[e,zi] at hc;rcases qv.mp hc with h | h
  ·have:('-':Char).toNat=45:=by decide
   lia
  ·exact aG (m+1) c h
theorem K5(h1: -1000000000000000000000000000000000000000000000000000000000000<=i)(h2:i<=1000000000000000000000000000000000000000000000000000000000000):i.natAbs.log2<1920:=by
 have b:Bt 200 i:=Ww h1 h2;unfold Bt at b;by_cases z:i.natAbs=0
 ·rw[z];decide
 ·exact xh ((Nat.log2_lt z).mpr b) (by decide)
theorem four{a b c d:V}:([a,b,c,d]:List V).length<=sizeLine:=by show 4<=sizeLine;decide
theorem dT(n:Nat):cpl (Ca (n:Int))=(Nat.toDigits 10 n).map Char.toNat:=by
 unfold Ca cpl;rw[signs_ofString];have e:(toString (Int.ofNat n)).toList=Nat.toDigits 10 n:=by
  show(Nat.repr n).toList=_;rw[jo4]
 exact xk (List.map Char.toNat) e
theorem ofNat_toNat{cs:List Nat}(h:∀c∈cs,48<=c/\c<=57):(cs.map Char.ofNat).map Char.toNat=cs:=by
 rw[kq]
 conv=>rhs;rw[<-List.map_id cs]
 refine jo0 fun c hc=>?_;exact(by decide:∀c<58,(Char.toNat ∘ Char.ofNat) c=c) c (Nat.lt_succ_of_le (h c hc).2)
theorem canon{cs:List Nat}(h:∀c∈cs,48<=c/\c<=57)(ne:cs≠[])(z:cs.head?=some 48->cs=[48]):cpl (Ca ((PySem.NumText.digitsVal cs:Nat):Int))=cs:=by
 rw[dT];obtain⟨c,r,rfl⟩:∃c r,cs=c::r:=by
  cases cs with
  | nil=>exact absurd rfl ne
  | cons c r=>exact⟨c,r,rfl⟩
 have hc:=h c jv;rw[PySem.NumText.toDigits_digitsVal r.length (c::r) (by simp) h (by
  by_cases e:c=48
  ·have:=z (by rw[e];rfl);injection this with _ e2;exact .inl (by rw[e2];rfl)
  ·exact .inr ⟨c,r,rfl,by lia⟩)]
 exact ofNat_toNat h
theorem lL{cs:List Nat}(h:∀c∈cs,48<=c/\c<=57)(ne:cs≠[]):cpl (Ca ((PySem.NumText.digitsVal cs:Nat):Int))=cs<->(cs.head?=some 48->cs=[48]):=by
 refine⟨fun e z=>?_,canon h ne⟩;refine Classical.byContradiction fun hn=>?_;obtain⟨r,rfl⟩:∃r,cs=48::r:=by
  cases cs with
  | nil=>exact absurd rfl ne
  | cons c r=>
   injection z with z;exact⟨r,by rw[z]⟩
 have rn:r≠[]:=fun y=>hn (by rw[y]);have dr:∀c∈r,48<=c/\c<=57:=fun c hc=>h c (qh _ hc);have ev:PySem.NumText.digitsVal (48::r)=PySem.NumText.digitsVal r:=rfl;rw[dT,ev,PySem.NumText.toDigits_all r dr] at e;have l:r.length+1=(match r.dropWhile (· ==48) with | []=>['0'] | c::r=>(c::r).map Char.ofNat).length:=by
  have:=xk List.length e;rw[js,qm] at this;exact this.symm
 have d:(r.dropWhile (· ==48)).length<=r.length:=(jl3 _).length_le;have r1:1<=r.length:=by
  cases r with
  | nil=>exact absurd rfl rn
  | cons _ _=>simp
 cases hd:r.dropWhile (· ==48) with
 | nil=>
  rw[hd] at l;have l':r.length+1=1:=l;lia
 | cons a b=>
  rw[hd] at l d;have l':r.length+1=((a::b).map Char.ofNat).length:=l;rw[js] at l';lia
theorem T9(n:Nat):(∀c∈cpl (Ca (n:Int)),48<=c/\c<=57)/\cpl (Ca (n:Int))≠[]/\PySem.NumText.digitsVal (cpl (Ca (n:Int)))=n:=by
 rw[dT];refine⟨fun c hc=>?_,fun e=>?_,PySem.W.KIN.val_back n⟩
 ·obtain⟨ch,hch,e⟩:=ka.mp hc;have r:=digit_range (Nat.isDigit_of_mem_toDigits (by decide) (by decide) hch);lia
 ·have:=xk List.length e;rw[js] at this;have p:=Nat.length_toDigits_pos (b:=10) (n:=n);rw[ji7] at this;lia
noncomputable def spR(sp:Sp)(d:Nat):Sp:=fun vs H Q E=>0<d/\sp vs H Q E
theorem ZF{sp:Sp}{vs:List V}(h:spR sp 0 vs H Q E):False:=absurd h.1 (by decide)
theorem Dn.mt{CR:Addr}{CL:List Addr}{n:Int}(R:Dn K CR CL H x n b):∃C dx fs,(∀sp:Sp,(C,sp)∈CL.map fun c=>(c,sp))/\H x=some (.ins C dx fs)/\fs.lookup (Str.ofString "turn")=none/\fs.lookup (Str.ofString "size")=none/\fs.lookup (Str.ofString "on")=none:=by
 obtain⟨C,dx,p,pm,pw,h1,h2,h3,h4⟩:=R.ex;exact⟨C,dx,_,fun sp=>ka.mpr ⟨C,h1,rfl⟩,h3,rfl,rfl,rfl⟩
theorem wJ{cs:List Nat}(h:∀c∈cs,48<=c/\c<=57):cs.head?≠some 45:=by
 cases cs with
 | nil=>exact fun z=>nomatch z
 | cons a r=>
  intro z;injection z with z;have:=h a jv;lia
theorem rA{n:Nat}(h:n<10^60):(cpl (Ca (n:Int))).length<=60:=by
 rw[dT,js];exact(Nat.length_toDigits_le_iff (by decide) (by decide)).mpr h
theorem HN{cs:List Nat}(h:cs.head?≠some 45):HQ cs=cs:=by unfold HQ;rw[ua h]
theorem tK{cs:List Nat}(h:cs.head?≠some 45):KJ cs=((PySem.NumText.digitsVal cs:Nat):Int):=by unfold KJ;rw[ua h,HN h]
theorem UL{y:Int}(h:y.natAbs<10^60):OJ (cpl (Ca y))/\KJ (cpl (Ca y))=y/\HQ (cpl (Ca y))=cpl (Ca ((y.natAbs:Nat):Int)):=by
 have id:=T9 y.natAbs;have dl:=rA h;have z0:(cpl (Ca ((y.natAbs:Nat):Int))).head?=some 48->cpl (Ca ((y.natAbs:Nat):Int))=[48]:=by
  have c:=(lL id.1 id.2.1).mp (by rw[id.2.2]);exact c
 have l1:1<=(cpl (Ca ((y.natAbs:Nat):Int))).length:=by
  cases hh:cpl (Ca ((y.natAbs:Nat):Int)) with
  | nil=>exact absurd hh id.2.1
  | cons a r=>simp
 rcases Int.lt_or_le y 0 with c | c
 ·have e:cpl (Ca y)=45::cpl (Ca ((y.natAbs:Nat):Int)):=by
   cases y with
   | ofNat k=>exact absurd c (by simp)
   | negSucc k=>
    show cpl (Ca (Int.negSucc k))=45::cpl (Ca (((k+1:Nat)):Int));rw[dT];unfold Ca cpl;rw[signs_ofString];show(("-"++Nat.repr (k+1)).toList).map Char.toNat=_;rw[String.toList_append,uk,jo4];rfl
  have hh:(cpl (Ca y)).head?=some 45:=by rw[e];rfl
  have ef:HQ (cpl (Ca y))=cpl (Ca ((y.natAbs:Nat):Int)):=by unfold HQ;rw[ya hh,e];rfl
  refine⟨⟨by rw[ef];exact l1,by rw[ef];exact dl,by rw[ef];exact id.1,fun z=>?_⟩,?_,ef⟩
  ·rw[ef] at z;have:=z0 z;have v:=id.2.2;rw[this] at v;have:PySem.NumText.digitsVal [48]=0:=rfl;lia
  ·unfold KJ;rw[ya hh,ef,id.2.2];lia
 ·have e:Ca y=Ca ((y.natAbs:Nat):Int):=by congr 1;lia
  rw[e];have h45:=wJ id.1;refine⟨⟨by rw[HN h45];exact l1,by rw[HN h45];exact dl,by rw[HN h45];exact id.1,fun z=>z0 (by rw[HN h45] at z;exact z)⟩,?_,HN h45⟩;rw[tK h45,id.2.2];lia
noncomputable def nW(n:Int):List Nat:=cpl (Ca n)
noncomputable def Sm(i:Int):Prop:=i.natAbs<10^45
theorem zY(h:Sm i):i.natAbs<10^60:=jm6 h (by decide)
theorem IW(h:Sm i):OJ (nW i)/\KJ (nW i)=i:=⟨(UL (zY h)).1,(UL (zY h)).2.1⟩
theorem G3(h:Sm i):∀c∈nW i,c=45\/48<=c/\c<=57:=fun c hc=>by
 have N:=(IW h).1;have hd:=N.dg;by_cases e:(nW i).head?=some 45
 ·have ef:HQ (nW i)=(nW i).drop 1:=by unfold HQ;rw[ya e]
  rw[ef] at hd;cases hn:nW i with
  | nil=>rw[hn] at hc;cases hc
  | cons a r=>
   rw[hn] at hc e hd;injection e with e;rcases qv.mp hc with z | z
   ·exact .inl (by rw[z,e])
   ·exact .inr (hd c z)
 ·rw[HN e] at hd;exact .inr (hd c hc)
theorem Ft(h:Sm i):(nW i).length<=46:=by
 have e:=(UL (zY h)).2.2;have l:(cpl (Ca ((i.natAbs:Nat):Int))).length<=45:=by
  rw[dT,js];exact(Nat.length_toDigits_le_iff (by decide) (by decide)).mpr h
 rw[<-e] at l;unfold HQ nW at*
 split at l
 ·rw[jb5] at l;lia
 ·lia
theorem AAd(h:Sm i):nW i≠[]:=fun z=>by
 have:=(IW h).1.lo;rw[z] at this;simp[HQ] at this
theorem Jx(h1: -10000000000000000000000000000000000000000<i)(h2:i<10000000000000000000000000000000000000000):Sm i:=by
 unfold Sm;have:(10:Nat)^45=1000000000000000000000000000000000000000000000:=by decide
 lia
theorem CQ(h:Sm i):i.natAbs.log2<1920:=by
 refine K5 ?_ ?_
 ·unfold Sm at h;have:(10:Nat)^45=1000000000000000000000000000000000000000000000:=by decide
  lia
 ·unfold Sm at h;have:(10:Nat)^45=1000000000000000000000000000000000000000000000:=by decide
  lia
noncomputable def Fj(c:Nat):List (List Nat)->List Nat
 | []=>[]
 | w::ws=>w++(ws.map (c:: ·)).flatten
theorem Tw(c:Nat)(w y:List Nat)(ws:List (List Nat)):Fj c (w::y::ws)=w++c::Fj c (y::ws):=by
 show w++((c::y)++(ws.map (c:: ·)).flatten)=w++c::(y++(ws.map (c:: ·)).flatten);rfl
theorem V6(c:Nat):∀(w:List Nat) (ws:List (List Nat)),(∀x∈w::ws,c∉x)->spl c (Fj c (w::ws))=w::ws
 | w,[],h=>by
  show spl c (w++[])=[w];rw[uj];exact RN c w (h w jv)
 | w,y::ws,h=>by
  rw[Tw,Kv c w _ (h w jv),V6 c y ws fun x hx=>h x (qh _ hx)]
theorem WY(c:Nat):∀(zs:List Str) (acc:Array Nat),(zs.foldl (fun acc (p:Str)=>acc++(⟨#[c]⟩:Str).cps++p.cps) acc).toList=acc.toList++((zs.map cpl).map (c:: ·)).flatten
 | [],acc=>by simp
 | z::zs,acc=>by
  rw[List.foldl_cons,WY c zs,jn5,jn5,zi,zi,jd8];show(acc.toList++[c]++cpl z)++_=acc.toList++((c::cpl z)++_);simp
theorem qP(c:Nat)(zs:List Str):cpl (Txt.join ⟨#[c]⟩ zs)=Fj c (zs.map cpl):=by
 cases zs with
 | nil=>rfl
 | cons z zs=>
  show((zs.foldl (fun acc (p:Str)=>acc++(⟨#[c]⟩:Str).cps++p.cps) z.cps)).toList=_;rw[WY];rfl
theorem rM{k:Nat}{x:Int}(h:Bt k x)(hk:k<=1920)(h0:0<k):x.natAbs.log2<1920:=by
 unfold Bt at h;by_cases z:x.natAbs=0
 ·rw[z];decide
 ·exact xh ((Nat.log2_lt z).mpr h) hk
theorem KY(a b:Str):(a++b).length=a.length+b.length:=by
 show(a.cps++b.cps).size=_;rw[Array.size_append];rfl
theorem AAL{m:Hp->Prop}(h:∀H',KB x H H'->H' x=some o->m H'):m (upd H x o):=h _ (fun y _ ne e=>by rw[BK ne];exact e) An
noncomputable def sg(z:String):List Nat:=cpl (Str.ofString z)
theorem bsg:sg " "=[32]:=by ac_rfl
theorem dsg:sg "date "=sg "date"++[32]:=by ac_rfl
noncomputable def qw(n r:Int):List Nat:=sg "each "++nW n++sg " from "++nW r
noncomputable def Dw:Option Int->List Nat
 | none=>sg "*"
 | some i=>nW i
noncomputable def yQ(nm:List Nat)(m d:Option Int):List Nat:=sg "date "++nm++sg " "++Dw m++sg " "++Dw d
noncomputable def okO(m:Option Int):Prop:=∀i,m=some i->i.natAbs.log2<1920
section
variable(K:Fr)(CR:Addr)(CL:List Addr)(C:Addr)
noncomputable def ACQ:Sp:=fun vs H Q _=>Ex3 fun(x:Addr) (n r:Int)=>An4 (vs=[.ref x,.int n,.int r]) (1<=n) (n<=1000) (Ls K CR CL C H x Q n (fun b=>RB n [r] b))
noncomputable def ACR:Sp:=fun vs H Q _=>Ex4 fun(x r:Addr) (n:Int) (b:Nat)=>An3 (vs=[.ref x,.ref r]) (Dn K CR CL H r n b) (Ls K CR CL C H x Q n (fun _=>True))
noncomputable def ACO:Sp:=fun vs H Q _=>Ex5 fun(x r:Addr) (k n:Int) (b:Nat)=>An4 (vs=[.ref x,.int k,.ref r]) (k.natAbs.log2<1920) (Dn K CR CL H r n b) (Ls K CR CL C H x Q n (fun _=>True))
noncomputable def ACN:Sp:=fun vs H Q _=>Ex6 fun(x r:Addr) (k d n:Int) (b:Nat)=>An7 (vs=[.ref x,.int k,.ref r,.int d]) (1<=k) (k<=1000) (n*k<=150000) (Bt 200 d) (Dn K CR CL H r n b) (Ls K CR CL C H x Q (n*k) (fun _=>True))
noncomputable def Mm:Sp:=fun vs H Q _=>Ex7 fun(x r t:Addr) (n1 n2:Int) (b1 b2:Nat)=>An5 (vs=[.ref x,.ref r,.ref t]) (Dn K CR CL H r n1 b1) (Dn K CR CL H t n2 b2) (Ci n1 n2<=150000) (Ls K CR CL C H x Q (Ci n1 n2) (fun _=>True))
noncomputable def ACP:Sp:=fun vs H Q _=>Ex8 fun(x r t:Addr) (k n1 n2:Int) (b1 b2:Nat)=>An7 (vs=[.ref x,.int k,.ref r,.ref t]) (k≠0) (k.natAbs.log2<1920) (Dn K CR CL H r n1 b1) (Dn K CR CL H t n2 b2) (Ci n1 n2<=150000) (Ls K CR CL C H x Q (Ci n1 n2) (fun _=>True))
noncomputable def xg(CS CO CM:Addr):Sp:=fun vs H Q _=>Ex6 fun(x y:Addr) (z:Str) (g:BV) (m d:Option Int)=>An9 (vs=[.ref x,.str z,.ref y,oI m,oI d,.int 1,.int 0]) (z.length<=100) (Dj K CS CO CM H y g) (SmC g) (okM m) (okO m) (d≠some 0) (okO d) (Ls K CR CL C H x Q g.cy.2 (fun c=>RB g.cy.2 (dtL g m d g.cy.1.toNat) c))
end
noncomputable def ACV:Sp:=fun vs H Q _=>Ex2 fun(n r:Int)=>An4 (vs=[.int n,.int r]) (1<=n) (n<=1000) (∀z:Str,z.length<=3900->Q (.str z) H)
noncomputable def ABx:Sp:=fun vs H Q _=>∃m:Option Int,An3 (vs=[oI m]) (okO m) (∀z:Str,z.length<=1921->Q (.str z) H)
noncomputable def ACX:Sp:=fun vs H Q _=>Ex3 fun(z:Str) (m d:Option Int)=>An5 (vs=[.str z,oI m,oI d,.int 1,.int 0]) (z.length<=100) (okO m) (okO d) (∀(y:Str) (H':Hp),Av H H'->Q (.str y) H')
theorem AAj(h1: -1000000<=i)(h2:i<=1000000):i.natAbs.log2<1920:=rM (Ww (by lia) (by lia)) (by decide) (by decide)
local macro_rules | `(tactic| walk_at"mm")=> `(tactic| (repeat (first | exact List.Mem.head _ | refine List.Mem.tail _ ?_)))
noncomputable def sW(w:Wd):Str:=⟨w.toArray⟩
theorem Bk(w:Wd):cpl (sW w)=w:=by unfold cpl sW;simp
theorem Ip(z:Str):sW (cpl z)=z:=Hr (Bk _)
theorem Cp(w:Wd):(sW w).length=w.length:=by rw[<-Eg,Bk]
theorem xm{a b:Wd}:V.str (sW a)=V.str (sW b)<->a=b:=⟨fun e=>by injection e with e;rw[<-Bk a,e,Bk],fun e=>by rw[e]⟩
structure Ih(cs:List Nat):Prop where
 lo:1<=cs.length
 hi:cs.length<=8
 ch:∀c∈cs,97<=c/\c<=122
theorem vd(c:Nat):c∈cpl (Str.ofString "abcdefghijklmnopqrstuvwxyz")<->97<=c/\c<=122:=by
 have e:cpl (Str.ofString "abcdefghijklmnopqrstuvwxyz")=(List.range 26).map (97+ ·):=by ac_rfl
 rw[e,ka];constructor
 ·rintro⟨k,hk,rfl⟩;have:=jm2.mp hk;lia
 ·intro h;exact⟨c-97,jm2.mpr (by lia),by lia⟩
theorem AAv(c:Nat):(!(Builtin.Str.occurrences (Str.ofString "abcdefghijklmnopqrstuvwxyz") ⟨#[c]⟩ 0 (Str.ofString "abcdefghijklmnopqrstuvwxyz").length 1).isEmpty)=decide (97<=c/\c<=122):=by
 rw[StrLaws.found_one,ja1,decide_eq_true_eq,decide_eq_true_eq];exact vd c
noncomputable def zQ:Sp:=fun vs H Q _=>∃z:Str,An3 (vs=[.str z]) (TOk z) (∀(v:Bool) (H':Hp),Av H H'->(v=true<->Ih (cpl z))->Q (.bl v) H')
noncomputable def XM:Sp:=fun vs H Q _=>∃z:Str,An4 (vs=[.str z]) (TOk z) (z.length<=4000) (Q (.bl true) H)
noncomputable def rdF(p:Addr)(k:Nat):List (Str×V):=[("words",.ref p),("place",.int (k:Int))]
structure Rdr(CD:Addr)(H:Hp)(x p:Addr)(ws:List Wd)(k:Nat):Prop where
 ex:∃dx,H x=some (.ins CD dx (rdF p k))
 tp:H p=some (.tup (ws.map fun w=>.str (sW w)))
 ln:ws.length<=100000
 ok:∀w∈ws,TOk (sW w)
noncomputable def Rd(CD:Addr)(H:Hp)(x:Addr)(r:List Wd):Prop:=∃p ws k,Rdr CD H x p ws k/\ws.drop k=r
section
variable{CD:Addr}{H H':Hp}{x:Addr}{r:List Wd}{w:Wd}
theorem Rd.ob(R:Rd CD H x r):∃dx fs,H x=some (.ins CD dx fs)/\fs.lookup (Str.ofString "take")=none/\fs.lookup (Str.ofString "peek")=none:=by
 obtain⟨p,ws,k,⟨⟨dx,h⟩,_⟩,_⟩:=R;exact⟨dx,_,h,rfl,rfl⟩
theorem Rd.same(R:Rd CD H x r)(s:Av H H'):Rd CD H' x r:=by
 obtain⟨p,ws,k,⟨⟨dx,h⟩,t,l,o⟩,e⟩:=R;exact⟨p,ws,k,⟨⟨dx,s _ _ h⟩,s _ _ t,l,o⟩,e⟩
theorem Rd.tk(R:Rd CD H x (w::r)):TOk (sW w):=by
 obtain⟨p,ws,k,R,e⟩:=R;exact R.ok w (List.mem_of_mem_drop (by rw[e];exact .head _))
end
theorem KB.tr{H2:Hp}(a:KB x H H1)(b:KB x H1 H2):KB x H H2:=fun y o h e=>b y o h (a y o h e)
theorem KB.sm(s:Av H H1):KB x H H1:=fun y o _ e=>s y o e
noncomputable def Tk(CD:Addr)(H:Hp)(x:Addr)(r:List Wd)(G:V->Hp->Prop)(Q:VK):Prop:=∀v H',KB x H H'->Rd CD H' x r->G v H'->Q v H'
theorem Tk.on{CD:Addr}{r:List Wd}{G:V->Hp->Prop}(t:Tk CD H x r G Q)(k:KB x H H1):Tk CD H1 x r G Q:=fun v H' k'=>t v H' (k.tr k')
inductive PK | an | or | bu | ul | up | un | ne | ti
noncomputable def PK.s:PK->String | an=>"and" | or=>"or" | bu=>"but" | ul=>"unlike" | up=>"upon" | un=>"until" | ne=>"near" | ti=>"till"
inductive PT:Type
 | lf (b:Bool)
 | each (n r:Int)
 | date (nm:Wd) (m d:Option Int) (y:Option (Int×Int))
 | no (p:PT)
 | la (k:Int) (p:PT)
 | ev (k:Int) (p:PT) (d:Int)
 | nt (k:Int) (p q:PT)
 | pr (w:PK) (p q:PT)
noncomputable def lfS(b:Bool):String:=if b then "all" else "none"
noncomputable def yrW:Option (Int×Int)->List Wd
 | none=>[]
 | some y=>[sg "each",nW y.1,sg "from",nW y.2]
noncomputable def yr(y:Option (Int×Int)):Int×Int:=y.getD (1,0)
namespace PT
noncomputable def tok:PT->List Wd
 | lf b=>[sg (lfS b)]
 | each n r=>[sg "each",nW n,sg "from",nW r]
 | date nm m d y=>sg "date"::nm::Dw m::Dw d::yrW y
 | no p=>kL::sg "not"::(p.tok++[kR])
 | la k p=>kL::nW k::sg "later"::(p.tok++[kR])
 | ev k p d=>kL::sg "every"::nW k::sg "of"::(p.tok++[sg "from",nW d,kR])
 | nt k p q=>kL::nW k::sg "of"::(p.tok++sg "from"::(q.tok++[kR]))
 | pr w p q=>kL::(p.tok++sg w.s::(q.tok++[kR]))
noncomputable def deep:PT->Nat
 | no p=>p.deep+1
 | la _ p=>p.deep+1
 | ev _ p _=>p.deep+1
 | nt _ p q=>max p.deep q.deep+1
 | pr _ p q=>max p.deep q.deep+1
 | _=>0
noncomputable def okS(m:Option Int):Prop:=∀i,m=some i->Sm i
noncomputable def ok:PT->Prop
 | lf _=>True
 | each n r=>Sm n/\Sm r/\1<=n/\n<=60
 | date nm m d y=>Ih nm/\okS m/\okS d/\(∀z,y=some z->Sm z.1/\Sm z.2/\1<=z.1/\z.1<=2)/\okM m/\d≠some 0
 | no p=>p.ok
 | la k p=>Sm k/\p.ok
 | ev k p d=>Sm k/\Sm d/\p.ok/\1<=k/\k<=3
 | nt k p q=>Sm k/\p.ok/\q.ok/\k≠0
 | pr _ p q=>p.ok/\q.ok
theorem hd(p:PT):∃z t,p.tok=z::t/\z∈[sg "all",sg "none",sg "each",sg "date",kL]:=by
 cases p with
 | lf b=>cases b<;>exact⟨_,_,rfl,by ac_rfl⟩
 | each=>exact⟨_,_,rfl,by ac_rfl⟩
 | date=>exact⟨_,_,rfl,by ac_rfl⟩
 | _=>exact⟨_,_,rfl,by ac_rfl⟩
end PT
noncomputable def PlH(H:Hp):PT->V->Prop
 | .lf b,v=>∃q,v=.ref q/\H q=some (.tup [.str (lfS b)])
 | .each n r,v=>∃q,v=.ref q/\H q=some (.tup [.str "each",.int n,.int r])
 | .date nm m d y,v=>∃q,v=.ref q/\H q=some (.tup [.str "date",.str (sW nm),oI m,oI d,.int (yr y).1,.int (yr y).2])
 | .no p,v=>∃q u,v=.ref q/\H q=some (.tup [.str "not",u])/\PlH H p u
 | .la k p,v=>∃q u,v=.ref q/\H q=some (.tup [.str "later",.int k,u])/\PlH H p u
 | .ev k p d,v=>∃q u,v=.ref q/\H q=some (.tup [.str "every",.int k,u,.int d])/\PlH H p u
 | .nt k p r,v=>∃q u y,v=.ref q/\H q=some (.tup [.str "of",.int k,u,y])/\PlH H p u/\PlH H r y
 | .pr w p r,v=>∃q u y,v=.ref q/\H q=some (.tup [.str w.s,u,y])/\PlH H p u/\PlH H r y
theorem PlH.kp(s:∀y xs,H y=some (.tup xs)->H' y=some (.tup xs)):∀{p:PT} {v:V},PlH H p v->PlH H' p v
 | .lf _,v,⟨q,e,h⟩=>⟨q,e,s _ _ h⟩
 | .each ..,v,⟨q,e,h⟩=>⟨q,e,s _ _ h⟩
 | .date ..,v,⟨q,e,h⟩=>⟨q,e,s _ _ h⟩
 | .no _,v,⟨q,u,e,h,g⟩=>⟨q,u,e,s _ _ h,PlH.kp s g⟩
 | .la ..,v,⟨q,u,e,h,g⟩=>⟨q,u,e,s _ _ h,PlH.kp s g⟩
 | .ev ..,v,⟨q,u,e,h,g⟩=>⟨q,u,e,s _ _ h,PlH.kp s g⟩
 | .nt ..,v,⟨q,u,y,e,h,g,g'⟩=>⟨q,u,y,e,s _ _ h,PlH.kp s g,PlH.kp s g'⟩
 | .pr ..,v,⟨q,u,y,e,h,g,g'⟩=>⟨q,u,y,e,s _ _ h,PlH.kp s g,PlH.kp s g'⟩
theorem PlH.same(s:Av H H'){p:PT}{v:V}(h:PlH H p v):PlH H' p v:=PlH.kp (fun _ _ e=>s _ _ e) h
theorem PlH.kb{CD:Addr}{r:List Wd}(R:Rd CD H x r)(kb:KB x H H'){q:PT}{v:V}(h:PlH H q v):PlH H' q v:=PlH.kp (fun y xs e=>by
 obtain⟨dx,fs,hx,_⟩:=R.ob;exact kb y _ (Ho e hx (fun z=>nomatch z)) e) h
section
variable(CD:Addr)
noncomputable def uU:Sp:=fun vs H Q _=>Ex4 fun(x dx l:Addr) (ws:List Wd)=>An6 (vs=[.ref x,.ref l]) (H x=some (.ins CD dx [])) (H l=some (.lst (ws.map fun w=>.str (sW w)))) (ws.length<=100000) (∀w∈ws,TOk (sW w)) (∀H',KB x H H'->Rd CD H' x ws->Q .non H')
noncomputable def zB:Sp:=fun vs H Q _=>Ex2 fun(x:Addr) (r:List Wd)=>An3 (vs=[.ref x]) (Rd CD H x r) (Q (.str (sW (r.headD []))) H)
noncomputable def yq:Sp:=fun vs H Q _=>Ex2 fun(x:Addr) (r:List Wd)=>An3 (vs=[.ref x]) (Rd CD H x r) (∀H',KB x H H'->Rd CD H' x r.tail->Q (.str (sW (r.headD []))) H')
noncomputable def ym:Sp:=fun vs H Q _=>Ex3 fun(x:Addr) (z:Str) (r:List Wd)=>An3 (vs=[.ref x,.str z]) (Rd CD H x (cpl z::r)) (∀H',KB x H H'->Rd CD H' x r->Q .non H')
noncomputable def zF:Sp:=fun vs H Q _=>Ex3 fun(x:Addr) (n:Int) (r:List Wd)=>An4 (vs=[.ref x]) (Rd CD H x (nW n::r)) (Sm n) (∀H',KB x H H'->Rd CD H' x r->Q (.int n) H')
noncomputable def uD:Sp:=fun vs H Q _=>Ex3 fun(x:Addr) (m:Option Int) (r:List Wd)=>An4 (vs=[.ref x]) (Rd CD H x (Dw m::r)) (PT.okS m) (∀H',KB x H H'->Rd CD H' x r->Q (oI m) H')
noncomputable def uV:Sp:=fun vs H Q _=>Ex4 fun(x:Addr) (n m:Int) (r:List Wd)=>An5 (vs=[.ref x]) (Rd CD H x (nW n::sg "from"::nW m::r)) (Sm n) (Sm m) (∀q H',KB x H H'->Rd CD H' x r->H' q=some (.tup [.int n,.int m])->Q (.ref q) H')
noncomputable def uc:Sp:=fun vs H Q _=>Ex6 fun(x:Addr) (nm:Wd) (m d:Option Int) (y:Option (Int×Int)) (r:List Wd)=>An5 (vs=[.ref x]) (Rd CD H x (nm::Dw m::Dw d::(yrW y++r))) ((PT.date nm m d y).ok) (r.headD []≠sg "each") (Tk CD H x r (fun v H'=>PlH H' (.date nm m d y) v) Q)
noncomputable def spP(d:Nat)(G:PT->List Wd->List Wd)(C:PT->Prop):Sp:=fun vs H Q _=>Ex3 fun(x:Addr) (p:PT) (r:List Wd)=>An7 (vs=[.ref x]) (Rd CD H x (G p r)) p.ok (C p) (p.deep<d) (r.headD []≠sg "each") (Tk CD H x r (fun v H'=>PlH H' p v) Q)
noncomputable def cLN:PT->Prop | .la .. =>True | .nt .. =>True | _=>False
noncomputable def cEv:PT->Prop | .ev .. =>True | _=>False
noncomputable def cPr:PT->Prop | .pr .. =>True | _=>False
noncomputable def cIn:PT->Prop | .no _=>True | p=>cLN p\/cEv p\/cPr p
noncomputable def inn:PT->List Wd->List Wd
 | .no p,r=>sg "not"::(p.tok++r)
 | .la k p,r=>nW k::sg "later"::(p.tok++r)
 | .ev k p d,r=>sg "every"::nW k::sg "of"::(p.tok++sg "from"::nW d::r)
 | .nt k p q,r=>nW k::sg "of"::(p.tok++sg "from"::(q.tok++r))
 | .pr w p q,r=>p.tok++sg w.s::(q.tok++r)
 | _,r=>r
noncomputable def J8(d:Nat):Sp:=spP CD d (fun p r=>p.tok++r) (fun _=>True)
noncomputable def XQ(d:Nat):Sp:=spP CD (d+1) inn cLN
noncomputable def R9(d:Nat):Sp:=spP CD (d+1) (fun p r=>(inn p r).tail) cEv
noncomputable def XN(d:Nat):Sp:=spP CD (d+1) inn cPr
noncomputable def R0(d:Nat):Sp:=spP CD (d+1) inn cIn
end
theorem ZG{CD:Addr}{vs:List V}(h:J8 CD 0 vs H Q E):False:=by
 obtain⟨x,p,r,_,_,_,_,h,_⟩:=h;lia
theorem Pk{a b:String}(h:Str.ofString a≠Str.ofString b):V.str (sW (sg a))≠V.str (Str.ofString b):=fun z=>h (by
 rw[<-Ip (Str.ofString a)];exact V.str.inj z)
theorem Gy(a:String):V.str (sW (sg a))=V.str (Str.ofString a):=by rw[show sg a=cpl (Str.ofString a) from rfl,Ip]
theorem qT{c:Nat}{w:Wd}(h:OJ (c::w)):c=45\/48<=c/\c<=57:=by
 by_cases e:c=45
 ·exact .inl e
 ·exact .inr (h.dg c (by rw[HN (show (c::w).head?≠some 45 from fun z=>e (yv z))];exact .head _))
theorem Tq{n:Int}(h:Sm n){z:String}(hz:∃c w,sg z=c::w/\¬(c=45\/48<=c/\c<=57)):V.str (sW (nW n))≠V.str (Str.ofString z):=fun e=>by
 obtain⟨c,w,e1,e2⟩:=hz;have e3:nW n=sg z:=by rw[<-Bk (nW n),V.str.inj e];rfl
 have:=(IW h).1;rw[e3,e1] at this;exact e2 (qT this)
theorem hdn{a:String}{r:List Wd}(h:sg a≠sg "each"):(sg a::r).headD []≠sg "each":=h
theorem yG:kL=sg "(":=by ac_rfl
theorem yW{b:String}(h:Str.ofString "("≠Str.ofString b):V.str (sW kL)≠V.str (Str.ofString b):=by
 rw[yG];exact Pk h
theorem ACp(w:PK):inV (V.str (Str.ofString w.s)) [.str "and",.str "or",.str "but",.str "unlike",.str "upon",.str "until",.str "near",.str "till"]=true:=by cases w<;>ac_rfl
theorem tX(p:Nat->Bool)(l:List Nat):l.drop (l.takeWhile p).length=l.dropWhile p:=by
 conv=>lhs;rw[<-ja3 (p:=p) (l:=l)]
 rw[ja3]
 conv=>lhs;rw[<-ja3 (p:=p) (l:=l)]
 exact List.drop_left' (by rw[ja3])
theorem g40:(fun c=>(Str.ofString "(").cps.contains c)=(· ==40):=by
 funext c
 rw[show (Str.ofString "(").cps= #[40] by ac_rfl];by_cases h:c=40
 ·subst h;simp
 ·rw[show (#[40]:Array Nat).contains c=false by simpa using h];exact(beq_false_of_ne h).symm
theorem g41:(fun c=>(Str.ofString ")").cps.contains c)=(· ==41):=by
 funext c
 rw[show (Str.ofString ")").cps= #[41] by ac_rfl];by_cases h:c=41
 ·subst h;simp
 ·rw[show (#[41]:Array Nat).contains c=false by simpa using h];exact(beq_false_of_ne h).symm
noncomputable def lsT(z:Str):Str:=if stripSame (Str.ofString "(").cps.contains true false z then z else stripped (Str.ofString "(").cps.contains true false z
noncomputable def rsT(z:Str):Str:=if stripSame (Str.ofString ")").cps.contains false true z then z else stripped (Str.ofString ")").cps.contains false true z
theorem vX(z:Str):cpl (lsT z)=opd (cpl z):=by
 have lo:stripLo (Str.ofString "(").cps.contains true z=((cpl z).takeWhile (· ==40)).length:=by
  unfold stripLo;rw[ya rfl];show((cpl z).takeWhile (fun c=>(Str.ofString "(").cps.contains c)).length=_;rw[g40]
 unfold lsT opd;rw[<-tX];split
 ·rename_i h
  unfold stripSame at h;simp only[jb2,jc0] at h;rw[lo] at h;rw[h.1];rfl
 ·unfold stripped;show(Builtin.Str.strSub z _ _).cps.toList=_;rw[StrLaws.strSub_toList,lo];have:stripHi (Str.ofString "(").cps.contains false z ((cpl z).takeWhile (· ==40)).length=z.length:=rfl;rw[this];exact xy (by rw[jb5];have:=Eg z;unfold cpl at this;lia)
theorem ut(z:Str):cpl (rsT z)=((cpl z).reverse.dropWhile (· ==41)).reverse:=by
 have hi:stripHi (Str.ofString ")").cps.contains true z 0=z.length-((cpl z).reverse.takeWhile (· ==41)).length:=by
  unfold stripHi;rw[ya rfl];show z.length-((cpl z).reverse.takeWhile (fun c=>(Str.ofString ")").cps.contains c)).length=_;rw[g41]
 have key:(cpl z).take ((cpl z).length-((cpl z).reverse.takeWhile (· ==41)).length)=((cpl z).reverse.dropWhile (· ==41)).reverse:=by
  have e:=ja3 (p:=(· ==41)) (l:=(cpl z).reverse);have e2:=xk List.reverse e;rw[List.reverse_append,List.reverse_reverse] at e2;have l2:=xk List.length e;rw[qr,jj9] at l2
  conv=>lhs;rw[<-e2]
  rw[List.take_left'];rw[jj9,e2];lia
 unfold rsT;split
 ·rename_i h
  unfold stripSame at h;simp only[jb2,jc0] at h;have h2:stripHi (Str.ofString ")").cps.contains true z 0=z.length:=h.2;rw[hi] at h2;rw[<-key,Eg,h2,<-Eg,Qr]
 ·unfold stripped;show(Builtin.Str.strSub z 0 (stripHi (Str.ofString ")").cps.contains true z 0)).cps.toList=_;rw[StrLaws.strSub_toList,hi,<-key,Eg];rfl
theorem ACw(w:Wd):lsT (sW w)=sW (opd w):=Hr (by rw[vX,Bk,Bk])
theorem ACd(w:Wd):rsT (sW (opd w))=sW (core w):=Hr (by rw[ut,Bk,Bk];rfl)
theorem bf(z:Str):JX 32 z=(spl 32 (cpl z)).map sW:=rfl
theorem oO:Str.ofString ""=sW []:=by ac_rfl
theorem ADo:Str.ofString "("=sW kL:=by ac_rfl
theorem ADn:Str.ofString ")"=sW kR:=by ac_rfl
theorem nU(c:Nat):∀l:List Nat,((spl c l).map fun w=>w.length+1).sum=l.length+1
 | []=>rfl
 | a::l=>by
  have ih:=nU c l;by_cases e:a=c
  ·subst e;rw[nZ,zi,uu,ih,qm];show 0+1+_=_;lia
  ·rw[XJ l e,zi,uu,qm,qm];rw[RP c l,zi,uu] at ih;lia
theorem iC{a:Nat}:∀{l:List Nat},a∈l->a<=l.sum
 | b::l,h=>by
  rw[uu];rcases qv.mp h with z | z
  ·lia
  ·have:=iC z;lia
theorem Zt(p:Wd):(Hs p).length<=p.length+1:=by
 have a:=O3 p;have b:=Ri p;unfold Hs;simp only[qr,jb9,qm,ji7];lia
theorem aA:∀ps:List Wd,(ps.flatMap Hs).length<=(ps.map fun w=>w.length+1).sum
 | []=>qq _
 | p::ps=>by
  rw[jd7,qr,zi,uu];have:=aA ps;have:=Zt p;lia
theorem tZ{ps:List Wd}(i:Nat):((ps.take i).flatMap Hs).length<=(ps.flatMap Hs).length:=by
 conv=>rhs;rw[<-List.take_append_drop i ps,jh1,qr]
 lia
theorem TX{α:Type}(v:α):∀k:Nat,(List.replicate k [v]).flatten=List.replicate k v
 | 0=>rfl
 | k+1=>by rw[ja2,jd8,TX v k];rfl
theorem AAP(p:Wd):(Hs p).map (fun w=>V.str (sW w))=List.replicate (p.length-(opd p).length) (V.str (sW kL))++[V.str (sW (core p))]++List.replicate ((opd p).length-(core p).length) (V.str (sW kR)):=by
 unfold Hs;simp
theorem yD:∀p:Wd,p.length-(opd p).length<=p.count 40
 | []=>qq _
 | a::p=>by
  by_cases e:a=40
  ·subst e;rw[M6,List.count_cons_self,qm];have:=yD p;have:=O3 p;lia
  ·rw[show opd (a::p)=a::p by simp[opd,jb8,e]];lia
noncomputable def opn(p:Wd):Nat:=p.length-(opd p).length
noncomputable def cls(p:Wd):Nat:=(opd p).length-(core p).length
noncomputable def Dok(c:Int):List Wd->Prop
 | []=>True
 | w::r=>c+(opn w:Int)<=40/\Dok (c+(opn w:Int)-(cls w:Int)) r
noncomputable def dpf:List Wd->Int
 | []=>0
 | w::r=>(opn w:Int)-(cls w:Int)+dpf r
noncomputable def uB:Sp:=fun vs H Q _=>∃z:Str,An6 (vs=[.str z]) (TOk z) ((cpl z).length<=4000) (∀p∈spl 32 (cpl z),core p≠[]) (Dok 0 (spl 32 (cpl z))) (∀l H',Av H H'->H' l=some (.lst ((tks (spl 32 (cpl z))).map fun w=>.str (sW w)))->Q (.ref l) H')
structure Wf(ws ts:List Wd)(b:Nat):Prop where
 ne:ws≠[]
 bl:∀w∈ws,32∉w
 co:∀w∈ws,core w≠[]
 tk:tks ws=ts
 dk:∀c:Int,c+(b:Int)<=40->Dok c ws
 dp:dpf ws=0
 as:∀w∈ws,∀c∈w,c<128
noncomputable def gs(c:Nat):Prop:=c<128/\c≠32/\c≠40/\c≠41
theorem Wf.one{w:Wd}(ne:w≠[])(g:∀c∈w,gs c):Wf [w] [w] 0:=by
 have h1:w.head?≠some 40:=fun z=>(g 40 (List.mem_of_mem_head? z)).2.2.1 rfl;have h2:w.getLast?≠some 41:=fun z=>(g 41 (List.mem_of_getLast? z)).2.2.2 rfl;have s:∀x∈[w],x=w:=fun x h=>vb.mp h;have e0:opn w=0:=by
  have:=yD w;rw[List.count_eq_zero.mpr fun z=>(g 40 z).2.2.1 rfl] at this;exact Nat.le_zero.mp this
 have e1:cls w=0:=by
  unfold cls;rw[PP h1 h2];exact Nat.sub_eq_zero_of_le (O3 w)
 refine⟨by simp,fun x h=>by rw[s x h];exact fun z=>(g 32 z).2.1 rfl,fun x h=>by rw[s x h,PP h1 h2];exact ne,by rw[m8 (jj h1 h2)];rfl,fun c h=>⟨by rw[e0];exact h,trivial⟩,by simp[dpf,e0,e1],fun x h=>by rw[s x h];exact fun c hc=>(g c hc).1⟩
theorem iQ:∀ws r:List Wd,dpf (ws++r)=dpf ws+dpf r
 | [],r=>(jo8 _).symm
 | w::ws,r=>by
  show _+dpf (ws++r)=_+dpf ws+_;rw[iQ ws r];lia
theorem Dok.app:∀{ws r:List Wd} {c:Int},Dok c ws->Dok (c+dpf ws) r->Dok c (ws++r)
 | [],r,c,_,h=>by rwa [show dpf []=0 from rfl,kz] at h
 | w::ws,r,c,h,g=>⟨h.1,Dok.app h.2 (by
  rwa [show c+(opn w:Int)-(cls w:Int)+dpf ws=c+dpf (w::ws) by show _=c+((opn w:Int)-(cls w:Int)+dpf ws);lia])⟩
theorem Wf.app{ws ts ws' ts':List Wd}{b':Nat}(A:Wf ws ts b)(B:Wf ws' ts' b'):Wf (ws++ws') (ts++ts') (max b b'):=
 ⟨fun z=>A.ne (List.append_eq_nil_iff.mp z).1,fun w h=>(ku.mp h).elim (A.bl w) (B.bl w),fun w h=>(ku.mp h).elim (A.co w) (B.co w),by rw[tY,A.tk,B.tk],fun c h=>(A.dk c (by lia)).app (by rw[A.dp];exact B.dk _ (by lia)),by rw[iQ,A.dp,B.dp];rfl,fun w h=>(ku.mp h).elim (A.as w) (B.as w)⟩
theorem pR{p:Wd}(h:core p≠[]):opn (p++[41])=opn p/\cls (p++[41])=cls p+1:=by
 unfold opn cls;have:=Ri p;rw[YC (Kc h),K9 (Kc h),qr,qr];exact⟨by simp,by show(opd p).length+1-_=_;lia⟩
theorem AAZ(w:Wd):opn (40::w)=opn w+1/\cls (40::w)=cls w:=by
 unfold opn cls;rw[M6,G7,qm];have:=O3 w;exact⟨by lia,rfl⟩
theorem ADP:∀{ws:List Wd} {c:Int},ws≠[]->(∀w∈ws,core w≠[])->Dok c ws->Dok c (bB ws)/\dpf (bB ws)=dpf ws-1
 | [],_,n,_,_=>absurd rfl n
 | [w],c,_,h,d=>by
  obtain⟨e1,e2⟩:=pR (h w (.head _));refine⟨⟨by rw[e1];exact d.1,trivial⟩,?_⟩;show(opn (w++[41]):Int)-(cls (w++[41]):Int)+0=(opn w:Int)-(cls w:Int)+0-1;rw[e1,e2];lia
 | w::y::r,c,_,h,d=>by
  obtain⟨a,b⟩:=ADP (ws:=y::r) (by simp) (fun x hx=>h x (.tail _ hx)) d.2;refine⟨⟨d.1,a⟩,?_⟩;show _+dpf (bB (y::r))=_+dpf (y::r)-1;rw[b];lia
theorem AEI{ws:List Wd}{c:Int}(n:ws≠[])(d:Dok (c+1) ws):Dok c (bA ws)/\dpf (bA ws)=dpf ws+1:=by
 cases ws with
 | nil=>exact absurd rfl n
 | cons w r=>
  obtain⟨e1,e2⟩:=AAZ w;refine⟨⟨by rw[e1];have:=d.1;lia,?_⟩,?_⟩
  ·have:=d.2;rw[e1,e2]
   rwa [show c+((opn w+1:Nat):Int)-(cls w:Int)=c+1+(opn w:Int)-(cls w:Int) by lia]
  ·show(opn (40::w):Int)-(cls (40::w):Int)+dpf r=(opn w:Int)-(cls w:Int)+dpf r+1;rw[e1,e2];lia
theorem Wf.wrap{ws ts:List Wd}(A:Wf ws ts b):Wf (bB (bA ws)) (kL::(ts++[kR])) (b+1):=by
 have cA:∀w∈bA ws,core w≠[]:=by
  have:=A.co;cases ws with
  | nil=>exact fun _ h=>nomatch h
  | cons w r=>
   intro x hx;rcases qv.mp hx with z | z
   ·rw[z,G7];exact this w (.head _)
   ·exact this x (.tail _ z)
 have mem:∀{P:Nat->Prop},P 40->P 41->(∀w∈ws,∀c∈w,P c)->∀w∈bB (bA ws),∀c∈w,P c:=fun{P} p0 p1 h w hw c hc=>by
  obtain⟨x,hx,e⟩:=Yx hw A.ne;have:=h x hx;rcases e with e | e | e | e<;>subst e
  ·exact this c hc
  ·rcases qv.mp hc with z | z
   ·exact z ▸ p0
   ·exact this c z
  ·rcases ku.mp hc with z | z
   ·exact this c z
   ·exact(vb.mp z) ▸ p1
  ·rcases qv.mp hc with z | z
   ·exact z ▸ p0
   ·rcases ku.mp z with z | z
    ·exact this c z
    ·exact(vb.mp z) ▸ p1
 have dA:∀c:Int,c+((b+1:Nat):Int)<=40->Dok c (bB (bA ws))/\dpf (bB (bA ws))=0:=fun c h=>by
  obtain⟨a,e⟩:=AEI (c:=c) A.ne (A.dk (c+1) (by lia));obtain⟨a,f⟩:=ADP (Nz A.ne) cA a;exact⟨a,by rw[f,e,A.dp];rfl⟩
 refine⟨W3 (Nz A.ne),fun w hw z=>mem (P:=(· ≠32)) (by decide) (by decide) (fun w h c hc e=>A.bl w h (e ▸ hc)) w hw 32 z rfl,fun w hw=>?_,by rw[mz A.ne A.co,A.tk],fun c h=>(dA c h).1,(dA (-(b:Int)) (by lia)).2,mem (by decide) (by decide) A.as⟩;obtain⟨x,hx,e⟩:=Yx hw A.ne;have c:=A.co x hx;rcases e with e | e | e | e<;>subst e
 ·exact c
 ·rw[G7];exact c
 ·rw[K9 (Kc c)];exact c
 ·rw[K9 (Kc (by rw[G7];exact c)),G7];exact c
theorem NZ{n:Int}(h:Sm n):Wf [nW n] [nW n] 0:=.one (AAd h) fun c hc=>by
 have:=G3 h c hc;unfold gs;lia
theorem RM{m:Option Int}(h:PT.okS m):Wf [Dw m] [Dw m] 0:=by
 cases m with
 | none=>exact .one (by ac_rfl) (by unfold gs;ac_rfl)
 | some i=>exact NZ (h i rfl)
namespace PT
noncomputable def wd:PT->List Wd
 | lf b=>[sg (lfS b)]
 | each n r=>[sg "each",nW n,sg "from",nW r]
 | date nm m d y=>[sg "date"]++([nm]++([Dw m]++([Dw d]++yrW y)))
 | no p=>bB (bA ([sg "not"]++p.wd))
 | la k p=>bB (bA ([nW k]++([sg "later"]++p.wd)))
 | ev k p d=>bB (bA ([sg "every"]++([nW k]++([sg "of"]++(p.wd++([sg "from"]++[nW d]))))))
 | nt k p q=>bB (bA ([nW k]++([sg "of"]++(p.wd++([sg "from"]++q.wd)))))
 | pr w p q=>bB (bA (p.wd++([sg w.s]++q.wd)))
noncomputable def br:PT->Nat
 | no p=>p.br+1
 | la _ p=>p.br+1
 | ev _ p _=>p.br+1
 | nt _ p q=>p.br+q.br+1
 | pr _ p q=>p.br+q.br+1
 | _=>0
noncomputable def lv:PT->Nat
 | no p=>p.lv
 | la _ p=>p.lv
 | ev _ p _=>p.lv
 | nt _ p q=>p.lv+q.lv
 | pr _ p q=>p.lv+q.lv
 | _=>1
theorem MP{z:String}(ne:sg z≠[]:=by ac_rfl)(h:∀c∈sg z,gs c:=by unfold gs;ac_rfl):Wf [sg z] [sg z] 0:=.one ne h
theorem wf:∀{p:PT},p.ok->Wf p.wd p.tok p.deep
 | lf b,_=>by cases b<;>exact MP
 | each n r,h=>((MP (z:="each")).app ((NZ h.1).app ((MP (z:="from")).app (NZ h.2.1))))
 | date nm m d y,h=>by
  have a:Wf [nm] [nm] 0:=.one (fun z=>by have:=h.1.lo;rw[z] at this;exact absurd this (by decide)) fun c hc=>by
   have:=h.1.ch c hc;unfold gs;lia
  cases y with
  | none=>exact(MP (z:="date")).app (a.app ((RM h.2.1).app (RM h.2.2.1)))
  | some y=>
   have o:=h.2.2.2.1 y rfl;exact(MP (z:="date")).app (a.app ((RM h.2.1).app ((RM h.2.2.1).app ((MP (z:="each")).app ((NZ o.1).app ((MP (z:="from")).app (NZ o.2.1)))))))
 | no p,h=>by
  have:=((MP (z:="not")).app (wf (p:=p) h)).wrap
  rwa [Nat.zero_max] at this
 | la k p,h=>by
  have:=((NZ h.1).app ((MP (z:="later")).app (wf h.2))).wrap
  rwa [Nat.zero_max,Nat.zero_max] at this
 | ev k p d,h=>by
  have:=((MP (z:="every")).app ((NZ h.1).app ((MP (z:="of")).app ((wf h.2.2.1).app ((MP (z:="from")).app (NZ h.2.1)))))).wrap;simpa [tok,wd,deep] using this
 | nt k p q,h=>by
  have:=((NZ h.1).app ((MP (z:="of")).app ((wf h.2.1).app ((MP (z:="from")).app (wf h.2.2.1))))).wrap;simpa [tok,wd,deep] using this
 | pr w p q,h=>by
  have k:Wf [sg w.s] [sg w.s] 0:=by cases w<;>exact MP
  have:=((wf h.1).app (k.app (wf h.2))).wrap;simpa [tok,wd,deep] using this
noncomputable def tx(p:PT):Wd:=jn p.wd
end PT
variable{p:PT}
namespace PT
theorem wd_ne:∀p:PT,p.wd≠[]
 | lf _=>by simp[wd]
 | each .. =>by simp[wd]
 | date .. =>by simp[wd]
 | no _=>W3 (Nz (by simp))
 | la .. =>W3 (Nz (by simp))
 | ev .. =>W3 (Nz (by simp))
 | nt .. =>W3 (Nz (by simp))
 | pr .. =>W3 (Nz (by simp))
theorem jw{ps:List Wd}(h:ps≠[]):jn (bB (bA ps))=sg "("++jn ps++sg ")":=by
 rw[yH (Nz h),ADG h,show sg "("=[40] by ac_rfl,show sg ")"=[41] by ac_rfl];rfl
theorem j1{w:Wd}{ps:List Wd}(h:ps≠[]):jn ([w]++ps)=w++sg " "++jn ps:=by
 rw[List.singleton_append,Jf h,bsg];simp
theorem ja(p:PT){ps:List Wd}(h:ps≠[]):jn (p.wd++ps)=p.tx++sg " "++jn ps:=by
 rw[qR p.wd_ne h,bsg];simp[tx]
theorem zp:sg "each "=sg "each"++sg " ":=by ac_rfl
theorem cR:sg " from "=sg " "++sg "from"++sg " ":=by ac_rfl
theorem tx_each(n r:Int):tx (each n r)=qw n r:=by
 unfold qw;rw[zp,cR,bsg];simp[tx,wd,jn]
theorem tx_date0(nm:Wd)(m d:Option Int):tx (date nm m d none)=yQ nm m d:=by
 unfold yQ;rw[dsg,bsg];simp[tx,wd,jn,yrW]
theorem tx_no(p:PT):tx (no p)=sg "(not "++p.tx++sg ")":=by
 show jn _=_;rw[wd,jw (by simp),j1 p.wd_ne,show sg "(not "=sg "("++sg "not"++sg " " by ac_rfl];simp[tx]
theorem tx_la(k:Int)(p:PT):tx (la k p)=sg "("++nW k++sg " later "++p.tx++sg ")":=by
 show jn _=_;rw[wd,jw (by simp),j1 (by simp),j1 p.wd_ne,show sg " later "=sg " "++sg "later"++sg " " by ac_rfl];simp[tx]
theorem ACa:sg " of "=sg " "++sg "of"++sg " ":=by ac_rfl
theorem tx_ev(k:Int)(p:PT)(d:Int):tx (ev k p d)=sg "(every "++nW k++sg " of "++p.tx++(sg " from "++nW d++sg ")"):=by
 show jn _=_;rw[wd,jw (by simp),j1 (by simp),j1 (by simp),j1 (by simp),ja p (by simp),j1 (by simp),ACa,cR,show sg "(every "=sg "("++sg "every"++sg " " by ac_rfl];simp[jn]
theorem tx_nt(k:Int)(p q:PT):tx (nt k p q)=sg "("++nW k++sg " of "++p.tx++sg " from "++q.tx++sg ")":=by
 show jn _=_;rw[wd,jw (by simp),j1 (by simp),j1 (by simp),ja p (by simp),j1 q.wd_ne,ACa,cR];simp[tx]
noncomputable def _root_.Fw.PK.t:PK->String | .an=>" and " | .or=>" or " | .bu=>" but " | .ul=>" unlike " | .up=>" upon " | .un=>" until " | .ne=>" near " | .ti=>" till "
theorem pk_t(w:PK):sg w.t=sg " "++sg w.s++sg " ":=by cases w<;>ac_rfl
theorem tx_pr(w:PK)(p q:PT):tx (pr w p q)=sg "("++p.tx++sg w.t++q.tx++sg ")":=by
 show jn _=_;rw[wd,jw (by simp[wd_ne]),ja p (by simp),j1 q.wd_ne,pk_t];simp[tx]
theorem lv_br:∀p:PT,p.lv<=p.br+1/\1<=p.lv/\p.deep<=p.br
 | lf _=>by simp[lv,br,deep]
 | each .. =>by simp[lv,br,deep]
 | date .. =>by simp[lv,br,deep]
 | no p=>by have:=lv_br p;simp only[lv,br,deep];lia
 | la _ p=>by have:=lv_br p;simp only[lv,br,deep];lia
 | ev _ p _=>by have:=lv_br p;simp only[lv,br,deep];lia
 | nt _ p q=>by have:=lv_br p;have:=lv_br q;simp only[lv,br,deep];lia
 | pr _ p q=>by have:=lv_br p;have:=lv_br q;simp only[lv,br,deep];lia
theorem rdy(h:p.ok)(hl:p.tx.length<=4000)(hd:p.deep<=40):spl 32 p.tx=p.wd/\TOk (sW p.tx)/\Dok 0 p.wd/\∀q∈p.wd,core q≠[]:=by
 have W:=wf h;refine⟨bh W.ne W.bl,⟨Fv.mpr fun c hc=>?_,by rw[Cp];lia⟩,W.dk 0 (by lia),W.co⟩;rw[Bk] at hc;by_cases e:c=32
 ·lia
 ·obtain⟨w,hw,m⟩:=YW e hc;exact W.as w hw c m
section
variable(g:BV)
noncomputable def sz:PT->Int
 | lf _=>1
 | each n _=>n
 | date .. =>g.cy.2
 | no p=>p.sz
 | la _ p=>p.sz
 | ev k p _=>p.sz*k
 | nt _ p q=>Ci p.sz q.sz
 | pr _ p q=>Ci p.sz q.sz
noncomputable def rl:PT->Nat->Prop
 | lf b,c=>c=if b then 1 else 0
 | each n r,c=>RB n [r] c
 | date _ m i _,c=>RB g.cy.2 (dtL g m i g.cy.1.toNat) c
 | _,_=>True
end
variable{g:BV}
theorem sz_pos(hD:SmC g):∀{p:PT},p.ok->0<p.sz g
 | lf _,_=>by simp only[sz];decide
 | each ..,h=>by have:=h.2.2.1;simp only[sz];lia
 | date ..,_=>by have:=hD.d0;simp only[sz];lia
 | no p,h=>sz_pos hD (p:=p) h
 | la _ p,h=>sz_pos hD (p:=p) h.2
 | ev k p _,h=>Int.mul_pos (sz_pos hD h.2.2.1) (by have:=h.2.2.2.1;lia)
 | nt _ p q,h=>(Bv (sz_pos hD h.2.1) (sz_pos hD h.2.2.1)).1
 | pr _ p q,h=>(Bv (sz_pos hD h.1) (sz_pos hD h.2)).1
end PT
noncomputable def PT.kn:PT->Prop
 | .date nm _ _ y=>nm=sg "c"/\y=none
 | .no p=>p.kn
 | .la _ p=>p.kn
 | .ev _ p _=>p.kn
 | .nt _ p q=>p.kn/\q.kn
 | .pr _ p q=>p.kn/\q.kn
 | _=>True
noncomputable def Dc(K:Fr)(CS CO CM:Addr)(g:BV)(H:Hp)(a:Addr):Prop:=∃kv y,H a=some (.dK kv)/\Fy kv (.inr (sW (sg "c")))=some (.ref y)/\Dj K CS CO CM H y g
theorem Dc.same{CS CO CM:Addr}(d:Dc K CS CO CM g H a)(s:Av H H'):Dc K CS CO CM g H' a:=by
 obtain⟨kv,y,h,e,C⟩:=d;exact⟨kv,y,s _ _ h,e,C.same s⟩
section
variable(K:Fr)(CR:Addr)(CL:List Addr)(CS CO CM:Addr)
noncomputable def Tl(g:BV)(p:PT)(H:Hp)(Q:VK):Prop:=∀x b H',Av H H'->Dn K CR CL H' x (p.sz g) b->p.rl g b->Q (.ref x) H'
noncomputable def uP:Sp:=fun vs H Q _=>Ex5 fun(v:V) (a:Addr) (m d:Option Int) (g:BV)=>An6 (vs=[v,.ref a]) (PlH H (.date (sg "c") m d none) v) ((PT.date (sg "c") m d none).ok) (SmC g) (Dc K CS CO CM g H a) (Tl K CR CL g (.date (sg "c") m d none) H Q)
noncomputable def uO:Sp:=fun vs H Q _=>Ex7 fun(w:PK) (x y:Addr) (n1 n2:Int) (b1 b2:Nat)=>An5 (vs=[.str w.s,.ref x,.ref y]) (Dn K CR CL H x n1 b1) (Dn K CR CL H y n2 b2) (Ci n1 n2<=150000) (∀z b H',Av H H'->Dn K CR CL H' z (Ci n1 n2) b->Q (.ref z) H')
noncomputable def R8(d:Nat):Sp:=fun vs H Q _=>Ex4 fun(v:V) (a:Addr) (p:PT) (g:BV)=>An9 (vs=[v,.ref a]) (PlH H p v) p.ok p.kn (p.deep<d) (SmC g) (Dc K CS CO CM g H a) (p.sz g<=150000) (Tl K CR CL g p H Q)
noncomputable def zA:Sp:=fun vs H Q _=>Ex3 fun(a:Addr) (p:PT) (g:BV)=>xK (vs=[.str (sW p.tx),.ref a]) p.ok p.kn (p.tx.length<=4000) (p.deep<=40) (p.lv+p.br<=200) (SmC g) (Dc K CS CO CM g H a) (p.sz g<=150000) (Tl K CR CL g p H Q)
end
theorem Tl.go{CR:Addr}{CL:List Addr}(q:Tl K CR CL g p H Q)(s:Av H H')(N:Dn K CR CL H' x (p.sz g) b)(r:p.rl g b):Q (.ref x) H':=q x b H' s N r
theorem ZJ{CR:Addr}{CL:List Addr}{CS CO CM:Addr}{vs:List V}(h:R8 K CR CL CS CO CM 0 vs H Q E):False:=by
 obtain⟨v,a,p,D,_,_,_,_,h,_⟩:=h;lia
section
variable{K:Fr}{CR:Addr}{CL:List Addr}{C:Addr}{H:Hp}{y dy:Addr}{Q:VK}{E:XK}
theorem Ht(hy:H y=none)(hdy:H dy=none)(ne:dy≠y):Av H (upd (upd H dy (.own y)) y o):=(Ax hdy _).trans (Ax (by rw[BK (Ne.symm ne)];exact hy) _)
theorem Ls.go{n:Int}{G:Nat->Prop}(hy:H y=none)(hdy:H dy=none)(ne:dy≠y)(q:∀b H',Av H H'->Dn K CR CL H' y n b->G b->Q .non H'):Ls K CR CL C (upd (upd H dy (.own y)) y (.ins C dy [])) y Q n G:=
 ⟨⟨dy,An⟩,fun b H' k N g=>q b H' (WP hy hdy ne k) N g⟩
theorem ADt{r t:Addr}{n1 n2:Int}{b1 b2:Nat}(R1:Dn K CR CL H r n1 b1)(R2:Dn K CR CL H t n2 b2)(lz:Ci n1 n2<=150000)(hy:H y=none)(hdy:H dy=none)(ne:dy≠y)(q:∀b H',Av H H'->Dn K CR CL H' y (Ci n1 n2) b->Q .non H'):Mm K CR CL C [.ref y,.ref r,.ref t] (upd (upd H dy (.own y)) y (.ins C dy [])) Q E:=
 ⟨y,r,t,n1,n2,b1,b2,rfl,R1.same (Ht hy hdy ne),R2.same (Ht hy hdy ne),lz,.go hy hdy ne fun b H' s N _=>q b H' s N⟩
end
theorem ACo(w:PK):∀z∈["all","none","each","date","not","later","every","of"],Str.ofString w.s≠Str.ofString z:=by cases w<;>ac_rfl
theorem qK{a b:Int}(h1:0<a)(h2:0<b):a<=Ci a b/\b<=Ci a b:=by
 have f:=Bv h1 h2;exact⟨jn3 f.1 f.2.1,jn3 f.1 f.2.2.1⟩
theorem ADT(h:Sm i):Bt 200 i:=jm6 h (by decide)
namespace PT
theorem tok_len:∀p:PT,p.tok.length<=10*(p.lv+p.br)
 | lf _=>by simp[tok,lv,br]
 | each .. =>by simp[tok,lv,br]
 | date _ _ _ none=>by simp[tok,yrW,lv,br]
 | date _ _ _ (some _)=>by simp[tok,yrW,lv,br]
 | no p=>by have:=tok_len p;simp[tok,lv,br];lia
 | la _ p=>by have:=tok_len p;simp[tok,lv,br];lia
 | ev _ p _=>by have:=tok_len p;simp[tok,lv,br];lia
 | nt _ p q=>by have:=tok_len p;have:=tok_len q;simp[tok,lv,br];lia
 | pr _ p q=>by have:=tok_len p;have:=tok_len q;simp[tok,lv,br];lia
theorem tok_ok(h:p.ok):∀w∈p.tok,TOk (sW w):=by
 have num:∀{n:Int},Sm n->TOk (sW (nW n)):=fun{n} h=>⟨Fv.mpr fun c hc=>by rw[Bk] at hc;have:=G3 h c hc;lia,by rw[Cp];have:=Ft h;lia⟩;have str:∀{m:Option Int},okS m->TOk (sW (Dw m)):=fun{m} h=>by
  cases m with
  | none=>exact⟨by ac_rfl,by ac_rfl⟩
  | some i=>exact num (h i rfl)
 have all:∀{ws:List Wd} {w:Wd},TOk (sW w)->(∀x∈ws,TOk (sW x))->∀x∈w::ws,TOk (sW x):=fun h g x hx=>(qv.mp hx).elim (fun e=>e ▸ h) (g x);have app:∀{ws vs:List Wd},(∀x∈ws,TOk (sW x))->(∀x∈vs,TOk (sW x))->∀x∈ws++vs,TOk (sW x):=fun h g x hx=>(ku.mp hx).elim (h x) (g x);have nil:∀x∈([]:List Wd),TOk (sW x):=fun _ h=>nomatch h;have L:TOk (sW kL):=⟨by ac_rfl,by ac_rfl⟩;have R:TOk (sW kR):=⟨by ac_rfl,by ac_rfl⟩;have k1:TOk (sW (sg "each")):=⟨by ac_rfl,by ac_rfl⟩;have k2:TOk (sW (sg "from")):=⟨by ac_rfl,by ac_rfl⟩;have k3:TOk (sW (sg "of")):=⟨by ac_rfl,by ac_rfl⟩
 induction p with
 | lf b=>cases b<;>exact all ⟨by ac_rfl,by ac_rfl⟩ nil
 | each n r=>exact all k1 (all (num h.1) (all k2 (all (num h.2.1) nil)))
 | date nm m d y=>
  refine all ⟨by ac_rfl,by ac_rfl⟩ (all ⟨Fv.mpr fun c hc=>by rw[Bk] at hc;have:=h.1.ch c hc;lia,by rw[Cp];have:=h.1.hi;lia⟩ (all (str h.2.1) (all (str h.2.2.1) ?_)));cases y with
  | none=>exact nil
  | some y=>exact all k1 (all (num (h.2.2.2.1 y rfl).1) (all k2 (all (num (h.2.2.2.1 y rfl).2.1) nil)))
 | no p i=>exact all L (all ⟨by ac_rfl,by ac_rfl⟩ (app (i h) (all R nil)))
 | la k p i=>exact all L (all (num h.1) (all ⟨by ac_rfl,by ac_rfl⟩ (app (i h.2) (all R nil))))
 | ev k p d i=>exact all L (all ⟨by ac_rfl,by ac_rfl⟩ (all (num h.1) (all k3 (app (i h.2.2.1) (all k2 (all (num h.2.1) (all R nil)))))))
 | nt k p q i j=>exact all L (all (num h.1) (all k3 (app (i h.2.1) (all k2 (app (j h.2.2.1) (all R nil))))))
 | pr w p q i j=>
  have:TOk (sW (sg w.s)):=by cases w<;>exact⟨by ac_rfl,by ac_rfl⟩
  exact all L (app (i h.1) (all this (app (j h.2) (all R nil))))
end PT
theorem DQ{x:V}:atI (x::xs) 0=some x:=Dm (j:=0) rfl
theorem JB{x:V}:atI (x::y::xs) 1=some y:=Dm (j:=1) rfl
theorem N5{x z:V}:atI (x::y::z::xs) 2=some z:=Dm (j:=2) rfl
theorem Yn{x z u:V}:atI (x::y::z::u::xs) 3=some u:=Dm (j:=3) rfl
theorem AEM{x z u v:V}:atI (x::y::z::u::v::xs) 4=some v:=Dm (j:=4) rfl
theorem AEJ{x z u v w:V}:atI (x::y::z::u::v::w::xs) 5=some w:=Dm (j:=5) rfl
noncomputable def J4(n:Nat):List Nat:=if (cpl (Ca (n:Int))).length<2 then 48::cpl (Ca (n:Int)) else cpl (Ca (n:Int))
noncomputable def Nh(y:Int)(m r:Nat):Wd:=nW y++47::(J4 m++47::J4 r)
noncomputable def oF:Sp:=fun vs H Q _=>∃n:Nat,An3 (vs=[.int (n:Int)]) (n<10^60) (∀z:Str,cpl z=J4 n->TL 61 z->Q (.str z) H)
theorem yE{n:Nat}(h:n<10^60):((n:Int)).natAbs.log2<1920:=K5 (by lia) (by have:(10:Nat)^60=1000000000000000000000000000000000000000000000000000000000000:=(by decide);lia)
theorem jF:∀d:Nat,48<=d->d<=57->cpl (zfilled ⟨#[d]⟩ 1)=[48,d]:=fun d h1 h2=>(by ac_rfl:∀d<58,48<=d->cpl (zfilled ⟨#[d]⟩ 1)=[48,d]) d (by lia) h1
theorem e47:cpl (Str.ofString "/")=[47]:=by ac_rfl
noncomputable def uZ(K:Fr):Sp:=fun vs H Q _=>Ex4 fun(p:Addr) (y:Int) (m r:Nat)=>An6 (vs=[.ref p]) (SqT K H p [.int y,.int (m:Int),.int (r:Int)]) (y.natAbs.log2<1920) (m<10^60) (r<10^60) (∀z:Str,cpl z=cpl (Ca y)++47::(J4 m++47::J4 r)->Q (.str z) H)
theorem qI(h:Bt 300 i):i.natAbs.log2<1920:=by
 by_cases e:i.natAbs=0
 ·rw[e];decide
 ·exact xh ((Nat.log2_lt e).mpr h) (by decide)
theorem IsD.few{d:BV}(g:d.good){y m r:Int}(h:IsD d y m r):m<=26/\r<=1006:=by
 have m0:=h.m0;have m1:=h.m1;have i:=je9 (l:=d.L y) (n:=(m-1).toNat) (by lia);have e:(d.L y).getD (m-1).toNat 0=(d.L y)[(m-1).toNat]'(by lia):=by rw[vv,qo (by lia)];rfl
 have r1:=h.r1;rw[e] at r1;cases d with
 | sun s ls lp ts=>
  have:=(bH g y _ i).2;have l:((Ks ls lp ts y).length:Int)<=26:=by have:=Fx.l1 g;rw[bI];lia
  exact⟨jg7 m1 l,jg7 r1 this⟩
 | moon s bd td bm tm=>
  have:=(bF g y _ i).2;have:=(bG g y).2;have m1:m<=((OD bd td bm tm y).length:Int):=m1;exact⟨by lia,jg7 r1 (by assumption:_)⟩
noncomputable def Nth(n:Int)(b:Nat)(d k r:Int):Prop:=On n b r=true/\(0<k->d<=r/\CC n b r-CC n b d=k-1)/\(k<0->r<=d/\CC n b (d+1)-CC n b r= -k)
noncomputable def tW(t:Tm):Wd:=43::Fj 44 ([t.2.1,t.2.2.1,t.2.2.2].map nW)
noncomputable def wC:BV->List Wd
 | .sun s ls lp ts=>nW s::Fj 44 (ls.map nW)::sg "leap"::nW lp::ts.map tW
 | .moon s bd td bm tm=>nW s::nW bd::(td.map tW++sg "/"::nW bm::tm.map tW)
noncomputable def hC:BV->String
 | .sun .. =>"sun"
 | .moon .. =>"moon"
noncomputable def wdC(g:BV):List Wd:=sg (hC g)::wC g
structure Ok1(a b n:Int):Prop where
 n0:1<=n
 n1:n<=3
 a0:0<=a
 a1:a<=n
 b0:0<=b
 b1:b<n
inductive OkC:BV->Prop
 | sun {s lp a b n:Int} {ls:List Int}:Sm s->2<=ls.length->ls.length<=3->(∀n∈ls,1<=n/\n<=4)->1<=lp->lp<=2->Ok1 a b n->OkC (.sun s ls lp [(1,a,b,n)])
 | moon {s bd a b n bm c e y:Int}:Sm s->1<=bd->bd<=3->Ok1 a b n->n<=2->1<=bm->bm<=3->Ok1 c e y->y<=2->OkC (.moon s bd [(1,a,b,n)] bm [(1,c,e,y)])
theorem Ok1.tm{a b n:Int}(o:Ok1 a b n):∀t∈[((1,a,b,n):Tm)],OkT t:=fun t ht=>by
 rw[vb.mp ht];exact⟨.inl rfl,o.n0,jg7 o.n1 (by decide),o.a0,o.a1,o.b0,o.b1⟩
theorem sm1(h1:0<=i)(h2:i<=60):Sm i:=Jx (by lia) (by lia)
theorem Ok1.sm{a b n:Int}(o:Ok1 a b n):∀i∈[a,b,n],Sm i:=fun i hi=>by
 obtain⟨n0,n1,a0,a1,b0,b1⟩:=o;simp only[qv,yi,or_false] at hi;exact sm1 (by lia) (by lia)
theorem cg{a b n:Int}(h:1<=n):PER [((1,a,b,n):Tm)]=n:=YS (by decide) (show 0<n by lia) (Int.one_dvd n)
theorem up1{c a b n u:Int}(o:Ok1 a b n):UP c [(1,a,b,n)] (n*u)=(c*n+a)*u:=by
 have n0:=o.n0;show c*(n*u)+(1*((a*(n*u)+b)/n)+0)=_;rw[show a*(n*u)+b=b+n*(a*u) by rw[jd6];lia,jf3 _ _ (by lia),ja0 o.b0 o.b1,jg9,jd2];lia
theorem nR{ls:List Int}(h:∀n∈ls,1<=n/\n<=4)(l:ls.length<=3):(ls.length:Int)<=ls.sum/\ls.sum<=12:=by
 match ls,h,l with
 | [],_,_=>exact⟨by decide,by decide⟩
 | [a],h,_=>have:=h a (.head _);simp;lia
 | [a,b],h,_=>have:=h a (.head _);have:=h b (.tail _ (.head _));simp;lia
 | [a,b,c],h,_=>have:=h a (.head _);have:=h b (.tail _ (.head _));have:=h c (.tail _ (.tail _ (.head _)));simp;lia
theorem OkC.good(o:OkC g):g.good:=by
 cases o with
 | sun hs l0 l1 hm p0 p1 o=>
  rename_i s lp a b n ls
  have sb:=nR hm l1;have e:falls [((1,a,b,n):Tm)]=0:=rfl;refine⟨by lia,by lia,fun n hn=>by have:=hm n hn;lia,p0,by lia,?_,by rw[e];lia,o.tm,(by show 1<=6;decide)⟩;rw[e,vv,qo (by lia)];have:=hm _ (je9 (show (lp-1).toNat<ls.length by lia));show 0<=ls[(lp-1).toNat];lia
 | moon hs d0 d1 o _ m0 m1 o' _=>exact⟨(by show(0:Int)<_;lia),by lia,(by show(0:Int)<_;lia),by lia,o.tm,o'.tm,(by show 1<=6;decide),(by show 1<=6;decide)⟩
theorem OkC.bs(o:OkC g):Bt 290 g.st:=by
 cases o with
 | sun hs=>exact jm6 hs (by decide)
 | moon hs=>exact jm6 hs (by decide)
noncomputable def dyC:BV->Int
 | .sun _ ls _ ts=>(ls.sum*(ts.map (·.2.2.2)).sum+(ts.map (·.2.1)).sum)
 | .moon _ bd td bm tm=>(bm*(tm.map (·.2.2.2)).sum+(tm.map (·.2.1)).sum)*(bd*(td.map (·.2.2.2)).sum+(td.map (·.2.1)).sum)
theorem OkC.cy(o:OkC g):SmC g/\g.cy.2∣dyC g/\1<=dyC g/\dyC g<=64:=by
 cases o with
 | sun hs l0 l1 hm p0 p1 o=>
  rename_i s lp a b n ls
  have sb:=nR hm l1;obtain⟨n0,n1,a0,a1,_,_⟩:=id o;have e1:(BV.sun s ls lp [(1,a,b,n)]).cy.1=n:=cg n0;have e2:(BV.sun s ls lp [(1,a,b,n)]).cy.2=ls.sum*n+a:=by
   show UP ls.sum [(1,a,b,n)] (PER [(1,a,b,n)])=_;have:=up1 (c:=ls.sum) (u:=1) o;rw[jc1,jc1] at this;rw[cg n0,this]
  have e3:dyC (.sun s ls lp [(1,a,b,n)])=ls.sum*n+a:=by show ls.sum*(n+0)+(a+0)=_;rw[kz,kz]
  have h1:1*1<=ls.sum*n:=vt (by lia) n0 (by decide) (by lia);have h2:ls.sum*n<=12*3:=vt (by lia) n1 (by lia) (by decide);exact⟨⟨by lia,by lia,by lia,by lia⟩,by rw[e2,e3];exact jg6 _,by lia,by lia⟩
 | moon hs d0 d1 o n2 m0 m1 o' y2=>
  rename_i s bd a b n bm c e y
  obtain⟨n0,_,a0,a1,_,_⟩:=id o;obtain⟨y0,_,c0,c1,_,_⟩:=id o';have eM:UP bm [(1,c,e,y)] (PER [(1,c,e,y)])=bm*y+c:=by
   have:=up1 (c:=bm) (u:=1) o';rw[jc1,jc1] at this;rw[cg y0,this]
  have h1:1*1<=bm*y:=vt (by lia) y0 (by decide) (by lia);have h2:bm*y<=3*2:=vt (by lia) y2 (by lia) (by decide);have h3:1*1<=bd*n:=vt (by lia) n0 (by decide) (by lia);have h4:bd*n<=3*2:=vt (by lia) n2 (by lia) (by decide);have e3:dyC (.moon s bd [(1,a,b,n)] bm [(1,c,e,y)])=(bm*y+c)*(bd*n+a):=by
   show(bm*(y+0)+(c+0))*(bd*(n+0)+(a+0))=_;simp only[kz]
  have e1:(BV.moon s bd [(1,a,b,n)] bm [(1,c,e,y)]).cy=(y*moT [(1,a,b,n)] bm [(1,c,e,y)],UP bd [(1,a,b,n)] ((bm*y+c)*moT [(1,a,b,n)] bm [(1,c,e,y)])):=by
   show(_,_)=_;rw[eM,cg y0]
  have eT:moT [(1,a,b,n)] bm [(1,c,e,y)]=n/(Int.gcd n (bm*y+c):Int):=by
   unfold moT;rw[cg n0,eM]
  have hM:1<=bm*y+c/\bm*y+c<=8:=by lia
  generalize bm*y+c=M at*
  have g0:(0:Int)<(Int.gcd n M:Int):=K6 (b:=M) (by lia);obtain⟨v,hv⟩:=je8 (a:=n) (b:=M);obtain⟨u,hu⟩:=jg1 (a:=n) (b:=M);generalize (Int.gcd n M:Int)=G at*
  have ev:n/G=v:=by rw[hv,jg2 _ (by lia)]
  have eU:M*v=n*u:=by
   conv=>lhs;rw[hu]
   conv=>rhs;rw[hv]
   rw[jd2,jd2,ub u v]
  rw[eT,ev,eU,up1 o] at e1;have v0:0<v:=Int.pos_of_mul_pos_right (a:=G) (by lia) (by lia);have u0:0<u:=Int.pos_of_mul_pos_right (a:=G) (by lia) (by lia);have vn:v<=n:=by rw[<-ev];exact je7 _ (by lia)
  have uM:u<=M:=jn3 (by lia) ⟨G,by rw[ub];exact hu⟩;have h5:1*1<=y*v:=vt y0 (by lia) (by decide) (by lia);have h6:y*v<=2*2:=vt y2 (by lia) (by lia) (by decide);have h7:1*1<=(bd*n+a)*u:=vt (by lia) (by lia) (by decide) (by lia);have h8:(bd*n+a)*u<=8*8:=vt (by lia) (by lia) (by lia) (by decide);have h9:1*1<=M*(bd*n+a):=vt (by lia) (by lia) (by decide) (by lia);have h10:M*(bd*n+a)<=8*8:=vt (by lia) (by lia) (by lia) (by decide);rw[e3];refine⟨⟨?_,?_,?_,?_⟩,?_,by lia,by lia⟩<;>rw[e1]
  ·exact h5
  ·exact jg7 h6 (by decide)
  ·exact h7
  ·exact h8
  ·exact⟨G,by show _=(bd*n+a)*u*G;rw[hu,ub G u,jd2,ub G,<-jd2,ub u]⟩
noncomputable def wvS(ws:List Wd):List V:=ws.map fun w=>.str (sW w)
theorem G6(xs:List V)(k:Nat):Hu xs (some (k:Int)) none=xs.drop k:=by
 unfold Hu;rw[HT.sIx_nat,HT.sIx_none];by_cases h:k<=xs.length
 ·rw[jl0 h,xy (by rw[jb5];exact qq _)]
 ·rw[Nat.min_eq_right (by lia),va (qq _),va (by lia),List.take_nil]
theorem sn{c:Nat}(h:¬(c=45\/48<=c/\c<=57)){i:Int}(g:Sm i):c∉nW i:=fun z=>h (G3 g c z)
theorem dJ{ns:List Int}(hn:ns≠[])(h:∀n∈ns,Sm n):(JX 44 (sW (Fj 44 (ns.map nW)))).map V.str=ns.map fun n=>V.str (sW (nW n)):=by
 cases ns with
 | nil=>exact absurd rfl hn
 | cons n r=>
  rw[show JX 44 (sW (Fj 44 ((n::r).map nW)))=(spl 44 (cpl (sW (Fj 44 ((n::r).map nW))))).map sW from rfl,zi,Bk,V6 44 _ _ fun x hx=>by
   obtain⟨i,hi,rfl⟩:=ka.mp (show x∈(n::r).map nW from hx);exact sn (by decide) (h i hi)]
  simp
theorem WT(c k:Nat):∀{ws:List (List Nat)},(∀w∈ws,w.length<=k)->(Fj c ws).length<=ws.length*(k+1)
 | [],_=>vj _
 | [w],h=>by
  have:=h w jv;show(w++[]).length<=1*(k+1);rw[uj];lia
 | w::y::ws,h=>by
  have a:=h w jv;have b:=WT c k (ws:=y::ws) fun x hx=>h x (qh _ hx);rw[Tw,qr,qm,qm (as:=y::ws),jp2];lia
theorem NT{ns:List Int}(h:∀n∈ns,Sm n):(Fj 44 (ns.map nW)).length<=ns.length*47:=by
 have:=WT 44 46 (ws:=ns.map nW) fun w hw=>by
  obtain⟨n,hn,rfl⟩:=ka.mp hw;exact Ft (h n hn)
 rwa [js] at this
theorem qQ{c:Nat}{P:Nat->Prop}(hc:P c):∀{ws:List (List Nat)},(∀w∈ws,∀a∈w,P a)->∀a∈Fj c ws,P a
 | [],_,a,ha=>by cases ha
 | w::ws,h,a,ha=>by
  rcases ku.mp ha with z | z
  ·exact h w jv a z
  ·obtain⟨x,hx,hz⟩:=List.mem_flatten.mp z;obtain⟨y,hy,rfl⟩:=ka.mp hx;rcases qv.mp hz with e | e
   ·rw[e];exact hc
   ·exact h y (qh _ hy) a e
theorem vV(h:Sm i):TOk (sW (nW i)):=⟨Fv.mpr fun c hc=>by rw[Bk] at hc;have:=G3 h c hc;lia,by rw[Cp];have:=Ft h;lia⟩
noncomputable def wch(c:Nat):Prop:=43<=c/\c<=122
theorem vU{ns:List Int}(h:∀n∈ns,Sm n):∀c∈Fj 44 (ns.map nW),wch c:=qQ (by unfold wch;lia) fun w hw c hc=>by
 obtain⟨n,hn,rfl⟩:=ka.mp hw;have:=G3 (h n hn) c hc;unfold wch;lia
theorem OkC.ch(o:OkC g):∀w∈wdC g,w.length<=200/\∀c∈w,wch c:=fun w hw=>by
 have num:∀{i:Int},Sm i->(nW i).length<=200/\∀c∈nW i,wch c:=fun h=>⟨by have:=Ft h;lia,fun c hc=>by have:=G3 h c hc;unfold wch;lia⟩;have lst:∀{ns:List Int},ns.length<=3->(∀n∈ns,Sm n)->(Fj 44 (ns.map nW)).length<=141/\∀c∈Fj 44 (ns.map nW),wch c:=fun l h=>⟨zw (NT h) (by lia),vU h⟩;have tm:∀{a b n:Int},Ok1 a b n->(tW (1,a,b,n)).length<=200/\∀c∈tW (1,a,b,n),wch c:=fun{a b n} o=>by
  have:=lst (ns:=[a,b,n]) (by show 3<=3;decide) o.sm;refine⟨by show(Fj 44 ([a,b,n].map nW)).length+1<=_;lia,fun c hc=>?_⟩;rcases qv.mp hc with e | e
  ·unfold wch;lia
  ·exact this.2 c e
 have all:∀{z:String},(sg z).length<=4->(∀c∈sg z,wch c)->(sg z).length<=200/\∀c∈sg z,wch c:=fun h g=>⟨by lia,g⟩;cases o with
 | sun hs l0 l1 hm p0 p1 o=>
  simp only[wdC,hC,wC,qv,yi,or_false,zi,jo9] at hw;rcases hw with rfl | rfl | rfl | rfl | rfl | rfl
  ·exact all (by ac_rfl) (by unfold wch;ac_rfl)
  ·exact num hs
  ·have:=lst l1 fun n hn=>sm1 (by have:=hm n hn;lia) (by have:=hm n hn;lia);exact⟨by lia,this.2⟩
  ·exact all (by ac_rfl) (by unfold wch;ac_rfl)
  ·exact num (sm1 (by lia) (by lia))
  ·exact tm o
 | moon hs d0 d1 o _ m0 m1 o' _=>
  simp only[wdC,hC,wC,qv,ku,yi,or_false,zi,jo9,false_or] at hw;rcases hw with rfl | rfl | rfl | rfl | rfl | rfl | rfl
  ·exact all (by ac_rfl) (by unfold wch;ac_rfl)
  ·exact num hs
  ·exact num (sm1 (by lia) (by lia))
  ·exact tm o
  ·exact all (by ac_rfl) (by unfold wch;ac_rfl)
  ·exact num (sm1 (by lia) (by lia))
  ·exact tm o'
noncomputable def Jh(g:BV):Wd:=jn (wdC g)
theorem dh(k:Nat):∀(ws:List Wd),(∀w∈ws,w.length<=k)->(jn ws).length<=ws.length*(k+1)
 | [],_=>vj _
 | [w],h=>by have:=h w jv;show w.length<=1*(k+1);lia
 | w::y::r,h=>by
  have:=dh k (y::r) fun x hx=>h x (qh _ hx);have:=h w jv;rw[Jf (by simp),qr,qm,qm (as:=y::r),jp2];lia
theorem OkC.tx(o:OkC g):spl 32 (Jh g)=wdC g/\(Jh g).length<=2000/\TOk (sW (Jh g)):=by
 have h:=o.ch;have l:(Jh g).length<=2000:=by
  have a:=dh 200 (wdC g) fun w hw=>(h w hw).1;have b:(wdC g).length<=7:=by cases o<;>simp[wdC,wC]
  exact zw a (zw (jj5 _ b) (by decide))
 refine⟨bh (by simp[wdC]) fun w hw z=>by have:=(h w hw).2 32 z;unfold wch at this;lia,l,Fv.mpr fun c hc=>?_,by rw[Cp];lia⟩;rw[Bk] at hc;by_cases e:c=32
 ·lia
 ·obtain⟨w,hw,m⟩:=YW e hc;have:=(h w hw).2 c m;unfold wch at this;lia
noncomputable def oA:Sp:=fun vs H Q _=>∃i:Int,An3 (vs=[.str (sW (nW i))]) (Sm i) (∀H',Av H H'->Q (.int i) H')
noncomputable def jO:Sp:=fun vs H Q _=>∃ns:List Int,An5 (vs=[.str (sW (Fj 44 (ns.map nW)))]) (ns≠[]) (ns.length<=3) (∀n∈ns,Sm n) (∀(l:Addr) H',H l=none->Av H H'->H' l=some (.lst (ns.map V.int))->Q (.ref l) H')
noncomputable def n8:Sp:=fun vs H Q _=>Ex3 fun(a b n:Int)=>An3 (vs=[.str (sW (tW (1,a,b,n)))]) (∀i∈[a,b,n],Sm i) (∀(p:Addr) H',Av H H'->H' p=some (.tup (tmV (1,a,b,n)))->Q (.ref p) H')
noncomputable def jN:Sp:=fun vs H Q _=>Ex4 fun(l:Addr) (a b n:Int)=>An4 (vs=[.ref l]) (H l=some (.lst (wvS [tW (1,a,b,n)]))) (∀i∈[a,b,n],Sm i) (∀(l' p:Addr) H',Av H H'->H' l'=some (.lst [.ref p])->H' p=some (.tup (tmV (1,a,b,n)))->Q (.ref l') H')
noncomputable def ZD(K:Fr)(CS CO CM:Addr)(w:String):Sp:=fun vs H Q _=>Ex2 fun(l:Addr) (g:BV)=>An5 (vs=[.ref l]) (H l=some (.lst (wvS (wC g)))) (hC g=w) (OkC g) (∀(x:Addr) H',Av H H'->Dj K CS CO CM H' x g->Q (.ref x) H')
noncomputable def oE(K:Fr)(CS CO CM:Addr):Sp:=fun vs H Q _=>∃g:BV,An3 (vs=[.str (sW (Jh g))]) (OkC g) (∀(x:Addr) H',Av H H'->Dj K CS CO CM H' x g->Q (.ref x) H')
theorem qZ{b:Int}(f:falls ts<b)(h:b<=1000):W5 b ts:=⟨by have:=qp (ts:=ts);lia,by lia,Jn f⟩
noncomputable def zK(K:Fr):Sp:=fun vs H Q _=>Ex4 fun(a:Addr) (n d:Int) (b:Nat)=>An8 (vs=[.ref a,.int d]) (SqT K H a [.int n,.int (b:Int)]) (0<n) (n<=150000) (b<2^n.toNat) (Bt 200 d) ((∀e,On n b e=false)->∀H',Av H H'->Q .non H') (∀(r:Int) (H':Hp),Av H H'->d<=r->On n b r=true->(∀e,d<=e->e<r->On n b e=false)->Q (.int r) H')
noncomputable def zN(K:Fr):Sp:=fun vs H Q _=>Ex4 fun(a:Addr) (n d:Int) (b:Nat)=>An8 (vs=[.ref a,.int d]) (SqT K H a [.int n,.int (b:Int)]) (0<n) (n<=150000) (b<2^n.toNat) (Bt 200 d) ((∀e,On n b e=false)->∀H',Av H H'->Q .non H') (∀(r:Int) (H':Hp),Av H H'->r<=d->On n b r=true->(∀e,r<e->e<=d->On n b e=false)->Q (.int r) H')
noncomputable def Kd(H H':Hp):Prop:=∀y o,(∀kv,o≠.dK kv)->H y=some o->H' y=some o
section
variable{K:Fr}{CS CO CM CR C x:Addr}{CL:List Addr}{H H' H2:Hp}
theorem Kd.of(s:Av H H'):Kd H H':=fun y o _ h=>s y o h
theorem Kd.trans(a:Kd H H')(b:Kd H' H2):Kd H H2:=fun y o n h=>b y o n (a y o n h)
theorem Kd.put{kv kv':List (Key×V)}(h:H a=some (.dK kv)):Kd H (upd H a (.dK kv')):=fun y o n e=>by
 rw[BK fun z=>by rw[z,h] at e;exact n kv (yv e).symm];exact e
theorem Kd.ins(k:Kd H H'){d:Addr}{fs:List (Str×V)}(h:H x=some (.ins C d fs)):H' x=some (.ins C d fs):=k _ _ (fun _ z=>nomatch z) h
theorem Kd.tup(k:Kd H H'){xs:List V}(h:H x=some (.tup xs)):H' x=some (.tup xs):=k _ _ (fun _ z=>nomatch z) h
theorem Kd.lst(k:Kd H H'){xs:List V}(h:H x=some (.lst xs)):H' x=some (.lst xs):=k _ _ (fun _ z=>nomatch z) h
theorem SqT.kd(k:Kd H H'){xs:List V}(h:SqT K H x xs):SqT K H' x xs:=by
 rcases h with (h | ⟨o,h⟩) | h
 ·exact .inl (.inl (k.tup h))
 ·exact .inl (.inr ⟨o,k _ _ (fun _ z=>nomatch z) h⟩)
 ·exact .inr h
theorem Tms.kd(k:Kd H H'):∀{vs:List V} {ts:List Tm},Tms H vs ts->Tms H' vs ts
 | _,_,.nil=>.nil
 | _,_,.cons h t=>.cons (k.tup h) (Tms.kd k t)
theorem Me.kd(k:Kd H H'){b:Int}{ts:List Tm}(M:Me K CM H x b ts):Me K CM H' x b ts:=by
 obtain⟨⟨dy,q,h3,⟨⟨vs,h4,h5⟩,h6,h7⟩⟩,h8,h9⟩:=M;exact⟨⟨dy,q,k.ins h3,⟨⟨vs,SqT.kd k h4,h5.kd k⟩,h6,h7⟩⟩,h8,h9⟩
theorem Dj.kd(k:Kd H H'){g:BV}(S:Dj K CS CO CM H x g):Dj K CS CO CM H' x g:=by
 cases g with
 | sun=>
  obtain⟨⟨dx,p,y,h1,h2,h3⟩,h10,h11⟩:=S;exact⟨⟨dx,p,y,k.ins h1,SqT.kd k h2,Me.kd k h3⟩,h10,h11⟩
 | moon=>
  obtain⟨⟨dx,d,m,h1,h2,h3⟩,h10,h11⟩:=S;exact⟨⟨dx,d,m,k.ins h1,Me.kd k h2,Me.kd k h3⟩,h10,h11⟩
theorem Dn.kd(k:Kd H H'){n:Int}{b:Nat}(R:Dn K CR CL H x n b):Dn K CR CL H' x n b:=by
 obtain⟨⟨C,dx,p,pm,pw,h1,h2,h3,h4⟩,n0,n1,lt⟩:=R;exact⟨⟨C,dx,p,pm,pw,h1,h2,k.ins h3,k.tup h4⟩,n0,n1,lt⟩
end
structure Cs where
 (D S O M R:Addr) (L:List Addr)
noncomputable def xG(K:Fr)(cs:Cs)(H:Hp)(a:Addr):Option BV->Prop
 | none=>H a=some (.dK [])
 | some g=>Dc K cs.S cs.O cs.M g H a
structure Dk(K:Fr)(cs:Cs)(H:Hp)(x:Addr)(c:Option BV)(j:Nat)(m:Wd->Option (Nat×Nat)):Prop where
 ex:∃dx a r kv,H x=some (.ins cs.D dx [("calendars",.ref a),("rules",.ref r)])/\xG K cs H a c/\H r=some (.dK kv)/\kv.length<=j/\r≠a/\∀nm n b,m nm=some (n,b)->∃y,Fy kv (.inr (sW nm))=some (.ref y)/\Dn K cs.R cs.L H y (n:Int) b
noncomputable def setM(m:Wd->Option (Nat×Nat))(nm:Wd)(v:Nat×Nat):Wd->Option (Nat×Nat):=fun k=>if k=nm then some v else m k
section
variable{K:Fr}{cs:Cs}{H H':Hp}{x:Addr}{c:Option BV}{j:Nat}{m:Wd->Option (Nat×Nat)}
theorem xG.same(C:xG K cs H a c)(s:Av H H'):xG K cs H' a c:=by
 cases c with
 | none=>exact s _ _ C
 | some D=>exact Dc.same C s
theorem Dk.same(d:Dk K cs H x c j m)(s:Av H H'):Dk K cs H' x c j m:=by
 obtain⟨dx,a,r,kv,h1,h2,h3,h4,h5,h6⟩:=d.ex;exact⟨dx,a,r,kv,s _ _ h1,h2.same s,s _ _ h3,h4,h5,fun nm n b e=>by
  obtain⟨y,g1,g2⟩:=h6 nm n b e;exact⟨y,g1,g2.same s⟩⟩
end
inductive Wk where
 | nm (w:Wd) | tx (w:Wd) | ru (w:Wd) | nu (i:Int) | ca (w:Wd)
noncomputable def Wk.k:Wk->Str | .nm _=>"NAME" | .tx _=>"TEXT" | .ru _=>"RULE" | .nu _=>"NUMBER" | .ca _=>"CALENDAR"
noncomputable def Wk.w:Wk->Wd | .nm w=>w | .tx w=>w | .ru w=>w | .nu i=>nW i | .ca w=>w
noncomputable def Wk.ok:Wk->Prop
 | .nm w=>Ih w
 | .tx w=>w.length<=4000/\∀c∈w,c<128
 | .ru w=>Ih w
 | .nu i=>Sm i
 | .ca w=>Ih w
inductive Row where
 | cal (g:BV) | rule (nm:Wd) (p:PT) | on (nm:Wd) (d:Int) | next (nm:Wd) (d:Int) | last (nm:Wd) (d:Int) | count (nm:Wd) (d e:Int) | nth (nm:Wd) (d k:Int) | date (d:Int)
noncomputable def Row.ws:Row->List Wk
 | .cal g=>[.nm (sg "c"),.tx (Jh g)]
 | .rule nm p=>[.nm nm,.tx p.tx]
 | .on nm d=>[.ru nm,.nu d]
 | .next nm d=>[.ru nm,.nu d]
 | .last nm d=>[.ru nm,.nu d]
 | .count nm d e=>[.ru nm,.nu d,.nu e]
 | .nth nm d e=>[.ru nm,.nu d,.nu e]
 | .date d=>[.ca (sg "c"),.nu d]
noncomputable def Row.hd:Row->Str | .cal .. =>"calendar" | .rule .. =>"rule" | .on .. =>"on" | .next .. =>"next" | .last .. =>"last" | .count .. =>"count" | .nth .. =>"nth" | .date .. =>"date"
noncomputable def Row.fi:Row->Nat | .cal .. =>0 | .rule .. =>2 | .on .. =>6 | .next .. =>7 | .last .. =>8 | .count .. =>10 | .nth .. =>9 | .date .. =>3
noncomputable def Row.ok(R:Row):Prop:=∀w∈R.ws,w.ok
noncomputable def Row.T(R:Row):Wd:=jn (cpl R.hd::R.ws.map Wk.w)
noncomputable def wkV(ws:List Wk):List V:=ws.map fun w=>.str (sW w.w)
noncomputable def d8(t:Nat->Addr):List (Key×V):=[(.inr "calendar",.ref (t 0)),(.inr "change",.ref (t 1)),(.inr "rule",.ref (t 2)),(.inr "date",.ref (t 3)),(.inr "day",.ref (t 4)),(.inr "move",.ref (t 5)),(.inr "on",.ref (t 6)),(.inr "next",.ref (t 7)),(.inr "last",.ref (t 8)),(.inr "nth",.ref (t 9)),(.inr "count",.ref (t 10)),(.inr "size",.ref (t 11)),(.inr "same",.ref (t 12)),(.inr "meet",.ref (t 13)),(.inr "within",.ref (t 14)),(.inr "shorter",.ref (t 15)),(.inr "show",.ref (t 16)),(.inr "almanac",.ref (t 17))]
structure sS(P:Program)(w:World)(K:Fr)(mg:Str->Option Value)(a:Addr)(t:Nat->Addr):Prop where
 m:mg "FORMS"=some (.ref a)
 d:KD P w K a (d8 t)
 s:∀(R:Row) (H:Hp),SqT K H (t R.fi) (R.ws.map fun w=>V.str w.k)
theorem UG(t:Nat->Addr)(R:Row):Fy (d8 t) (.inr R.hd)=some (.ref (t R.fi)):=by cases R<;>rfl
noncomputable def AEP(t:Nat->Addr):List (Key×V):=[(.inr "date",.ref (t 0)),(.inr "day",.ref (t 1)),(.inr "move",.ref (t 2)),(.inr "on",.ref (t 3)),(.inr "next",.ref (t 4)),(.inr "last",.ref (t 5)),(.inr "nth",.ref (t 6)),(.inr "count",.ref (t 7)),(.inr "size",.ref (t 8)),(.inr "same",.ref (t 9)),(.inr "meet",.ref (t 10)),(.inr "within",.ref (t 11)),(.inr "shorter",.ref (t 12)),(.inr "show",.ref (t 13)),(.inr "almanac",.ref (t 14))]
structure AEj(P:Program)(w:World)(K:Fr)(mg:Str->Option Value)(a:Addr)(t:Nat->Addr):Prop where
 m:mg "ANSWERS"=some (.ref a)
 d:KD P w K a (AEP t)
 g3:mg "tell_on"=some (.ref (t 3))
 g4:mg "tell_next"=some (.ref (t 4))
 g5:mg "tell_last"=some (.ref (t 5))
 g7:mg "tell_count"=some (.ref (t 7))
 g0:mg "tell_date"=some (.ref (t 0))
 g6:mg "tell_nth"=some (.ref (t 6))
theorem Ih.wc{w:Wd}(h:Ih w):w≠[]/\∀c∈w,wch c:=⟨fun z=>by have:=h.lo;rw[z] at this;exact absurd this (by decide),fun c hc=>by have:=h.ch c hc;unfold wch;lia⟩
theorem Wk.box{k:Wk}(h:k.ok):(∀a∈k.w,a<128)/\k.w.length<=4000/\((∀d,k≠.tx d)->32∉k.w):=by
 have fin:(∀a∈k.w,wch a)->k.w.length<=4000->(∀a∈k.w,a<128)/\k.w.length<=4000/\((∀d,k≠.tx d)->32∉k.w):=fun c l=>⟨fun a ha=>by have:=c a ha;unfold wch at this;lia,l,fun _ z=>by have:=c 32 z;unfold wch at this;lia⟩;cases k with
 | nm n=>exact fin (Ih.wc h).2 (by have:=Ih.hi h;show n.length<=_;lia)
 | ru n=>exact fin (Ih.wc h).2 (by have:=Ih.hi h;show n.length<=_;lia)
 | ca n=>exact fin (Ih.wc h).2 (by have:=Ih.hi h;show n.length<=_;lia)
 | nu i=>exact fin (fun a ha=>by have:=G3 h a ha;unfold wch;lia) (zw (Ft h) (by decide))
 | tx d=>exact⟨h.2,h.1,fun z=>absurd rfl (z d)⟩
theorem Yb(R:Row):(∀a∈cpl R.hd,a<128/\a≠32)/\(cpl R.hd).length<=10:=by
 have all:∀z∈(["calendar","rule","on","next","last","count","nth","date"]:List Str),(∀a∈cpl z,a<128/\a≠32)/\(cpl z).length<=10:=by ac_rfl
 cases R<;>exact all _ (by walk_at"mm")
theorem Row.tok{R:Row}(h:R.ok):TOk (sW R.T):=by
 have hb:=Yb R;have l:R.T.length<=4*4001:=by
  have:=dh 4000 (cpl R.hd::R.ws.map Wk.w) fun w hw=>by
   rcases qv.mp hw with e | e
   ·rw[e];lia
   ·obtain⟨k,hk,rfl⟩:=ka.mp e;exact(Wk.box (h k hk)).2.1
  have e:(cpl R.hd::R.ws.map Wk.w).length<=4:=by cases R<;>simp[Row.ws]
  exact zw this (jj5 _ e)
 refine⟨Fv.mpr fun c hc=>?_,by rw[Cp];lia⟩;rw[Bk] at hc;by_cases e:c=32
 ·lia
 ·obtain⟨w,hw,m⟩:=YW e hc;rcases qv.mp hw with e | e
  ·rw[e] at m;exact(hb.1 c m).1
  ·obtain⟨k,hk,rfl⟩:=ka.mp e;exact(Wk.box (h k hk)).1 c m
theorem Row.few(R:Row):1<=R.ws.length/\R.ws.length<=3:=by cases R<;>exact⟨by simp[Row.ws],by simp[Row.ws]⟩
theorem Row.head(R:Row):∃r,spl 32 R.T=cpl R.hd::r:=by
 have e:R.T=cpl R.hd++32::jn (R.ws.map Wk.w):=Jf (by have:=R.few.1;intro z;rw[List.map_eq_nil_iff.mp z] at this;exact absurd this (by decide));exact⟨_,by rw[e,Kv 32 _ _ fun z=>((Yb R).1 32 z).2 rfl]⟩
theorem Row.kind{R:Row}(h:R.ok):(∃nm w,Ih nm/\R.ws=[.nm nm,.tx w])\/(spl 32 R.T=cpl R.hd::R.ws.map Wk.w/\∃z:Str,z≠"TEXT"/\atI (R.ws.map fun w=>V.str w.k) (-1)=some (V.str z)):=by
 have plain:(∀k∈R.ws,∀d,k≠.tx d)->spl 32 R.T=cpl R.hd::R.ws.map Wk.w:=fun np=>bh (by simp) fun w hw=>by
  rcases qv.mp hw with e | e
  ·rw[e];exact fun z=>((Yb R).1 32 z).2 rfl
  ·obtain⟨k,hk,rfl⟩:=ka.mp e;exact(Wk.box (h k hk)).2.2 (np k hk)
 cases R with
 | cal=>exact .inl ⟨_,_,h _ jv,rfl⟩
 | rule=>exact .inl ⟨_,_,h _ jv,rfl⟩
 | _=>exact .inr ⟨plain fun k hk d z=>by subst z;simp[Row.ws] at hk,"NUMBER",by ac_rfl,rfl⟩
noncomputable def yz:Sp:=fun vs H Q _=>∃R:Row,An3 (vs=[.str (sW R.T)]) R.ok (∀l H',H l=none->Av H H'->H' l=some (.lst (.str R.hd::wkV R.ws))->Q (.ref l) H')
noncomputable def zO:Sp:=fun vs H Q _=>Ex4 fun(a:Addr) (kv:List (Key×V)) (nm:Wd) (v:V)=>An4 (vs=[.ref a,.str (sW nm)]) (H a=some (.dK kv)) (Fy kv (.inr (sW nm))=some v) (Q v H)
noncomputable abbrev KV:=List (Key×V)
noncomputable def Wk.val(kv:KV×KV):Wk->V->Prop
 | .nm n,v=>v=.str (sW n)
 | .tx w,v=>v=.str (sW w)
 | .ru n,v=>Fy kv.2 (.inr (sW n))=some v
 | .nu i,v=>v=.int i
 | .ca n,v=>Fy kv.1 (.inr (sW n))=some v
noncomputable def DkH(CD:Addr)(H:Hp)(x:Addr)(kv:KV×KV):Prop:=∃dx a r,H x=some (.ins CD dx [("calendars",.ref a),("rules",.ref r)])/\H r=some (.dK kv.2)/\H a=some (.dK kv.1)
theorem DkH.same{CD:Addr}{kv:KV×KV}(d:DkH CD H x kv)(s:Av H H'):DkH CD H' x kv:=by
 obtain⟨dx,a,r,h1,h2,h3⟩:=d;exact⟨dx,a,r,s _ _ h1,s _ _ h2,s _ _ h3⟩
noncomputable def zM(CD:Addr):Sp:=fun vs H Q _=>Ex3 fun(x:Addr) (kv:KV×KV) (k:Wk)=>An6 (vs=[.ref x,.str k.k,.str (sW k.w)]) k.ok (DkH CD H x kv) (∀n,k=.ru n->∃v,Fy kv.2 (.inr (sW n))=some v) (∀n,k=.ca n->∃v,Fy kv.1 (.inr (sW n))=some v) (∀v H',Av H H'->k.val kv v->Q v H')
noncomputable def uL(CD:Addr):Sp:=fun vs H Q _=>Ex2 fun(x l:Addr)=>An3 (vs=[.ref x,.ref l]) (H l=some (.lst [])) (∀l' H',H l'=none->Av H H'->H' l'=some (.lst [])->Q (.ref l') H')
section
variable(K:Fr)(CR:Addr)(CL:List Addr)
noncomputable def yn(b:Bool):Str:=if b then "yes" else "no"
noncomputable def ABy:Sp:=fun vs H Q _=>Ex5 fun(l y:Addr) (n d:Int) (b:Nat)=>An4 (vs=[.ref l]) (H l=some (.lst [.ref y,.int d])) (Dn K CR CL H y n b) (Q (.str (yn (On n b d))) H)
noncomputable def GDy(R:(Int->Bool)->Int->Int->Prop)(n:Int)(b:Nat)(d:Int)(H:Hp)(Q:VK):Prop:=((∀e,On n b e=false)->∀H',Av H H'->Q (.str "never") H')/\∀r H',Av H H'->R (On n b) d r->Q (.str (sW (nW r))) H'
noncomputable def uK:Sp:=fun vs H Q _=>∃r:Option Int,An3 (vs=[oI r]) (okO r) (Q (.str (match r with | none=>"never" | some i=>sW (nW i))) H)
noncomputable def nj(R:(Int->Bool)->Int->Int->Prop):Sp:=fun vs H Q _=>Ex5 fun(l y:Addr) (n d:Int) (b:Nat)=>An5 (vs=[.ref l]) (H l=some (.lst [.ref y,.int d])) (Dn K CR CL H y n b) (Sm d) (GDy R n b d H Q)
noncomputable def yu:Sp:=fun vs H Q _=>Ex6 fun(l y:Addr) (n d e:Int) (b:Nat)=>An6 (vs=[.ref l]) (H l=some (.lst [.ref y,.int d,.int e])) (Dn K CR CL H y n b) (Sm d) (Sm e) (∀H',Av H H'->Q (.str (sW (nW (CC n b e-CC n b d)))) H')
noncomputable def zJ:Sp:=fun vs H Q _=>Ex5 fun(a:Addr) (n d k:Int) (b:Nat)=>xK (vs=[.ref a,.int d,.int k]) (SqT K H a [.int n,.int (b:Int)]) (0<n) (n<=150000) (b<2^n.toNat) (Bt 200 d) (Bt 200 k) (k≠0) (b=0->∀H',Av H H'->Q .non H') (b≠0->∀r H',Av H H'->Bt 240 r->Nth n b d k r->Q (.int r) H')
noncomputable def yt:Sp:=fun vs H Q _=>Ex6 fun(l y:Addr) (n d k:Int) (b:Nat)=>An7 (vs=[.ref l]) (H l=some (.lst [.ref y,.int d,.int k])) (Dn K CR CL H y n b) (Sm d) (Sm k) (k≠0) (GDy (fun _ d=>Nth n b d k) n b d H Q)
noncomputable def uF(CS CO CM:Addr):Sp:=fun vs H Q _=>Ex4 fun(l z:Addr) (d:Int) (g:BV)=>An6 (vs=[.ref l]) (H l=some (.lst [.ref z,.int d])) (Dj K CS CO CM H z g) (OkC g) (Sm d) (∀y m r H',Av H H'->IsD g y m r->Cz g y m r=d->Bt 300 y->Q (.str (sW (Nh y m.toNat r.toNat))) H')
end
section
variable(K:Fr)(cs:Cs)
noncomputable def zT:Sp:=fun vs H Q _=>Ex3 fun(H0:Hp) (x dx:Addr)=>An6 (vs=[.ref x]) (H0 x=none) (H0 dx=none) (dx≠x) (H=upd (upd H0 dx (.own x)) x (.ins cs.D dx [])) (∀H',Av H0 H'->Dk K cs H' x none 0 (fun _=>none)->Q .non H')
structure PT.fine(g:BV)(p:PT):Prop where
 ok:p.ok
 kn:p.kn
 tl:p.tx.length<=4000
 dp:p.deep<=40
 mn:p.lv+p.br<=200
 sz:p.sz g<=150000
noncomputable def ADW(H:Hp)(x:Addr)(j:Nat)(m:Wd->Option (Nat×Nat))(Q:VK)(g:BV):Prop:=∀H',Kd H H'->Dk K cs H' x (some g) j m->Q (.str "ok") H'
noncomputable def yS(H:Hp)(x:Addr)(g:BV)(j:Nat)(m:Wd->Option (Nat×Nat))(Q:VK)(nm:Wd)(p:PT):Prop:=∀b H',Kd H H'->Dk K cs H' x (some g) (j+1) (setM m nm ((p.sz g).toNat,b))->p.rl g b->Q (.str "ok") H'
noncomputable def zP:Sp:=fun vs H Q _=>Ex5 fun(x l:Addr) (c:Option BV) (j:Nat) (m:Wd->Option (Nat×Nat))=>An3 (Dk K cs H x c j m) (j<=50) ((∃g:BV,An5 (vs=[.ref x,.str "calendar",.ref l]) (H l=some (.lst [.str (sW (sg "c")),.str (sW (Jh g))])) (OkC g) (c=none) (ADW K cs H x j m Q g))\/Ex3 fun(nm:Wd) (p:PT) (g:BV)=>An6 (vs=[.ref x,.str "rule",.ref l]) (H l=some (.lst [.str (sW nm),.str (sW p.tx)])) (c=some g) (SmC g) (p.fine g) (yS K cs H x g j m Q nm p))
noncomputable def AEf(H:Hp)(x:Addr)(c:Option BV)(j:Nat)(m:Wd->Option (Nat×Nat))(Q:VK):Row->Prop
 | .cal g=>OkC g/\c=none/\ADW K cs H x j m Q g
 | .rule nm p=>∃g,c=some g/\SmC g/\p.fine g/\yS K cs H x g j m Q nm p
 | .on nm d=>∃n b,m nm=some (n,b)/\∀H',Av H H'->Q (.str (yn (On (n:Int) b d))) H'
 | .next nm d=>∃n b,m nm=some (n,b)/\GDy mD (n:Int) b d H Q
 | .last nm d=>∃n b,m nm=some (n,b)/\GDy mG (n:Int) b d H Q
 | .count nm d e=>∃n b,m nm=some (n,b)/\∀H',Av H H'->Q (.str (sW (nW (CC (n:Int) b e-CC (n:Int) b d)))) H'
 | .nth nm d e=>∃n b,m nm=some (n,b)/\e≠0/\GDy (fun _ d=>Nth (n:Int) b d e) (n:Int) b d H Q
 | .date d=>∃g,c=some g/\OkC g/\∀y mo r H',Av H H'->IsD g y mo r->Cz g y mo r=d->Bt 300 y->Q (.str (sW (Nh y mo.toNat r.toNat))) H'
noncomputable def xY:Sp:=fun vs H Q _=>Ex5 fun(x:Addr) (c:Option BV) (j:Nat) (m:Wd->Option (Nat×Nat)) (R:Row)=>An5 (vs=[.ref x,.str (sW R.T)]) R.ok (Dk K cs H x c j m) (j<=50) (AEf K cs H x c j m Q R)
end
theorem GDy.later{R:(Int->Bool)->Int->Int->Prop}{n:Int}(g:GDy R n b d H Q)(s:Av H H1):GDy R n b d H1 Q:=⟨fun h H' s'=>g.1 h H' (s.trans s'),fun r H' s'=>g.2 r H' (s.trans s')⟩
theorem SJ(h:Sm d):Bt 200 d:=jm6 h (by decide)
theorem iG{e:Int}(h:Sm d)(h1:d-1000000<=e)(h2:e<=d+1000000):e.natAbs.log2<1920:=by
 refine K5 ?_ ?_<;>
 ·unfold Sm at h;have:(10:Nat)^45=1000000000000000000000000000000000000000000000:=by decide
  lia
theorem sZ{n:Int}{b:Nat}(n0:0<n)(d:Int):∀k:Nat,CC n b (d+(k:Int))-CC n b d<=(k:Int)
 | 0=>by simp
 | k+1=>by
  have a:=sZ (b:=b) n0 d k;have s:=Jv (b:=b) n0 (d+(k:Int));rw[show d+((k+1:Nat):Int)=d+(k:Int)+1 by lia,s];split<;>lia
theorem tE{n:Int}(n0:0<n)(d e:Int):(CC n b e-CC n b d).natAbs<=(e-d).natAbs:=by
 have go:∀{d e:Int},d<=e->(CC n b e-CC n b d).natAbs<=(e-d).natAbs:=fun{d e} h=>by
  have a:=Jw (b:=b) n0 h;have c:=sZ (b:=b) n0 d (e-d).toNat;rw[show d+((e-d).toNat:Int)=e by omega] at c;omega
 rcases Int.le_total d e with h | h
 ·exact go h
 ·have:=go h;omega
theorem ABL{n e:Int}(n0:0<n)(sd:Sm d)(se:Sm e):(CC n b e-CC n b d).natAbs.log2<1920:=by
 have:=tE (b:=b) n0 d e;unfold Sm at sd se;have:(10:Nat)^45=1000000000000000000000000000000000000000000000:=by decide
 exact K5 (by omega) (by omega)
theorem yX(h:H a=some o):upd H a o=H:=funext fun b=>by
 by_cases e:b=a
 ·rw[e,An,h]
 ·exact BK e
noncomputable def GV(kv:KV×KV)(n:Nat)(ks:List Wk)(vs:List V):Prop:=vs.length=n/\∀(j:Nat) (k:Wk) (v:V),ks[j]?=some k->vs[j]?=some v->k.val kv v
theorem GV.cons{kv:KV×KV}{n:Nat}{k:Wk}{ks:List Wk}{vs:List V}(g:GV kv (n+1) (k::ks) vs):∃v ws,vs=v::ws/\k.val kv v/\GV kv n ks ws:=by
 cases vs with
 | nil=>exact absurd g.1 (by simp)
 | cons v ws=>exact⟨v,ws,rfl,g.2 0 k v rfl rfl,by have:=g.1;simpa using this,fun j k' v' e1 e2=>g.2 (j+1) k' v' e1 e2⟩
theorem GV.one{kv:KV×KV}{k:Wk}{vs:List V}(g:GV kv 1 [k] vs):∃v,vs=[v]/\k.val kv v:=by
 obtain⟨v,ws,rfl,h,g'⟩:=GV.cons g;exact⟨v,by rw[jc2.mp g'.1],h⟩
theorem lJ{b:Addr}{ks:List Wk}{kv:KV×KV}{Z:L2.St}{te:TE}(ha:∀H,SqT K H a (ks.map fun k=>V.str k.k))(hb:H b=some (.lst (wkV ks)))(hl:ks.length<sizeLine)
 (he:∀k∈ks,∀(H':Hp) (Q':VK),Av H H'->(∀v H'',Av H' H''->k.val kv v->Q' v H'')->te (some (.str k.k)::some (.str (sW k.w))::Z) H' Q')
 (h:∀(D:Addr) (H':Hp) (vs:List V),H D=none->Av H H'->H' D=some (.lst vs)->GV kv ks.length ks vs->Q (.ref D) H'):
 VF 2 (qe K 2 (Wa (J3 0) (Wa (J3 1) wA))) fZ te Z Q (sO K a b true) H:=by
 intro D hD;have lb:(wkV ks).length=ks.length:=js _;refine⟨fun i m zs H2=>i<=ks.length/\m=ks.length-i/\H2 D=some (.lst zs)/\Av H H2/\GV kv i ks zs,⟨_,vj _,rfl,An,Ax hD _,rfl,fun j k v _ e=>by simp at e⟩,?_⟩;rintro i m zs H2 ⟨hi,rfl,hz,s2,zl,g⟩;refine⟨hz,?_⟩;have qb:SqL K H2 b (wkV ks):=SqL.of (s2 _ _ hb);by_cases c:i<ks.length
 ·have ex:(ks.map fun k=>V.str k.k)[i]?=some (.str ks[i].k):=by rw[zo,qo c];rfl
  have ey:(wkV ks)[i]?=some (.str (sW ks[i].w)):=by unfold wkV;rw[zo,qo c];rfl
  refine .inr ⟨⟨_,_,_,_,ha H2,qb,ex,ey⟩,by lia,ks.length-(i+1),by lia,?_⟩;rintro v H3 ⟨T,x,y,hT,rfl,rfl,hxy⟩ ρ hρ;obtain⟨gx,gy⟩:=hxy _ _ (ha H2) qb;rw[ex] at gx;rw[ey] at gy;cases gx;cases gy;obtain⟨p,q,rfl⟩:∃p q,ρ=[p,q]:=by
   match ρ,hρ with
   | [p,q],_=>exact⟨p,q,rfl⟩
  refine⟨T,[.str ks[i].k,.str (sW ks[i].w)],rfl,SqT.of An,rfl,.str ks[i].k,[.str (sW ks[i].w)],rfl,.str (sW ks[i].w),[],rfl,⟨rfl,[some (.str ks[i].k),some (.str (sW ks[i].w))],rfl,rfl,?_⟩⟩;refine Gu ?_;rw[ya rfl];have s3:=Ax hT (.tup [.str ks[i].k,.str (sW ks[i].w)]);refine he _ (je9 c) _ _ (s2.trans s3) fun v H4 s4 hv=>?_;refine⟨s4 _ _ (s3 _ _ hz),by lia,rfl,An,Ek hD ((s2.trans s3).trans s4),by rw[qr];show zs.length+1=i+1;lia,fun j k w ek ew=>?_⟩;by_cases cj:j<zs.length
  ·rw[jj6 cj] at ew;exact g j k w ek ew
  ·rw[je5 (by lia)] at ew;have e0:j-zs.length=0:=by
    by_cases z:j-zs.length=0
    ·exact z
    ·rw[jm4 (by show 1<=_;lia)] at ew;cases ew
   rw[e0] at ew;cases ew;have:j=i:=by lia
   rw[this,qo c] at ek;cases ek;exact hv
 ·have e:i=ks.length:=by lia
  subst e;exact .inl ⟨⟨_,_,ha H2,qb,by rw[js,lb,Nat.min_self]⟩,h D H2 zs hD s2 hz ⟨zl,g⟩⟩
structure Lg(x:Str)(a:Wd)(n:Nat):Prop where
 e:cpl x=a
 l:a.length<=n
theorem Lg.s(z:String)(h:(sg z).length<=30:=by ac_rfl):Lg (Str.ofString z) (sg z) 30:=⟨rfl,h⟩
theorem Lg.n(h:Sm i):Lg (Ca i) (nW i) 46:=⟨rfl,Ft h⟩
theorem Lg.w(a:Wd){n:Nat}(h:a.length<=n):Lg (sW a) a n:=⟨Bk _,h⟩
theorem Lg.eq{x:Str}{a b:Wd}{n:Nat}(h:Lg x a n)(e:a=b):x=sW b:=by rw[<-e,<-h.e,Ip]
theorem Lg.ap{x y:Str}{a b:Wd}{n m:Nat}(X:Lg x a n)(Y:Lg y b m):Lg (x++y) (a++b) (n+m):=⟨by rw[K8,X.e,Y.e],by rw[qr];exact Nat.add_le_add X.l Y.l⟩
theorem Lg.aps{x:Str}{a:Wd}{n:Nat}(X:Lg x a n)(z:String)(h:(sg z).length<=30:=by ac_rfl):Lg (x++Str.ofString z) (a++sg z) (n+30):=X.ap (.s z h)
theorem Lg.le{x y:Str}{a:Wd}{n:Nat}(X:Lg (x++y) a n)(h:n<=100000:=by decide):x.length+y.length<=sizeLine:=by
 rw[<-KY,<-Eg,X.e];exact zw X.l (zw h (by decide))
noncomputable def xx:R2:=fun x y H Q=>∃i j,x=.str i/\y=.str j/\i.length+j.length<=sizeLine/\Q (.str (i++j)) H
theorem BJ{X:Cx}:OpR X (binaryOp .Add) xx:=dH
theorem Lg.go{x y:Str}{a:Wd}{n:Nat}(Z:Lg (x++y) a n)(q:∀z,Lg z a n->Q (.str z) H)(h:n<=100000:=by decide):xx (.str x) (.str y) H Q:=⟨x,y,rfl,rfl,Z.le h,q _ Z⟩
noncomputable def PT.dsm:PT->Prop
 | .date _ _ (some i) _=> -1000<i/\i<1000
 | _=>True
structure NP(g:BV)(p:PT)(z:Int)(j:Nat):Prop where
 ok:p.ok
 kn:p.kn
 tl:p.tx.length<=80*(p.lv+p.br)
 mn:p.lv+p.br<=j
 sz:p.sz g∣z
 z0:1<=z
 z1:z<=120
 ds:p.dsm
noncomputable def Nr(g:BV)(H:Hp)(a:Addr)(p:PT)(z:Int)(j:Nat):Prop:=H a=some (.tup [.str (sW p.tx),.int z])/\NP g p z j
noncomputable def zV:Sp:=fun vs H Q _=>Ex2 fun(x y:Int)=>An6 (vs=[.int x,.int y]) (1<=x) (x<=120) (1<=y) (y<=120) (Q (.int (Ci x y)) H)
theorem ADz(a b:Int):Int.gcd b (a%b)=Int.gcd a b:=by
 have e:=Int.emod_add_mul_ediv a b;refine Nat.dvd_antisymm (Int.dvd_coe_gcd ?_ ?_ |> Int.ofNat_dvd.mp) (Int.dvd_coe_gcd ?_ ?_ |> Int.ofNat_dvd.mp)
 ·have h1:=je8 (a:=b) (b:=a%b);have h2:=jg1 (a:=b) (b:=a%b);have:=Int.dvd_add h2 (jd1 h1 (Int.dvd_mul_right b (a/b)))
  rwa [e] at this
 ·exact je8 ..
 ·exact jg1 ..
 ·have h1:=je8 (a:=a) (b:=b);have h2:=jg1 (a:=a) (b:=b);rw[Int.emod_def];exact Int.dvd_sub h1 (jd1 h2 (Int.dvd_mul_right b (a/b)))
theorem kI(ns:List Int):Txt.join (Str.ofString ",") (ns.map Ca)=sW (Fj 44 (ns.map nW)):=by
 rw[show Str.ofString ","=⟨#[44]⟩ from by ac_rfl];exact Hr (by rw[qP,Bk,kq];rfl)
theorem p30:(10:Int)^(30:Int).toNat=1000000000000000000000000000000:=by decide
theorem p29:(10:Int)^(29:Int).toNat=100000000000000000000000000000:=by decide
theorem gC{k:Nat}:∀{zs:List Str},(∀w∈zs,w.length<=k)->(zs.map (·.length)).sum<=zs.length*k
 | [],_=>vj _
 | w::zs,h=>by
  have:=gC fun x hx=>h x (qh w hx);have:=h w jv;rw[zi,uu,qm,jp2];lia
theorem qC(h:Sm i):(Ca i).length<=46:=by
 rw[<-Eg];exact Ft h
theorem ADi(x:Int):∃(n p b lp:Int) (j:Nat),1+x%3=n/\x/3%(n+1)=p/\x/3072%n=b/\1+x/1536%2=lp/\2+x/768%2=(j:Int)/\Ok1 p b n/\1<=lp/\lp<=2/\2<=j/\j<=3:=by
 have n0:1<=1+x%3/\1+x%3<=3:=by lia
 generalize 1+x%3=n at n0;have p0:=zh (x/3) (show n+1≠0 by lia);have p1:=qk (x/3) (show 0<n+1 by lia);have b0:=zh (x/3072) (show n≠0 by lia);have b1:=qk (x/3072) (show 0<n by lia);exact⟨n,_,_,_,(2+x/768%2).toNat,rfl,rfl,rfl,rfl,by lia,⟨n0.1,n0.2,p0,by lia,b0,b1⟩,by lia,by lia,by lia,by lia⟩
theorem AAg(y:Int):∃m:Int,1+y%4=m/\1<=m/\m<=4:=⟨_,rfl,by lia,by lia⟩
theorem ABb(s bd a b n bm c y:Int):Jh (.moon s bd [(1,a,b,n)] bm [(1,c,0,y)])=sg "moon "++nW s++sg " "++nW bd++sg " +"++nW a++sg ","++nW b++sg ","++nW n++sg " / "++nW bm++sg " +"++nW c++sg ",0,"++nW y:=by
 have e:Jh (.moon s bd [(1,a,b,n)] bm [(1,c,0,y)])=sg "moon"++32::(nW s++32::(nW bd++32::(tW (1,a,b,n)++32::(sg "/"++32::(nW bm++32::tW (1,c,0,y)))))):=rfl;have e1:sg "moon "=sg "moon"++[32]:=by ac_rfl
 have e2:sg " +"=[32,43]:=by ac_rfl
 have e3:sg ","=[44]:=by ac_rfl
 have e4:sg ",0,"=44::(nW 0++[44]):=by ac_rfl
 have e5:sg " / "=32::(sg "/"++[32]):=by ac_rfl
 rw[e,e1,e2,e3,e4,e5,bsg];simp[tW,Fj]
theorem ADU(s lp a b n:Int)(ls:List Int):Jh (.sun s ls lp [(1,a,b,n)])=sg "sun "++nW s++sg " "++Fj 44 (ls.map nW)++sg " leap "++nW lp++sg " +"++nW a++sg ","++nW b++sg ","++nW n:=by
 have e:Jh (.sun s ls lp [(1,a,b,n)])=sg "sun"++32::(nW s++32::(Fj 44 (ls.map nW)++32::(sg "leap"++32::(nW lp++32::tW (1,a,b,n))))):=rfl;have e1:sg "sun "=sg "sun"++[32]:=by ac_rfl
 have e2:sg " +"=[32,43]:=by ac_rfl
 have e3:sg ","=[44]:=by ac_rfl
 have e5:sg " leap "=32::(sg "leap"++[32]):=by ac_rfl
 rw[e,e1,e2,e3,e5,bsg];simp[tW,Fj]
noncomputable def ADb(H:Hp)(p:Addr)(g:BV):Prop:=OkC g/\g.st.natAbs<=1000000000000000000000000000000/\H p=some (.tup [.str (sW (Jh g)),.int (dyC g)])
noncomputable def uN:Sp:=fun vs H Q _=>Ex2 fun(a s:Int)=>An4 (vs=[.int a,.int s]) (Sm s) (s.natAbs<=1000000000000000000000000000000) (∀g p H',Av H H'->ADb H' p g->Q (.ref p) H')
noncomputable def zX(K:Fr):Sp:=fun vs H Q _=>Ex2 fun(a:Addr) (ns:List Int)=>An4 (vs=[.ref a]) (SqL K H a (ns.map V.int)) (ns.length<=63) (∀g p H',Av H H'->ADb H' p g->Q (.ref p) H')
noncomputable def uR:Sp:=fun vs H Q _=>Ex2 fun(x:Int) (g:BV)=>An3 (vs=[.int x,.int (dyC g)]) (OkC g) (∀a p z H',Av H H'->Nr g H' a p z 1->Q (.ref a) H')
noncomputable def pkI:Nat->PK
 | 1=>.an
 | 2=>.or
 | 3=>.bu
 | 4=>.ul
 | 6=>.up
 | 7=>.un
 | 8=>.ne
 | _=>.ti
noncomputable def J5(i:Nat)(k:Int)(p q:PT):PT:=match i with
 | 0=>.no p
 | 5=>.la k p
 | 10=>.nt k p q
 | 11=>.ev (k.natAbs:Int) p k
 | i=>.pr (pkI i) p q
structure WdK(i:Nat)(k:Int):Prop where
 i1:i<=11
 sk:Sm k
 k3:i≠0->i≠5-> -3<=k/\k<=3/\k≠0
noncomputable def yp:Sp:=fun vs H Q _=>Ex4 fun(i:Nat) (k:Int) (p q:PT)=>An5 (vs=[.int (i:Int),.int k,.str (sW p.tx),.str (sW q.tx)]) (WdK i k) (p.tx.length<=3000) (q.tx.length<=3000) (∀H',Av H H'->Q (.str (sW (J5 i k p q).tx)) H')
theorem yZ:sW (PT.tx (.lf true))=Str.ofString "all":=by ac_rfl
theorem tM:sW (PT.tx (.lf false))=Str.ofString "none":=by ac_rfl
theorem AAe:Ih (sg "c"):=⟨by ac_rfl,by ac_rfl,by ac_rfl⟩
theorem xN(m d:Option Int):sg "date c "++Dw m++sg " "++Dw d=PT.tx (.date (sg "c") m d none):=by
 rw[PT.tx_date0,show sg "date c "=sg "date "++sg "c"++sg " " by ac_rfl];rfl
noncomputable def moS:List (Option Int):=[none,some 1,some 2,some 3,some 1,some 2]
noncomputable def daS:List (Option Int):=[none,some 1,some 2,some 3,some 4,some (-1),some (-2),some (-4)]
theorem pQ{o:Option Int}(h:o∈moS++daS):PT.okS o/\o≠some 0/\(Dw o).length<=2/\∀i,o=some i-> -10<i/\i<10:=by
 have:=(by ac_rfl:∀o∈moS++daS,(o.all fun i=>decide (-10<i/\i<10))=true/\o≠some 0/\(Dw o).length<=2) o h;have k:∀i,o=some i-> -10<i/\i<10:=fun i e=>by
  rw[e] at this;exact of_decide_eq_true this.1
 exact⟨fun i e=>Jx (by have:=k i e;lia) (by have:=k i e;lia),this.2.1,this.2.2,k⟩
theorem ACv{o:Option Int}(h:o∈moS):okM o:=fun i e=>by
 have:=(by decide:∀o∈moS,(o.all fun i=>decide (1<=i))=true) o h;rw[e] at this;exact of_decide_eq_true this
theorem rP{os:List (Option Int)}{k:Int}(h0:0<=k)(h1:k<(os.length:Int)):∃o,o∈os/\atI (os.map fun o=>V.str (sW (Dw o))) k=some (.str (sW (Dw o))):=by
 have hk:k.toNat<os.length:=by lia
 refine⟨os[k.toNat],je9 hk,?_⟩;have:=Dm (xs:=os.map fun o=>V.str (sW (Dw o))) (j:=k.toNat) (v:=.str (sW (Dw os[k.toNat]))) (by rw[zo,qo hk];rfl)
 rwa [show ((k.toNat:Nat):Int)=k by lia] at this
noncomputable def k6:List Int:=[-3,-2,-1,1,2,3]
theorem ABU(x:Int):∃k:Int,(-3<=k/\k<=3/\k≠0)/\atI (k6.map V.int) (x%6)=some (.int k):=by
 have a0:=zh x (show (6:Int)≠0 by decide);have a1:=qk x (show (0:Int)<6 by decide);have hk:(x%6).toNat<k6.length:=by show _<6;lia
 refine⟨k6[(x%6).toNat],(by decide:∀k∈k6,-3<=k/\k<=3/\k≠0) _ (je9 hk),?_⟩;have:=Dm (xs:=k6.map V.int) (j:=(x%6).toNat) (v:=.int k6[(x%6).toNat]) (by rw[zo,qo hk];rfl)
 rwa [show (((x%6).toNat:Nat):Int)=x%6 by lia] at this
theorem ACu{k:Int}(h1: -3<=k)(h2:k<=3):(nW k).length<=2:=by
 obtain rfl | rfl | rfl | rfl | rfl | rfl | rfl:k= -3\/k= -2\/k= -1\/k=0\/k=1\/k=2\/k=3:=by lia
 all_goals ac_rfl
noncomputable def soS:List Str:=[Str.ofString "",Str.ofString "and",Str.ofString "or",Str.ofString "but",Str.ofString "unlike",Str.ofString "",Str.ofString "upon",Str.ofString "until",Str.ofString "near",Str.ofString "till"]
theorem ACn{i:Nat}{k:Int}{q:PT}(h:i<=11)(h0:i≠0)(h5:i≠5)(h10:i≠10)(h11:i≠11):J5 i k p q=.pr (pkI i) p q/\atI (soS.map V.str) (i:Int)=some (.str (Str.ofString (pkI i).s)):=by
 match i,h with
 | 1,_=>exact⟨rfl,by ac_rfl⟩
 | 2,_=>exact⟨rfl,by ac_rfl⟩
 | 3,_=>exact⟨rfl,by ac_rfl⟩
 | 4,_=>exact⟨rfl,by ac_rfl⟩
 | 6,_=>exact⟨rfl,by ac_rfl⟩
 | 7,_=>exact⟨rfl,by ac_rfl⟩
 | 8,_=>exact⟨rfl,by ac_rfl⟩
 | 9,_=>exact⟨rfl,by ac_rfl⟩
 | n+10,h=>exact absurd h (by lia)
theorem mj(w:PK)(p q:PT):PT.tx (.pr w p q)=sg "("++p.tx++sg " "++sg w.s++sg " "++q.tx++sg ")":=by
 rw[PT.tx_pr,PT.pk_t];simp
theorem mq(k:Int)(p:PT)(d:Int):PT.tx (.ev k p d)=sg "(every "++nW k++sg " of "++p.tx++sg " from "++nW d++sg ")":=by
 rw[PT.tx_ev];simp
theorem tR{i:Nat}{k:Int}{q:PT}(h:WdK i k)(hp:p.ok)(hq:q.ok):(J5 i k p q).ok:=by
 unfold J5;split
 ·exact hp
 ·exact⟨h.sk,hp⟩
 ·exact⟨h.sk,hp,hq,(h.k3 (by decide) (by decide)).2.2⟩
 ·have:=h.k3 (by decide) (by decide);exact⟨Jx (by lia) (by lia),h.sk,hp,by lia,by lia⟩
 ·exact⟨hp,hq⟩
theorem tV{i:Nat}{k:Int}{q:PT}(hp:p.kn)(hq:q.kn):(J5 i k p q).kn:=by
 unfold J5;split
 ·exact hp
 ·exact hp
 ·exact⟨hp,hq⟩
 ·exact hp
 ·exact⟨hp,hq⟩
theorem tU{i:Nat}{k:Int}{q:PT}:(J5 i k p q).lv+(J5 i k p q).br<=p.lv+p.br+(q.lv+q.br)+1:=by
 unfold J5;split<;>simp only[PT.lv,PT.br]<;>lia
theorem AAm{a b c:Int}(a0:0<a)(b0:0<b)(c0:0<c)(d0:0<d)(h1:a∣c)(h2:b∣d):Ci a b∣Ci c d:=(Bv a0 b0).2.2.2.2.1 _ (jd1 h1 (Bv c0 d0).2.1) (jd1 h2 (Bv c0 d0).2.2.1)
theorem tQ{i:Nat}{k:Int}{q:PT}(h:WdK i k)(t1:p.tx.length<=80*(p.lv+p.br))(t2:q.tx.length<=80*(q.lv+q.br)):(J5 i k p q).tx.length<=80*((J5 i k p q).lv+(J5 i k p q).br):=by
 have kl:=Ft h.sk;have c1:(sg "(").length=1:=by ac_rfl
 have c2:(sg ")").length=1:=by ac_rfl
 have c3:(sg " ").length=1:=by ac_rfl
 have c4:(sg " of ").length=4:=by ac_rfl
 have c5:(sg " from ").length=6:=by ac_rfl
 have c6:(sg "(not ").length=5:=by ac_rfl
 have c7:(sg " later ").length=7:=by ac_rfl
 have c8:(sg "(every ").length=7:=by ac_rfl
 unfold J5;split
 ·rw[PT.tx_no];simp only[qr,PT.lv,PT.br];lia
 ·rw[PT.tx_la];simp only[qr,PT.lv,PT.br];lia
 ·rw[PT.tx_nt];simp only[qr,PT.lv,PT.br];lia
 ·have:=h.k3 (by decide) (by decide);have e1:=ACu (k:=k) (by lia) (by lia);have e2:=ACu (k:=(k.natAbs:Int)) (by lia) (by lia);rw[mq];simp only[qr,PT.lv,PT.br];lia
 ·generalize pkI _=w;have:(sg w.s).length<=10:=by cases w<;>ac_rfl
  rw[mj];simp only[qr,PT.lv,PT.br];lia
theorem NP.two{i:Nat}{k:Int}{q:PT}{z z' w:Int}{j j':Nat}(hg:SmC g)(A:NP g p z j)(B:NP g q z' j')(h:WdK i k)(h1:i≠11->w=Ci z z')(h2:i=11->w=z*(k.natAbs:Int))(hw:w<=120):NP g (J5 i k p q) w (j+j'+1):=by
 have a0:=A.z0;have b0:=B.z0;have n1:=PT.sz_pos hg A.ok;have n2:=PT.sz_pos hg B.ok;have f:=Bv (show 0<z by lia) (show 0<z' by lia);have m1:=A.mn;have m2:=B.mn;have lz:Ci (p.sz g) (q.sz g)∣Ci z z':=AAm n1 n2 (by lia) (by lia) A.sz B.sz;have up:p.sz g∣Ci z z':=jd1 A.sz f.2.1;have w0:1<=w:=by
  by_cases c:i=11
  ·have:=h.k3 (by lia) (by lia);have:1*1<=z*(k.natAbs:Int):=vt a0 (by lia) (by decide) (by lia);rw[h2 c];lia
  ·rw[h1 c];exact f.1
 refine⟨tR h A.ok B.ok,tV A.kn B.kn,tQ h A.tl B.tl,zw tU (by lia),?_,w0,hw,by unfold J5;split<;>trivial⟩;unfold J5;split
 ·rw[h1 (by decide)];exact up
 ·rw[h1 (by decide)];exact up
 ·rw[h1 (by decide)];exact lz
 ·rw[h2 rfl];exact Int.mul_dvd_mul_right _ A.sz
 ·rw[h1 (by assumption)];exact lz
theorem NP.s1{z:Int}{j:Nat}(hg:SmC g)(A:NP g p z j):0<p.sz g/\p.sz g<=120:=⟨PT.sz_pos hg A.ok,jg7 (jn3 (by have:=A.z0;lia) A.sz) A.z1⟩
theorem NP.fine{z:Int}(hg:SmC g)(A:NP g p z 7):p.fine g:=by
 have:=A.tl;have:=A.mn;have:=A.s1 hg;have:=PT.lv_br p;exact⟨A.ok,A.kn,by lia,by lia,by lia,by lia⟩
noncomputable def Zd(d:Int):Prop:= -30000000000000000000000000000000000000000<=d/\d<=30000000000000000000000000000000000000000
theorem Zd.sm{e:Int}(h:Zd d)(h1:d-1000<=e)(h2:e<=d+1000):Sm e:=by
 unfold Zd at h;unfold Sm;have:(10:Nat)^45=1000000000000000000000000000000000000000000000:=by decide
 lia
noncomputable def Zw(d:Int):Prop:= -20000000000000000000000000000000000000000<=d/\d<=20000000000000000000000000000000000000000
theorem Zw.sm{e:Int}(h:Zw d)(h1:d-1000<=e)(h2:e<=d+1000):Sm e:=by
 unfold Zw at h;unfold Sm;have:(10:Nat)^45=1000000000000000000000000000000000000000000000:=by decide
 lia
theorem Zw.sub{e:Int}(h:Zw d)(h':Zw e):Sm (e-d):=by
 unfold Zw at h h';unfold Sm;have:(10:Nat)^45=1000000000000000000000000000000000000000000000:=by decide
 lia
section
variable(K:Fr)(cs:Cs)
structure Aw(H:Hp)(x:Addr)(g:BV)(n b:Nat):Prop where
 d:∃j m,Dk K cs H x (some g) j m/\j<=50/\m (sg "r")=some (n,b)
 og:OkC g
 st:g.st.natAbs<=1000000000000000000000000000000
 n0:0<n
 n1:n<=400
noncomputable def ABg(R:Int->Int->Prop)(o:Int->Bool)(d:Int):Option Int->Prop
 | none=>∀e,o e=false
 | some r=>R d r
noncomputable def sE(n:Int)(b:Nat):Row->Option Int->Prop
 | .next _ d,o=>ABg (mD (On n b)) (On n b) d o
 | .last _ d,o=>ABg (mG (On n b)) (On n b) d o
 | .nth _ d k,o=>k≠0/\ABg (fun d=>Nth n b d k) (On n b) d o
 | .count _ d e,o=>o=some (CC n b e-CC n b d)
 | _,_=>False
inductive IsR:Row->Prop
 | next {d:Int}:IsR (.next (sg "r") d)
 | last {d:Int}:IsR (.last (sg "r") d)
 | nth {d k:Int}:k≠0->IsR (.nth (sg "r") d k)
 | count {d e:Int}:IsR (.count (sg "r") d e)
noncomputable def jK:Sp:=fun vs H Q _=>Ex4 fun(l:Addr) (c:Int) (cs:List Int) (g:BV)=>An5 (vs=[.ref l,.int (dyC g)]) (SqL K H l ((c::cs).map V.int)) (cs.length<=3) (OkC g) (∀p z H',Av H H'->NP g p z 7->Q (.str (sW p.tx)) H')
noncomputable def zG:Sp:=fun vs H Q _=>Ex5 fun(x:Addr) (R:Row) (g:BV) (n b:Nat)=>An6 (vs=[.ref x,.str (sW R.T)]) (Aw K cs H x g n b) R.ok (IsR R) (∀r,sE (n:Int) b R (some r)->Sm r) (∀o H',Av H H'->sE (n:Int) b R o->Q (oI o) H')
noncomputable def zW:Sp:=fun vs H Q _=>Ex6 fun(x:Addr) (d e:Int) (g:BV) (n b:Nat)=>An6 (vs=[.ref x,.int d,.int e]) (Aw K cs H x g n b) (Sm d) (Sm e) (Sm (e-d)) (∀H',Av H H'->Q (.int (CC (n:Int) b e-CC (n:Int) b d)) H')
noncomputable def ACH:Sp:=fun vs H Q _=>Ex5 fun(x:Addr) (d:Int) (g:BV) (n b:Nat)=>An4 (vs=[.ref x,.int d]) (Aw K cs H x g n b) (Sm d) (∀H',Av H H'->Q (.bl (On (n:Int) b d)) H')
noncomputable def ud:Sp:=fun vs H Q _=>Ex5 fun(x:Addr) (d:Int) (g:BV) (n b:Nat)=>An4 (vs=[.ref x,.int d]) (Aw K cs H x g n b) (Zd d) (∀l y m r H',H l=none->Av H H'->H' l=some (.lst [.int y,.int m,.int r])->IsD g y m r->Cz g y m r=d->Q (.ref l) H')
noncomputable def ACY:Sp:=fun vs H Q _=>Ex6 fun(x l:Addr) (p:PT) (d:Int) (g:BV) (c:Nat)=>xK (vs=[.ref x,.ref l,.int d]) (H l=some (.lst (p.wd.map fun w=>V.str (sW w)))) (p.br=0) p.ok p.kn p.dsm (Aw K cs H x g (p.sz g).toNat c) (p.rl g c) (Zw d) (∀v H',Av H H'->(v=true<->On (p.sz g) c d=true)->Q (.bl v) H')
noncomputable def uY:Sp:=fun vs H Q _=>Ex2 fun(a:Addr) (ns:List Int)=>An4 (vs=[.ref a]) (SqL K H a (ns.map V.int)) (ns.length<=63) (∀(l:Addr) (d e f:Int) H',Av H H'->H' l=some (.lst [.int d,.int e,.int f])->Zw d->Zw e->Zw f->Q (.ref l) H')
noncomputable def zU:Sp:=fun vs H Q _=>Ex8 fun(x l:Addr) (d e f:Int) (g:BV) (n b:Nat)=>An7 (vs=[.ref x,.ref l]) (H l=some (.lst [.int d,.int e,.int f])) (Aw K cs H x g n b) (Zw d) (Zw e) (Zw f) (∀H',Av H H'->Q (.bl true) H')
noncomputable def zH:Sp:=fun vs H Q _=>Ex6 fun(x:Addr) (d k:Int) (g:BV) (n b:Nat)=>An7 (vs=[.ref x,.int d,.int k]) (Aw K cs H x g n b) (Zw d) (k≠0) (k.natAbs<=1000000000000000000000000000000) (∃e,On (n:Int) b e=true) (∀H',Av H H'->Q (.bl true) H')
end
theorem Xu{nm:Wd}(h:Ih nm)(hd:Sm d):∀w∈[Wk.ru nm,.nu d],w.ok:=fun w hw=>by
 simp only[qv,yi,or_false] at hw;rcases hw with rfl | rfl
 ·exact h
 ·exact hd
theorem Xr{nm:Wd}{e:Int}(h:Ih nm)(hd:Sm d)(he:Sm e):∀w∈[Wk.ru nm,.nu d,.nu e],w.ok:=fun w hw=>by
 simp only[qv,yi,or_false] at hw;rcases hw with rfl | rfl | rfl
 ·exact h
 ·exact hd
 ·exact he
theorem ur{nm:Wd}(h:Ih nm)(f:p.fine g):(Row.rule nm p).ok:=fun w hw=>by
 simp only[Row.ws,qv,yi,or_false] at hw;rcases hw with rfl | rfl
 ·exact h
 ·obtain⟨_,t,_⟩:=PT.rdy f.ok f.tl f.dp;exact⟨f.tl,fun c hc=>Fv.mp t.1 c (by rw[Bk];exact hc)⟩
theorem ABM(o:OkC g):(Row.cal g).ok:=fun w hw=>by
 simp only[Row.ws,qv,yi,or_false] at hw;obtain⟨_,l,t⟩:=o.tx;rcases hw with rfl | rfl
 ·exact AAe
 ·exact⟨by lia,fun c hc=>Fv.mp t.1 c (by rw[Bk];exact hc)⟩
theorem KZ{r:Int}(h:Sm r):(sW (nW r)).length<=640/\PySem.intText? (sW (nW r))=some r:=by
 have e:=PL (z:=sW (nW r)) (by rw[Bk];exact(IW h).1);rw[Bk,(IW h).2] at e;have:=Ft h;exact⟨by rw[Cp];lia,e⟩
theorem vW{r:Int}(h:Sm r):sW (nW r)≠Str.ofString "never":=fun z=>by
 have z:=xk cpl z;rw[Bk] at z;have:=G3 h 110 (by rw[z];ac_rfl);lia
variable{K:Fr}{cs:Cs}{H H':Hp}{x:Addr} in
theorem Aw.same{n:Nat}(A:Aw K cs H x g n b)(s:Av H H'):Aw K cs H' x g n b:=by
 obtain⟨⟨j,m,d,h1,h2⟩,h3,h4,h5,h6⟩:=A;exact⟨⟨j,m,d.same s,h1,h2⟩,h3,h4,h5,h6⟩
theorem T2{s h x z:Wd}(e:s=h++32::(x++[32])):h++32::(x++32::z)=s++z:=by rw[e];simp
theorem dM:Ih (sg "r"):=⟨by ac_rfl,by ac_rfl,by ac_rfl⟩
theorem AEd(g:BV):Row.T (.cal g)=sg "calendar c "++Jh g:=T2 (show sg "calendar c "=cpl (Str.ofString "calendar")++32::(sg "c"++[32]) by ac_rfl)
theorem AEX(p:PT):Row.T (.rule (sg "r") p)=sg "rule r "++p.tx:=T2 (show sg "rule r "=cpl (Str.ofString "rule")++32::(sg "r"++[32]) by ac_rfl)
theorem AEZ(d:Int):Row.T (.on (sg "r") d)=sg "on r "++nW d:=T2 (show sg "on r "=cpl (Str.ofString "on")++32::(sg "r"++[32]) by ac_rfl)
theorem AEc(d:Int):Row.T (.date d)=sg "date c "++nW d:=T2 (show sg "date c "=cpl (Str.ofString "date")++32::(sg "c"++[32]) by ac_rfl)
theorem AEe(d e:Int):Row.T (.count (sg "r") d e)=sg "count r "++nW d++sg " "++nW e:=by
 have e':Row.T (.count (sg "r") d e)=sg "count"++32::(sg "r"++32::(nW d++32::nW e)):=rfl;rw[e',show sg "count r "=sg "count"++32::(sg "r"++[32]) by ac_rfl,bsg];simp
theorem SqL.kd(k:Kd H H'){xs:List V}(h:SqL K H x xs):SqL K H' x xs:=by
 rcases h with (h | ⟨o,h⟩) | h
 ·exact .inl (.inl (k.lst h))
 ·exact .inl (.inr ⟨o,k _ _ (fun _ z=>nomatch z) h⟩)
 ·exact .inr h
theorem RL:∀n<1007,PySem.intText? (sW (J4 n))=some (n:Int)/\(J4 n).length<=60/\47∉J4 n:=by ac_rfl
theorem tH(o:g.good)(st:g.st.natAbs<=1000000000000000000000000000000){d y m r:Int}(z:Zd d)(I:IsD g y m r)(D:Cz g y m r=d):Sm y:=by
 have b:=IsD.year o I;rw[D] at b;have:=BV.yb o b.1 b.2;unfold Zd at z;unfold Sm;have:(10:Nat)^45=1000000000000000000000000000000000000000000000:=by decide
 lia
theorem wK(h:Sm d):(Row.date d).ok:=fun w hw=>by
 simp only[Row.ws,qv,yi,or_false] at hw;rcases hw with rfl | rfl
 ·exact AAe
 ·exact h
theorem eO{y:Int}{m r:Nat}(sy:Sm y)(hm:m<=1006)(hr:r<=1006):(JX 47 (sW (Nh y m r))).map V.str=[(nW y,y),(J4 m,(m:Int)),(J4 r,(r:Int))].map fun p=>V.str (sW p.1):=by
 rw[show JX 47 (sW (Nh y m r))=(spl 47 (cpl (sW (Nh y m r)))).map sW from rfl,Bk];have e:spl 47 (Nh y m r)=[nW y,J4 m,J4 r]:=by
  unfold Nh;rw[Kv 47 _ _ (fun z=>by have:=G3 sy 47 z;lia),Kv 47 _ _ (RL m (by lia)).2.2,RN 47 _ (RL r (by lia)).2.2]
 rw[e];rfl
theorem ADV(d e:Int):Row.T (.nth (sg "r") d e)=sg "nth r "++nW d++sg " "++nW e:=by
 have e':Row.T (.nth (sg "r") d e)=sg "nth"++32::(sg "r"++32::(nW d++32::nW e)):=rfl;rw[e',show sg "nth r "=sg "nth"++32::(sg "r"++[32]) by ac_rfl,bsg];simp
theorem qD{n k r:Int}(n0:0<n)(k0:k≠0)(N:Nth n b d k r):d-n*(k.natAbs:Int)-1<=r/\r<=d+n*(k.natAbs:Int)+1:=by
 have c1:1<=(cnt b n.toNat:Int):=by
  have a:=Jv (b:=b) n0 r;rw[N.1,ya rfl] at a;have m:=Jw (b:=b) n0 (show r+1<=r+n by lia);have t:=xJ (b:=b) n0 r;lia
 have far:∀(x:Int) (j:Nat),CC n b x+(j:Int)<=CC n b (x+n*(j:Int)):=fun x j=>by
  rw[ABi n0];have:(j:Int)*1<=(j:Int)*(cnt b n.toNat:Int):=jb3 c1 (by lia);lia
 have nn:0<=n*(k.natAbs:Int):=jd3 (by lia) (by lia);rcases jl6 0 k with c | c | c
 ·have P:=N.2.1 c;refine⟨by lia,Int.not_lt.mp fun z=>?_⟩;have f:=far d k.natAbs;have m:=Jw (b:=b) n0 (show d+n*(k.natAbs:Int)<=r by lia);lia
 ·exact absurd c.symm k0
 ·have P:=N.2.2 c;refine⟨Int.not_lt.mp fun z=>?_,by lia⟩;have f:=far r k.natAbs;have m:=Jw (b:=b) n0 (show r+n*(k.natAbs:Int)<=d by lia);have o:On n b (r+n*(k.natAbs:Int))=true:=by rw[fP (jg6 n)];exact N.1
  have m':=Jv (b:=b) n0 (r+n*(k.natAbs:Int));rw[o,ya rfl] at m';have m2:=Jw (b:=b) n0 (show r+n*(k.natAbs:Int)+1<=d+1 by lia);lia
theorem aF{f n x:Int}(i:Option Int):x∈PN f n i<->(f<=x/\x<f+n)/\(i=none\/i=some (x-f+1)\/i=some (x-f-n)):=by
 unfold PN;cases i with
 | none=>
  simp only[ka,jm2];refine⟨?_,fun h=>⟨(x-f).toNat,by lia,by lia⟩⟩;rintro⟨k,hk,rfl⟩;exact⟨by lia,.inl trivial⟩
 | some i=>
  simp only[Option.some.injEq,reduceCtorEq,false_or];unfold plD;by_cases c:0<i
  ·rw[ya c];split<;>simp only[vb,yi,false_iff]<;>lia
  ·rw[ua c];split<;>simp only[vb,yi,false_iff]<;>lia
theorem fY{m i:Option Int}{x:Int}:∀{ls:List Int} {f k:Int},x∈yrL ls f k m i<->∃j:Nat,j<ls.length/\(m=none\/m=some (k+(j:Int)))/\x∈PN (f+PS ls j) (ls.getD j 0) i
 | [],f,k=>⟨fun h=>(nomatch h),fun⟨j,hj,_⟩=>absurd hj (Nat.not_lt_zero _)⟩
 | n::ls,f,k=>by
  have e:∀j,f+PS (n::ls) (j+1)=f+n+PS ls j:=fun j=>by unfold PS;rw[jo2,uu,jn2]
  show x∈(if m=none\/m=some k then PN f n i else [])++yrL ls (f+n) (k+1) m i<->_;rw[ku,fY];constructor
  ·rintro(h | ⟨j,hj,hm,hx⟩)
   ·split at h
    ·exact⟨0,Nat.succ_pos _,by rwa [Int.natCast_zero,kz],by rwa [show f+PS (n::ls) 0=f from kz f]⟩
    ·cases h
   ·exact⟨j+1,Nat.succ_lt_succ hj,by rwa [show k+((j+1:Nat):Int)=k+1+(j:Int) by lia],by rw[e];exact hx⟩
  ·rintro⟨_ | j,hj,hm,hx⟩
   ·rw[Int.natCast_zero,kz] at hm;rw[ya hm];rw[show f+PS (n::ls) 0=f from kz f] at hx;exact .inl hx
   ·rw[e] at hx;exact .inr ⟨j,ja6 hj,by rwa [show k+((j+1:Nat):Int)=k+1+(j:Int) by lia] at hm,hx⟩
noncomputable def Wan(g:BV)(m i:Option Int)(y mo r:Int):Prop:=(m=none\/m=some mo)/\(i=none\/i=some r\/i=some (r-(g.L y).getD (mo-1).toNat 0-1))
theorem mR{y x:Int}{m i:Option Int}:x∈yrL (g.L y) (g.Y y) 1 m i<->∃mo r,IsD g y mo r/\Cz g y mo r=x/\Wan g m i y mo r:=by
 rw[fY];constructor
 ·rintro⟨j,hj,hm,hx⟩;obtain⟨hx,hi⟩:=(aF i).mp hx;have ej:(1+(j:Int)-1).toNat=j:=by lia
  refine⟨1+(j:Int),x-(g.Y y+PS (g.L y) j)+1,⟨by lia,by lia,by lia,by rw[ej];lia⟩,?_,hm,?_⟩
  ·unfold Cz;rw[ej];lia
  ·rw[ej];rcases hi with h | h | h
   ·exact .inl h
   ·exact .inr (.inl h)
   ·exact .inr (.inr (h.trans (xk some (by lia))))
 ·rintro⟨mo,r,h,rfl,hm,hi⟩;have m0:=h.m0;have m1:=h.m1;have r0:=h.r0;have r1:=h.r1;unfold Cz;refine⟨(mo-1).toNat,by lia,?_,(aF i).mpr ⟨by lia,?_⟩⟩
  ·rwa [show 1+((mo-1).toNat:Int)=mo by lia]
  ·rcases hi with h | h | h
   ·exact .inl h
   ·exact .inr (.inl (h.trans (xk some (by lia))))
   ·exact .inr (.inr (h.trans (xk some (by lia))))
theorem eN{m i:Option Int}{x:Int}:∀{n:Nat},x∈dtL g m i n<->∃k:Nat,k<n/\x∈yrL (g.L (k:Int)) (g.Y (k:Int)) 1 m i
 | 0=>⟨fun h=>(nomatch h),fun⟨j,hj,_⟩=>absurd hj (Nat.not_lt_zero _)⟩
 | n+1=>by
  show x∈dtL g m i n++_<->_;rw[ku,eN];constructor
  ·rintro(⟨k,hk,h⟩ | h)
   ·exact⟨k,by lia,h⟩
   ·exact⟨n,by lia,h⟩
  ·rintro⟨k,hk,h⟩;by_cases c:k=n
   ·exact .inr (c ▸ h)
   ·exact .inl ⟨k,by lia,h⟩
theorem cyN(o:g.good){y m r:Int}(I:IsD g y m r)(k:Nat):∀q:Int,q=(k:Int)\/q= -(k:Int)->IsD g (y+q*g.cy.1) m r/\Cz g (y+q*g.cy.1) m r=Cz g y m r+q*g.cy.2/\g.L (y+q*g.cy.1)=g.L y:=by
 induction k with
 | zero=>intro q h;rw[show q=0 by lia];simpa using I
 | succ k ih=>
  intro q h;have s:∀a b:Int,a*b+b=(a+1)*b:=fun a b=>by rw[jg9,jc9]
  have t:∀a b:Int,a*b-b=(a-1)*b:=fun a b=>by rw[Int.sub_mul,jc9]
  rcases h with h | h
  ·obtain⟨a,b,c⟩:=ih (q-1) (by lia);obtain⟨a',b'⟩:=a.cyc o;have c':=BV.cyL o (y+(q-1)*g.cy.1);have e:=s (q-1) g.cy.1;have e2:=s (q-1) g.cy.2;rw[show q-1+1=q by lia] at e e2;rw[jn2,e] at a' b' c';exact⟨a',by rw[b',b,jn2,e2],c'.trans c⟩
  ·obtain⟨a,b,c⟩:=ih (q+1) (by lia);obtain⟨a',b'⟩:=a.cycB o;have c':=BV.cyL o (y+q*g.cy.1);have e:=t (q+1) g.cy.1;have e2:=t (q+1) g.cy.2;rw[show q+1-1=q by lia] at e e2;have e3:y+(q+1)*g.cy.1-g.cy.1=y+q*g.cy.1:=by rw[Int.add_sub_assoc,e]
   have e4:y+q*g.cy.1+g.cy.1=y+(q+1)*g.cy.1:=by lia
   rw[e3] at a' b';rw[e4] at c';exact⟨a',by rw[b',b,Int.add_sub_assoc,e2],c'.symm.trans c⟩
theorem wX(o:g.good)(c1:1<=g.cy.1){m i:Option Int}{b:Nat}(B:RB g.cy.2 (dtL g m i g.cy.1.toNat) b){t y mo r:Int}(I:IsD g y mo r)(D:Cz g y mo r=t):On g.cy.2 b t=true<->Wan g m i y mo r:=by
 have cz:=fun{y mo r:Int} (I:IsD g y mo r) (q:Int)=>cyN o I q.natAbs q (by lia);rw[B.bit t];unfold hit;rw[List.any_eq_true];constructor
 ·rintro⟨x,hx,hz⟩;rw[decide_eq_true_eq] at hz;obtain⟨q,hq⟩:=Int.dvd_of_emod_eq_zero hz;obtain⟨k,hk,hx⟩:=eN.mp hx;obtain⟨mo',r',I',rfl,W⟩:=mR.mp hx;obtain⟨s1,s2,s3⟩:=cz I' q;obtain⟨rfl,rfl,rfl⟩:=I.uniq o s1 (by rw[s2,D,ub];lia);unfold Wan
  rwa [s3]
 ·intro W;have y0:=zh y (show g.cy.1≠0 by lia);have y1:=qk y (show 0<g.cy.1 by lia);obtain⟨s1,s2,s3⟩:=cz I (-(y/g.cy.1));have e:y+ -(y/g.cy.1)*g.cy.1=y%g.cy.1:=by rw[Int.emod_def,jn8,ub (y/g.cy.1)];lia
  rw[e] at s1 s2 s3;refine⟨_,eN.mpr ⟨(y%g.cy.1).toNat,by lia,?_⟩,decide_eq_true (?_:(t-Cz g (y%g.cy.1) mo r)%g.cy.2=0)⟩
  ·rw[show (((y%g.cy.1).toNat:Nat):Int)=y%g.cy.1 by lia];refine mR.mpr ⟨mo,r,s1,rfl,?_⟩;unfold Wan
   rwa [s3]
  ·refine Int.emod_eq_zero_of_dvd ⟨y/g.cy.1,?_⟩;rw[s2,D,jn8,ub g.cy.2];lia
theorem Yg{y m r:Int}(q:Int):Cz g y m (r+q)=Cz g y m r+q:=by unfold Cz;lia
theorem wW(o:g.good){y m r y1 m1 r1 k:Int}(k0:k<0)(I:IsD g y m r)(I1:IsD g y1 m1 r1)(D1:Cz g y1 m1 r1=Cz g y m r-k-1)(e:k=r-(g.L y).getD (m-1).toNat 0-1):y1=y/\m1=m/\r1=r+(-k-1):=by
 have r0:=I.r0;exact IsD.uniq o I1 ⟨I.m0,I.m1,by lia,by lia⟩ (by rw[Yg,D1];lia)
theorem ABP(o:g.good){y m r r1 y2 m2 r2 k:Int}(k0:k<0)(I:IsD g y m r)(I1:IsD g y m r1)(I2:IsD g y2 m2 r2)(D1:Cz g y m r1=Cz g y m r-k-1)(D2:Cz g y2 m2 r2=Cz g y m r-k):r2=1<->k=r-(g.L y).getD (m-1).toNat 0-1:=by
 have a:=I1.r0;have b:=I1.r1;have e1:r1=r-k-1:=by unfold Cz at D1;lia
 constructor
 ·rintro rfl;by_cases c:r1=(g.L y).getD (m-1).toNat 0
  ·lia
  ·have:=(IsD.uniq o (⟨I1.m0,I1.m1,by lia,by lia⟩:IsD g y m (r1+1)) I2 (by rw[Yg,D1,D2];lia)).2.2;lia
 ·intro e;have a:=I2.r0;have b:=I2.r1;by_cases c:r2=1
  ·exact c
  ·obtain⟨rfl,rfl,h6⟩:=IsD.uniq o (⟨I2.m0,I2.m1,by lia,by lia⟩:IsD g y2 m2 (r2+ -1)) I1 (by rw[Yg,D1,D2];lia);lia
theorem XF{m:Option Int}(h:PT.okS m):V.str (sW (Dw m))=V.str (Str.ofString "*")<->m=none:=by
 cases m with
 | none=>exact⟨fun _=>rfl,fun _=>by ac_rfl⟩
 | some i=>
  refine⟨fun z=>?_,fun z=>nomatch z⟩;have z:=xk cpl (V.str.inj z);rw[Bk] at z;have:=G3 (h i rfl) 42 (by rw[show nW i=Dw (some i) from rfl,z];ac_rfl);lia
theorem XH{m:Option Int}{r:Int}(h:PT.okS m)(sr:Sm r):V.str (sW (Dw m))=V.str (Ca r)<->m=some r:=by
 cases m with
 | none=>
  refine⟨fun z=>?_,fun z=>nomatch z⟩;have z:=xk cpl (V.str.inj z);have:=G3 sr 42 (by rw[show nW r=cpl (Ca r) from rfl,<-z];ac_rfl);lia
 | some i=>
  refine⟨fun z=>?_,fun z=>by cases z;exact xk V.str (Ip _)⟩;have z:=xk cpl (V.str.inj z);rw[Bk] at z;have z:nW i=nW r:=z;rw[<-(IW (h i rfl)).2,<-(IW sr).2,z]
theorem vq{m:Option Int}{r:Int}(h:PT.okS m)(sr:Sm r):inV (V.str (sW (Dw m))) [V.str (Str.ofString "*"),V.str (Ca r)]=true<->m=none\/m=some r:=by
 have e:∀a b:Str,eqV (V.str a) (V.str b)=true<->V.str b=V.str a:=fun a b=>⟨fun h=>xk V.str (eq_of_beq (show (a==b)=true from h)).symm,fun h=>by rw[V.str.inj h];exact beq_self_eq_true (a:=a)⟩;unfold inV;rw[jf4,jf4,List.any_nil,jk4,jn6,e,e,XF h,XH h sr]
theorem ADQ(ns:List Int){i j:Nat}{lo hi:Int}(hl:lo=(i:Int))(hh:hi=(j:Int))(h:j<=i+3):∃cs:List Int,Hu (ns.map V.int) (some lo) (some hi)=cs.map V.int/\cs.length<=3:=by
 subst hl hh;refine⟨(ns.drop (min i ns.length)).take (min j ns.length-min i ns.length),?_,by rw[jf0];omega⟩;unfold Hu;rw[HT.sIx_nat,HT.sIx_nat,js,List.map_take,List.map_drop]
theorem jC{n r:Int}(n0:0<n)(h:d<=r)(o:∀e,d<=e->e<r->On n b e=false):CC n b r-CC n b d=0:=by
 have e:d+((r-d).toNat:Int)=r:=by lia
 have:=sY (b:=b) n0 (r-d).toNat d (by rwa [e]);rw[e] at this;lia
noncomputable def k8:List Int:=[-4,-3,-2,-1,1,2,3,4]
theorem wk(x:Int):∃k:Int,(-4<=k/\k<=4)/\atI (k8.map V.int) (x%8)=some (.int k):=by
 have a0:=zh x (show (8:Int)≠0 by decide);have a1:=qk x (show (0:Int)<8 by decide);have hk:(x%8).toNat<k8.length:=by show _<8;lia
 refine⟨k8[(x%8).toNat],(by decide:∀k∈k8,-4<=k/\k<=4) _ (je9 hk),?_⟩;have:=Dm (xs:=k8.map V.int) (j:=(x%8).toNat) (v:=.int k8[(x%8).toNat]) (by rw[zo,qo hk];rfl)
 rwa [show (((x%8).toNat:Nat):Int)=x%8 by lia] at this
theorem tO(p:PT):∃c r,p.tx=c::r/\(c≠40->p.br=0):=by
 have k:∀{s:String} {t w u:Wd} {P:Prop},sg s=40::t->w=sg s++u->∃c r,w=c::r/\(c≠40->P):=fun{s t w u P} e h=>⟨40,t++u,by rw[h,e];rfl,fun z=>absurd rfl z⟩;cases p with
 | lf b=>cases b<;>exact⟨_,_,rfl,fun _=>rfl⟩
 | each=>exact⟨_,_,rfl,fun _=>rfl⟩
 | date=>exact⟨_,_,rfl,fun _=>rfl⟩
 | no=>exact k (s:="(not ") (t:=sg "not ") (by ac_rfl) (by rw[PT.tx_no,ke])
 | la=>exact k (s:="(") (t:=[]) (by ac_rfl) (by rw[PT.tx_la];simp only[ke];rfl)
 | ev=>exact k (s:="(every ") (t:=sg "every ") (by ac_rfl) (by rw[PT.tx_ev];simp only[ke];rfl)
 | nt=>exact k (s:="(") (t:=[]) (by ac_rfl) (by rw[PT.tx_nt];simp only[ke];rfl)
 | pr=>exact k (s:="(") (t:=[]) (by ac_rfl) (by rw[PT.tx_pr];simp only[ke];rfl)
theorem AEa(d:Int):Row.T (.next (sg "r") d)=sg "next r "++nW d:=T2 (show sg "next r "=cpl (Str.ofString "next")++32::(sg "r"++[32]) by ac_rfl)
theorem AEb(d:Int):Row.T (.last (sg "r") d)=sg "last r "++nW d:=T2 (show sg "last r "=cpl (Str.ofString "last")++32::(sg "r"++[32]) by ac_rfl)
theorem Pq{d:Option Addr}{vs:Array Value}{n:Nat}{s:Array (Option Value)}(h:K.lookup a=some ⟨.type "tuple",d,.seq vs n,s⟩)(l:vs.size<=5)(r:Vals xs vs.toList)(H:Hp):SqT K H a xs:=.inr ⟨_,_,_,h,rfl,rfl,zw l (by decide),r⟩
theorem qj{P:Program}{w:World}{mg:Str->Option Value}{t:Nat->Addr}{a0 a2 a3 a6 a7 a8 a9 a10:Addr}{x0 x1 x2 x3 x4 x5 x6 x7 x8 x9 x10 x11 x12 x13 x14 x15 x16 x17:Tok}{d0 d1 d2 d3 d4 d5 d6 d7:Option Addr}{n0 n1 n2 n3 n4 n5 n6 n7:Nat}{s0 s1 s2 s3 s4 s5 s6 s7:Array (Option Value)}(m:mg "FORMS"=some (.ref a))(d:KD P w K a (d8 t))(e0:t 0=a0)(e2:t 2=a2)(e3:t 3=a3)(e6:t 6=a6)(e7:t 7=a7)(e8:t 8=a8)(e9:t 9=a9)(e10:t 10=a10)
 (h0:K.lookup a0=some ⟨.type "tuple",d0,.seq #[.str "NAME" x0,.str "TEXT" x1] n0,s0⟩)(h2:K.lookup a2=some ⟨.type "tuple",d1,.seq #[.str "NAME" x2,.str "TEXT" x3] n1,s1⟩)(h3:K.lookup a3=some ⟨.type "tuple",d2,.seq #[.str "CALENDAR" x4,.str "NUMBER" x5] n2,s2⟩)(h6:K.lookup a6=some ⟨.type "tuple",d3,.seq #[.str "RULE" x6,.str "NUMBER" x7] n3,s3⟩)(h7:K.lookup a7=some ⟨.type "tuple",d4,.seq #[.str "RULE" x8,.str "NUMBER" x9] n4,s4⟩)(h8:K.lookup a8=some ⟨.type "tuple",d5,.seq #[.str "RULE" x10,.str "NUMBER" x11] n5,s5⟩)(h9:K.lookup a9=some ⟨.type "tuple",d6,.seq #[.str "RULE" x12,.str "NUMBER" x13,.str "NUMBER" x14] n6,s6⟩)(h10:K.lookup a10=some ⟨.type "tuple",d7,.seq #[.str "RULE" x15,.str "NUMBER" x16,.str "NUMBER" x17] n7,s7⟩):sS P w K mg a t:=⟨m,d,fun R H=>by
 subst e0 e2 e3 e6 e7 e8 e9 e10;cases R
 ·exact Pq (xs:=[V.str "NAME",V.str "TEXT"]) h0 (by show 2<=5;decide) (.cons ⟨_,rfl⟩ (.cons ⟨_,rfl⟩ .nil)) H
 ·exact Pq (xs:=[V.str "NAME",V.str "TEXT"]) h2 (by show 2<=5;decide) (.cons ⟨_,rfl⟩ (.cons ⟨_,rfl⟩ .nil)) H
 ·exact Pq (xs:=[V.str "RULE",V.str "NUMBER"]) h6 (by show 2<=5;decide) (.cons ⟨_,rfl⟩ (.cons ⟨_,rfl⟩ .nil)) H
 ·exact Pq (xs:=[V.str "RULE",V.str "NUMBER"]) h7 (by show 2<=5;decide) (.cons ⟨_,rfl⟩ (.cons ⟨_,rfl⟩ .nil)) H
 ·exact Pq (xs:=[V.str "RULE",V.str "NUMBER"]) h8 (by show 2<=5;decide) (.cons ⟨_,rfl⟩ (.cons ⟨_,rfl⟩ .nil)) H
 ·exact Pq (xs:=[V.str "RULE",V.str "NUMBER",V.str "NUMBER"]) h10 (by show 3<=5;decide) (.cons ⟨_,rfl⟩ (.cons ⟨_,rfl⟩ (.cons ⟨_,rfl⟩ .nil))) H
 ·exact Pq (xs:=[V.str "RULE",V.str "NUMBER",V.str "NUMBER"]) h9 (by show 3<=5;decide) (.cons ⟨_,rfl⟩ (.cons ⟨_,rfl⟩ (.cons ⟨_,rfl⟩ .nil))) H
 ·exact Pq (xs:=[V.str "CALENDAR",V.str "NUMBER"]) h3 (by show 2<=5;decide) (.cons ⟨_,rfl⟩ (.cons ⟨_,rfl⟩ .nil)) H⟩
end Fw
namespace Fw
open PySem L2 PyProof.Rows
local macro_rules | `(tactic| symm)=> `(tactic| (repeat (first | fail "r" | ((with_reducible refine' Fw.gY ?hc1 ?hc2 ?hc3 ?_);(case hc1=>assumption);(case hc2=>assumption);(case hc3=>decide)) | with_reducible refine Fw.Zq ?_)))
local macro_rules | `(tactic| exists $e)=> `(tactic| (refine $e;symm))
local macro_rules | `(tactic| walk_at"mm")=> `(tactic| (repeat (first | exact List.Mem.head _ | refine List.Mem.tail _ ?_)))
local macro_rules | `(tactic| walk_at"i2")=> `(tactic| (intro R1 R2 lz q hx rc;symm;obtain⟨C,dr,fs,m,hr,l1,_⟩:=R1.mt;refine⟨_,C,dr,fs,_,m _,rfl,hr,l1,?_⟩;symm;refine⟨je1,_,_,_,rfl,R1,fun p hp=>?_⟩;symm;obtain⟨C',dr',fs',m',hr',l1',_⟩:=R2.mt;refine⟨_,C',dr',fs',_,m' _,rfl,hr',l1',?_⟩;symm;refine⟨je1,_,_,_,rfl,R2,fun p' hp'=>?_⟩;symm;refine⟨p,p',_,_,_,_,rfl,⟨hp,R1.n0,R1.n1,R1.lt⟩,⟨hp',R2.n0,R2.n1,R2.lt⟩,lz,fun p2 c H1 s1 Rr=>?_⟩;symm;refine⟨Hz,fun pm hpm=>?_⟩;refine fresh hpm fun H2 s2 t2=>?_;symm;refine⟨(by show 3<=sizeLine;decide),fun pw hpw=>?_⟩;refine fresh hpw fun H3 s3 t3=>?_;have s3:=s2.trans s3;have hx3:=(s1.trans s3) _ _ hx;symm;exact⟨_,p2,pm,pw,_,_,rfl,hx3,rc,fun H' k e=>q _ H' (k.pre (s1.trans s3)) (GQ (by walk_at"mm") rc hx3 (s3 _ _ Rr.s) k e Rr.p Rr.l Rr.k) trivial⟩))
local macro_rules | `(tactic| walk_at"nw")=> `(tactic| (refine CJ (by first | exact yW (by ac_rfl) | exact Pk (by ac_rfl) | exact fun z=>absurd (V.str.inj z) (by ac_rfl)) ?_;symm))
local macro_rules | `(tactic| walk_at"ew")=> `(tactic| (refine Gg (by first | exact Gy _ | rfl) ?_;symm))
noncomputable def P:Program:=PySem.Challenge.rw_feastwheel_k92_whole_asked_of_texts.prog
theorem fill:(PySem.Challenge.rw_feastwheel_k92_whole_asked_of_texts.prog,Hd.K)=(PySem.Challenge.rw_feastwheel_k92_whole_asked_of_texts.prog,Hd.K):=by k_fill;rfl
structure Dt where
 (w:World) (mg:Str->Option Value) (b:Heap)
structure Gi(d:Dt):Prop where
 X:(Hd.K d.w.params).In d.b
 G:d.b.Ns mainGlobals d.mg
noncomputable def Ok(d:Dt):Prop:=∀{f:Addr} {fd:FuncData},Fun (Hd.K d.w.params) "law" "law" gP f fd->FW P d.w (Hd.K d.w.params) d.mg d.b CX0 138 f fd ["_law_script"] (gM (Hd.K d.w.params))
instance:Nonempty Dt:=⟨⟨⟨fun _ _=>0,⟨fun _=>0,fun _=>0,id,fun _=>0,fun _ _=>0,fun _=>true,fun _=>0,.refcount,.text,fun _=>0,fun _=>none,fun _=>true,fun _ _ _=>true,fun _ _ _=>true,true,fun _=>true,fun _=>none,fun _=>none,fun _ _ _=>0,fun _ _=>none,fun _=>none,fun _=>(0,true,""),fun _=>none,id,fun _=>true⟩⟩,fun _=>none,default⟩⟩
noncomputable def d0:Dt:=Classical.epsilon fun d=>Gi d/\¬Ok d
noncomputable def w:World:=d0.w
noncomputable def K:Fr:=Hd.K w.params
noncomputable def mg:Str->Option Value:=d0.mg
noncomputable def base:Heap:=d0.b
abbrev Ak:Addr:=549
abbrev Bd:Addr:=649
abbrev BR:Addr:=708
abbrev rK:Addr:=786
abbrev Ba:Addr:=978
abbrev Wv:Addr:=999
abbrev lq:Addr:=1018
abbrev Ph:Addr:=1044
abbrev Jp:Addr:=1078
abbrev Wt:Addr:=1097
abbrev U8:Addr:=1116
abbrev Kp:Addr:=1135
abbrev az:Addr:=1154
abbrev Km:Addr:=1173
abbrev LK:Addr:=1192
abbrev Ux:Addr:=1211
abbrev Np:Addr:=1230
abbrev U3:Addr:=1249
abbrev Uy:Addr:=1268
abbrev Wu:Addr:=1287
abbrev LQ:Addr:=1306
abbrev Be:Addr:=1340
abbrev DX:Addr:=1663
abbrev Gm:Tok:=1009
abbrev Y7:Tok:=1383
abbrev Y6:Tok:=1384
abbrev J7:Tok:=1669
abbrev J6:Tok:=1670
abbrev bR:Tok:=577
abbrev m9:Tok:=579
abbrev VM:Tok:=820
abbrev Od:Tok:=816
abbrev VJ:Tok:=818
abbrev Rx:Tok:=932
abbrev Oc:Tok:=934
abbrev Qf:Tok:=429
abbrev bU:Tok:=427
abbrev VL:Tok:=431
abbrev Qg:Tok:=425
abbrev bV:Tok:=423
abbrev Ob:Tok:=1994
abbrev HB:Addr:=1309
abbrev Qd:Tok:=1996
abbrev Qc:Tok:=1997
abbrev Qa:Tok:=1998
abbrev QZ:Tok:=1999
abbrev QX:Tok:=2000
abbrev QW:Tok:=2001
abbrev QV:Tok:=2002
abbrev QT:Tok:=2003
abbrev qO:Addr:=1469
noncomputable def Z7:Nat->Addr:=fun i=>([1470,1471,1472,1473,1474,1475,1476,1477,1478,1479,1480,1481,1482,1483,1484,1485,1486,1488]:List Nat).getD i 0
abbrev dZ:Addr:=1608
noncomputable def dY:Nat->Addr:=fun i=>([1495,1502,1509,1516,1530,1537,1544,1551,1558,1565,1579,1586,1593,1600,1607]:List Nat).getD i 0
abbrev kj:Addr:=385
abbrev kh:Addr:=392
class Giv:Prop where
 X:K.In base
 G:base.Ns mainGlobals mg
variable{f:Addr}{fd:FuncData}
section
variable[Giv]
theorem gX:K.In base:=Giv.X
theorem gG:base.Ns mainGlobals mg:=Giv.G
local macro_rules | `(tactic| walk_at"k")=> `(tactic| (delta K;first | k_is | kit_is | k_exc))
local macro_rules | `(tactic| walk_at"o")=> `(tactic| first | exact Or.inl rfl | exact Or.inr rfl)
local macro_rules | `(tactic| walk_at"s")=> `(tactic| exact⟨rfl,rfl,rfl,by ac_rfl,rfl,by ac_rfl,by ac_rfl⟩)
local macro_rules | `(tactic| walk_at"hr")=> `(tactic| exact Eu.mono (by assumption) (by first | decide | lia))
local macro_rules | `(tactic| walk_at"kk")=> `(tactic| first | walk_at"k" | (constructor<;>walk_at"kk"))
local macro_rules | `(tactic| walk_at"g")=> `(tactic| (delta K;refine' L2.ql ?_ ?_ ?_ ?_<;>first | k_is | skip))
local macro_rules | `(tactic| walk_at"h")=> `(tactic| (delta K;refine' L2.AAx ?_ ?_ ?_ ?_ ?_<;>first | k_is | skip))
local macro_rules | `(tactic| walk_at"dg")=> `(tactic| (delta K;refine' L2.wF ?_ ?_ ?_ ?_ ?_<;>first | k_is | skip))
local macro_rules | `(tactic| walk_at"dm")=> `(tactic| (delta K;refine' L2.wD ?_ ?_ ?_ ?_ ?_ ?_<;>first | k_is | skip))
local macro_rules | `(tactic| walk_at"db")=> `(tactic| (delta K;refine' L2.wG ?_ ?_ ?_ ?_ ?_<;>first | k_is | skip))
local macro_rules | `(tactic| walk_at"b")=> `(tactic| first | walk_at"b1" | walk_at"b2" | walk_at"b3" | walk_at"b4" | walk_at"b0" | walk_at"b5" | walk_at"b6" | walk_at"b7" | walk_at"b8")
theorem mgo{x:Str}{v:Value}(h:PySem.W.nsIn K mainGlobals x=some (some v)):mg x=some v:=jh4 gX gG h
noncomputable abbrev C0(k:Nat)(x:Str)(ps:List Str)(sp:Sp):Prop:=Cal P w K mg base k x ps sp
noncomputable abbrev C1(k:Nat)(x:Str)(ps:List Str)(sp:Sp):Prop:=AEh P w K mg base k x ps sp
noncomputable abbrev CM0(k:Nat)(C:Addr)(x:Str)(ps:List Str)(sp:Sp):Prop:=mK P w K mg base CX0 k C x ps sp
noncomputable abbrev CI0(k:Nat)(x:Str)(C:Addr)(ps:List Str)(sp:Sp):Prop:=mL P w K mg base CX0 k x C ps sp
noncomputable abbrev F0(k:Nat)(f:Addr)(fd:FuncData)(ps:List Str)(sp:Sp):Prop:=FW P w K mg base CX0 k f fd ps sp
noncomputable abbrev CL:List Addr:=[Wv,lq,Ph,Jp,Wt,U8,Kp,az,Km,LK,Ux,Np,U3,Uy,Wu,LQ]
theorem Aq:Cls K Ak:=by walk_at"kk"
theorem CT:Df K Ak "base":=by walk_at"kk"
theorem CN:Df K Ak "terms":=by walk_at"kk"
theorem Ce:Df K Ak "full_count":=by walk_at"kk"
theorem Du:Df K Ak "full_sum":=by walk_at"kk"
theorem Bw:Cls K Bd:=by walk_at"kk"
theorem Hl:Df K Bd "start":=by walk_at"kk"
theorem JN:Df K Bd "months":=by walk_at"kk"
theorem Ia:Df K Bd "leap":=by walk_at"kk"
theorem CW:Df K Bd "years":=by walk_at"kk"
theorem Bs:Cls K BR:=by walk_at"kk"
theorem G4:Df K BR "start":=by walk_at"kk"
theorem Dp:Df K BR "days":=by walk_at"kk"
theorem Do:Df K BR "many":=by walk_at"kk"
theorem Bj:Cls K Be:=by walk_at"kk"
theorem Gp:Df K Be "words":=by walk_at"kk"
theorem Eb:Df K Be "place":=by walk_at"kk"
theorem DR:Cls K DX:=by walk_at"kk"
theorem Eo:Df K DX "calendars":=by walk_at"kk"
theorem G5:Df K DX "rules":=by walk_at"kk"
theorem Wm:Cls K Wv:=by walk_at"kk"
theorem Wg:RC K Ba Wv:=by walk_at"kk"
theorem aD:Cls K lq:=by walk_at"kk"
theorem aC:RC K Ba lq:=by walk_at"kk"
theorem Uc:Cls K Ph:=by walk_at"kk"
theorem UV:RC K Ba Ph:=by walk_at"kk"
theorem QL:Cls K Jp:=by walk_at"kk"
theorem QG:RC K Ba Jp:=by walk_at"kk"
theorem Wh:Cls K Wt:=by walk_at"kk"
theorem Wc:RC K Ba Wt:=by walk_at"kk"
theorem Ud:Cls K U8:=by walk_at"kk"
theorem eG:RC K Ba U8:=by walk_at"kk"
theorem Ng:Cls K Kp:=by walk_at"kk"
theorem Ye:RC K Ba Kp:=by walk_at"kk"
theorem Wj:Cls K az:=by walk_at"kk"
theorem lB:RC K Ba az:=by walk_at"kk"
theorem Nf:Cls K Km:=by walk_at"kk"
theorem Yd:RC K Ba Km:=by walk_at"kk"
theorem QJ:Cls K LK:=by walk_at"kk"
theorem QD:RC K Ba LK:=by walk_at"kk"
theorem UW:Cls K Ux:=by walk_at"kk"
theorem d9:RC K Ba Ux:=by walk_at"kk"
theorem QH:Cls K Np:=by walk_at"kk"
theorem aB:RC K Ba Np:=by walk_at"kk"
theorem Ub:Cls K U3:=by walk_at"kk"
theorem eF:RC K Ba U3:=by walk_at"kk"
theorem Ua:Cls K Uy:=by walk_at"kk"
theorem eE:RC K Ba Uy:=by walk_at"kk"
theorem Wi:Cls K Wu:=by walk_at"kk"
theorem We:RC K Ba Wu:=by walk_at"kk"
theorem QK:Cls K LQ:=by walk_at"kk"
theorem QF:RC K Ba LQ:=by walk_at"kk"
theorem JQ:mg "range"=none:=kg gX gG (by walk_at"k")
theorem Eh:mg "len"=none:=kg gX gG (by walk_at"k")
theorem fX:mg "abs"=none:=kg gX gG (by walk_at"k")
theorem xM:mg "zip"=none:=kg gX gG (by walk_at"k")
theorem bJ:mg "list"=none:=kg gX gG (by walk_at"k")
theorem fW:mg "sum"=none:=kg gX gG (by walk_at"k")
theorem mQ:mg "all"=none:=kg gX gG (by walk_at"k")
theorem W6:mg "tuple"=none:=kg gX gG (by walk_at"k")
theorem ABj:mg "min"=none:=kg gX gG (by walk_at"k")
theorem ABk:mg "max"=none:=kg gX gG (by walk_at"k")
theorem Cr:mg "str"=none:=kg gX gG (by walk_at"k")
theorem JR:mg "isinstance"=none:=kg gX gG (by walk_at"k")
theorem Mh:mg "int"=none:=kg gX gG (by walk_at"k")
theorem j5:mg "LONGEST"=some (.int 150000 bR):=mgo (by walk_at"k")
theorem Ij:mg "PIECE"=some (.int 256 m9):=mgo (by walk_at"k")
theorem YQ:mg "GREATEST_N"=some (.int 1000 VM):=mgo (by walk_at"k")
theorem Qw:mg "GREATEST_BASE"=some (.int 20000 Od):=mgo (by walk_at"k")
theorem YL:mg "MOST_TERMS"=some (.int 6 VJ):=mgo (by walk_at"k")
theorem Lh:mg "MOST_MONTHS"=some (.int 20 Rx):=mgo (by walk_at"k")
theorem J1:mg "LONGEST_MONTH"=some (.int 1000 Oc):=mgo (by walk_at"k")
theorem Tt:mg "MOST_LETTERS"=some (.int 8 Qf):=mgo (by walk_at"k")
theorem j6:mg "LETTERS"=some (.str "abcdefghijklmnopqrstuvwxyz" bU):=mgo (by walk_at"k")
theorem YM:mg "MOST_SIGNS"=some (.int 4000 VL):=mgo (by walk_at"k")
theorem Tu:mg "MOST_FIGURES"=some (.int 60 Qg):=mgo (by walk_at"k")
theorem j7:mg "FIGURES"=some (.str "0123456789" bV):=mgo (by walk_at"k")
theorem Qv:mg "MOST_BRACKETS"=some (.int 40 Ob):=mgo (by walk_at"k")
theorem YK:mg "PAIR_WORDS"=some (.ref HB):=mgo (by walk_at"k")
theorem Xo:∀H,SqT K H HB [.str "and",.str "or",.str "but",.str "unlike",.str "upon",.str "until",.str "near",.str "till"]:=by
 have l:K.lookup HB=some ⟨.type "tuple",none,.seq #[.str "and" Qd,.str "or" Qc,.str "but" Qa,.str "unlike" QZ,.str "upon" QX,.str "until" QW,.str "near" QV,.str "till" QT] 0,#[]⟩:=by walk_at"k"
 exact fun H=>.inr ⟨_,_,_,l,rfl,rfl,(by show 8<=sizeLine;decide),(.cons ⟨_,rfl⟩ (.cons ⟨_,rfl⟩ (.cons ⟨_,rfl⟩ (.cons ⟨_,rfl⟩ (.cons ⟨_,rfl⟩ (.cons ⟨_,rfl⟩ (.cons ⟨_,rfl⟩ (.cons ⟨_,rfl⟩ .nil))))))))⟩
theorem Gk:sS P w K mg qO Z7:=qj (a0:=1470) (a2:=1472) (a3:=1473) (a6:=1476) (a7:=1477) (a8:=1478) (a9:=1479) (a10:=1480) (mgo (by walk_at"k")) (L2.yF (a:=1469) (n:=18) [("calendar",2215,1470),("change",2219,1471),("rule",2225,1472),("date",2229,1473),("day",2233,1474),("move",2237,1475),("on",2242,1476),("next",2246,1477),("last",2250,1478),("nth",2254,1479),("count",2259,1480),("size",2264,1481),("same",2267,1482),("meet",2272,1483),("within",2277,1484),("shorter",2282,1485),("show",2285,1486),("almanac",2288,1488)] (by walk_at"k") (by ac_rfl) rfl) rfl rfl rfl rfl rfl rfl rfl rfl (by walk_at"k") (by walk_at"k") (by walk_at"k") (by walk_at"k") (by walk_at"k") (by walk_at"k") (by walk_at"k") (by walk_at"k")
theorem DW:AEj P w K mg dZ dY:=⟨mgo (by walk_at"k"),(L2.yF (a:=1608) (n:=15) [("date",2417,1495),("day",2418,1502),("move",2419,1509),("on",2420,1516),("next",2421,1530),("last",2422,1537),("nth",2423,1544),("count",2424,1551),("size",2425,1558),("same",2426,1565),("meet",2427,1579),("within",2428,1586),("shorter",2429,1593),("show",2430,1600),("almanac",2431,1607)] (by walk_at"k") (by ac_rfl) rfl),mgo (by walk_at"k"),mgo (by walk_at"k"),mgo (by walk_at"k"),mgo (by walk_at"k"),mgo (by walk_at"k"),mgo (by walk_at"k")⟩
theorem JC:mg "either"=some (.ref kj):=mgo (by walk_at"k")
theorem Y4:mg "unlike"=some (.ref kh):=mgo (by walk_at"k")
theorem co{g n q st ps k sp}(Q:FnG K g n q st)(b:Ig n q st ps)(o:∀{f:Addr} {fd:FuncData},Fun K n q st f fd->F0 k f fd ps sp):C0 k g ps sp:=eX gX gG Q b o
theorem cm{g n q st ps k sp C CX}(Q:FnM K C g n q st)(b:Ig n q st ps)(o:∀{f:Addr} {fd:FuncData},Fun K n q st f fd->FW P w K mg base CX k f fd ps sp):mK P w K mg base CX k C g ps sp:=wQ Q b o
theorem ci{n q st ps k sp C CX x}(m:PySem.W.makesIn K C=true)(p:PySem.W.keepIn K (.ref C)=true)(e:PySem.W.nsIn K mainGlobals x=some (some (.ref C)))(Q:FnM K C "__init__" n q st)(b:Ig n q st ps)(o:∀{f:Addr} {fd:FuncData},Fun K n q st f fd->FW P w K mg base CX k f fd ps sp):mL P w K mg base CX k x C ps sp:=wR gX gG m p e Q b o
theorem co'{g n q ps k sp}(N:List Str)(st:Stmt)(o:∀{f:Addr} {cdv:Value} {A:Around} {outer:List Env} {s:Shared} (nd:N.Nodup) (H:Hp) (vs:List V) (Q:VK) (E:XK),Eu k (A.deeper (envOfC q (BZ st) s.heap.objs.size f cdv))->sp vs H Q E->∃t,PSs (Vs CX0 P w K mg base N q (BZ st) f cdv A outer s H E).nox (Dl st) t/\t { nx:=fun _ H'=>Q .non H',rt:=Q } (start N vs) H)(len:∀{vs H Q E},sp vs H Q E->vs.length=ps.length:=by fail "l")(S:DP N ps (BZ st):=by walk_at"s")(Q:FnG K g n q st:=by walk_at"g")(b:Ig n q st ps:=by walk_at"b"):C0 (k+1) g ps sp:=co Q b fun F=>F.ok S len o
theorem cm'{g n q ps k sp C}(N:List Str)(st:Stmt)(o:∀{f:Addr} {cdv:Value} {A:Around} {outer:List Env} {s:Shared} (nd:N.Nodup) (H:Hp) (vs:List V) (Q:VK) (E:XK),Eu k (A.deeper (envOfC q (BZ st) s.heap.objs.size f cdv))->sp vs H Q E->∃t,PSs (Vs CX0 P w K mg base N q (BZ st) f cdv A outer s H E).nox (Dl st) t/\t { nx:=fun _ H'=>Q .non H',rt:=Q } (start N vs) H)(len:∀{vs H Q E},sp vs H Q E->vs.length=ps.length:=by fail "l")(S:DP N ps (BZ st):=by walk_at"s")(Q:FnM K C g n q st:=by walk_at"h")(b:Ig n q st ps:=by walk_at"b"):CM0 (k+1) C g ps sp:=cm Q b fun F=>F.ok S len o
theorem ci'{n q ps k sp C x}(N:List Str)(st:Stmt)(o:∀{f:Addr} {cdv:Value} {A:Around} {outer:List Env} {s:Shared} (nd:N.Nodup) (H:Hp) (vs:List V) (Q:VK) (E:XK),Eu k (A.deeper (envOfC q (BZ st) s.heap.objs.size f cdv))->sp vs H Q E->∃t,PSs (Vs CX0 P w K mg base N q (BZ st) f cdv A outer s H E).nox (Dl st) t/\t { nx:=fun _ H'=>Q .non H',rt:=Q } (start N vs) H)(len:∀{vs H Q E},sp vs H Q E->vs.length=ps.length:=by fail "l")(S:DP N ps (BZ st):=by walk_at"s")(m:PySem.W.makesIn K C=true:=by walk_at"k")(p:PySem.W.keepIn K (.ref C)=true:=by walk_at"k")(e:PySem.W.nsIn K mainGlobals x=some (some (.ref C)):=by walk_at"k")(Q:FnM K C "__init__" n q st:=by walk_at"h")(b:Ig n q st ps:=by walk_at"b"):CI0 (k+1) x C ps sp:=ci m p e Q b fun F=>F.ok S len o
theorem Cj:C0 1 "refuse_below_one" ["number"] nq:=by
 refine co' ["number"] Lz fun nd H vs Q E hr h=>?_;obtain⟨n,rfl,hn,q⟩:=h;refine⟨_,(Ad (Ay (Ai FZ (pv 0) Ae (Am _))
  (Ad Bc)
  Ao)),?_⟩
 symm;exists CJ (by lia) ?_;exact q
theorem Es:C0 1 "refuse_too_long" ["size"] jJ:=by
 refine co' ["size"] Mq fun nd H vs Q E hr h=>?_;obtain⟨n,rfl,hn,q⟩:=h;refine⟨_,(Ad (Ay (Ai Fq (pv 0) (By rfl j5 (DG _ _)) (Am _))
  (Ad Bc)
  Ao)),?_⟩
 symm;exists CJ (by lia) ?_;exact q
theorem fK:C0 1 "equation" ["one","other"] ADk:=by
 refine co' ["one","other","row","below","times","rest"] cT fun nd H vs Q E hr h=>?_;obtain⟨a,b,rfl,ha,hb,q⟩:=h;refine⟨_,(Ab (Ah 2 (BW (Aa Ae (Aa Ae (Aa (pv 0) Ac)))))
  (Ab (Ah 3 (BW (Aa Ae (Aa Ae (Aa (pv 1) Ac)))))
  (Ab (HH PassesOwn.never (Ai GJ (pxT 3) Ae (Am _))
   (Ab (Ah 4 (Af pX (pxT 2) (pxT 3)))
  (Ab (Ah 5 (BW (Aa (Af CG (pxT 2) (Af CP (pv 4) (pxT 3))) (Aa (Af CG (pxT 2) (Af CP (pv 4) (pxT 3))) (Aa (Af CG (pxT 2) (Af CP (pv 4) (pxT 3))) Ac)))))
  (Ab (Ah 2 (pv 3))
  (Ad (Ah 3 (pv 5)))))))
  (Ab (Ay (Ai FZ (pxT 2) Ae (Am _))
   (Ad (Al (BW (Aa (GZ Ei (pxT 2)) (Aa (GZ Ei (pxT 2)) (Aa (GZ Ei (pxT 2)) Ac))))))
   Ao)
  (Ad (Al (pv 2))))))),?_⟩
 symm;exists⟨three,fun p1 hp1=>?_⟩;exists⟨three,fun p2 hp2=>?_⟩;have n12:p1≠p2:=fun z=>by rw[<-z,An] at hp2;cases hp2
 refine⟨fun m Z' H'=>∃(pr pb:Addr) (u v r u' v' r':Int) (t1 t2:Option V),Z'=[some (.int a),some (.int b),some (.ref pr),some (.ref pb),t1,t2]/\Av H H'/\
  H' pr=some (.tup [.int u,.int v,.int r])/\H' pb=some (.tup [.int u',.int v',.int r'])/\EqI a b u v r u' v' r'/\m=r'.natAbs,
  ⟨_,p1,p2,1,0,a,0,1,b,none,none,rfl,(Ax hp1 _).trans (Ax hp2 _),by rw[BK n12];exact An,An,EqI.start a b,rfl⟩,?_⟩
 rintro m Z' H' ⟨pr,pb,u,v,r,u',v',r',t1,t2,rfl,sm,hpr,hpb,I,rfl⟩;have B:=I.bounds;have br:=ABQ (m:=510) ha hb (show r.natAbs<=a.natAbs+b.natAbs+4 by lia) (by decide);have br':=iu (m:=510) hb (show r'.natAbs<=4*b.natAbs+4 by lia) (by decide);have bu':=iu (m:=510) hb (show u'.natAbs<=4*b.natAbs+4 by lia) (by decide);have bv':=iu (m:=510) ha (show v'.natAbs<=4*a.natAbs+4 by lia) (by decide);symm;exists Ar (SqT.of hpb) bD ?_;by_cases hz:r'=0
 ·subst hz;refine Gf rfl ?_;have D:=I.done;symm;exists Ar (SqT.of hpr) bD ?_;refine CK (fun c=>?_) (fun c=>?_)
  ·symm;exists Ar (SqT.of hpr) ABX ?_;exists Ar (SqT.of hpr) ABW ?_;exists Ar (SqT.of hpr) bD ?_;refine⟨three,fun p hp=>?_⟩;exact q p _ _ _ _ (sm.trans (Ax hp _)) An (D.1 c)
  ·symm;exact q pr _ _ _ _ sm hpr (D.2 c)
 ·refine Z8 (fun z=>hz (V.int.inj z)) ?_;refine⟨_,fun Z' H' hh=>hh,?_⟩;have St:=I.step hz;have bq:=iu (m:=520) br (show (r.fdiv r').natAbs<=4*r.natAbs+4 by have:=cZ (r:=r) hz;lia) (by decide);symm;exists Ar (SqT.of hpr) bD ?_;refine Ar (SqT.of hpb) bD ?_;exists Ds ⟨hz,br'.mono (by decide)⟩ ?_;exists Ar (SqT.of hpr) ABX ?_;refine Ar (SqT.of hpb) ABX ?_;exists Ds ⟨520,510,bq,bu',by decide⟩ ?_;exists Ar (SqT.of hpr) ABW ?_;refine Ar (SqT.of hpb) ABW ?_;exists Ds ⟨520,510,bq,bv',by decide⟩ ?_;exists Ar (SqT.of hpr) bD ?_;refine Ar (SqT.of hpb) bD ?_;exists Ds ⟨520,510,bq,br',by decide⟩ ?_;exists⟨three,fun p hp=>?_⟩;exact⟨_,St.2,pb,p,u',v',r',_,_,_,_,_,rfl,sm.trans (Ax hp _),(Ax hp _) _ _ hpb,An,St.1,rfl⟩
theorem Wr:C0 2 "divisor" ["one","other"] jP:=by
 refine co' ["one","other"] jf fun nd H vs Q E hr h=>?_;obtain⟨a,b,rfl,ha,hb,q⟩:=h;exists⟨_,(Ad (Al (Dy MT (Ag fK (Aa (pv 0) (Aa (pv 1) Ac))) Ae (fun _ _=>rfl)))),?_⟩;exists⟨a,b,rfl,ha,hb,fun p u v g H' sm hp e=>?_⟩;refine Ar (SqT.of hp) bD ?_;rw[e.gd];exact q _ sm
theorem Uu:C0 3 "common" ["one","other"] oM:=by
 refine co' ["one","other"] oX fun nd H vs Q E hr h=>?_;obtain⟨a,b,rfl,a0,b0,ha,hb,q⟩:=h;refine⟨_,(Ab (Bh (Ag Cj (Aa (pv 0) Ac)))
  (Ab (Bh (Ag Cj (Aa (pv 1) Ac)))
  (Ad (Al (Af CP (Af Bg (pv 0) (Ag Wr (Aa (pv 0) (Aa (pv 1) Ac)))) (pv 1)))))),?_⟩
 symm;exists⟨a,rfl,by lia,?_⟩;exists⟨b,rfl,by lia,?_⟩;refine⟨a,b,rfl,ha,hb,fun H' sm=>?_⟩;have g0:=K6 (b:=b) a0;have g1:=dw (b:=b) a0;exists Ds ⟨g0,(ha.le (x:=(Int.gcd a b:Int)) (by lia)).mono (by decide)⟩ ?_;have d0:0<=a/(Int.gcd a b:Int):=jg0 (by lia) (by lia);have d1:a/(Int.gcd a b:Int)<=a:=je7 _ (by lia);refine Ds ⟨500,500,ha.le (by lia),hb,by decide⟩ ?_;exact q _ sm
theorem Ji:C0 2 "round_by" ["size","days"] (jL K):=by
 refine co' ["size","days","pieces","day","bits","number","place"] cD fun nd H vs Q E hr h=>?_;obtain⟨a,ds,n,rfl,hS,n0,n1,fin⟩:=h;refine⟨_,(Ab (Bh (Ag Cj (Aa (pv 0) Ac)))
  (Ab (Bh (Ag Es (Aa (pv 0) Ac)))
  (Ab (Ah 2 (Af dG (FQ (Aa Ae Ac)) (Af Bb (Af Bg (pv 0) (By rfl Ij (DG _ _))) Ae)))
  (Ab (Ir PassesOwn.never rfl (Fe (pv 1)) (Cm (i:=3) nd rfl (by walk_at"o"))
   (Ab (Ah 6 (Af Br (pv 3) (pv 0)))
  (Ad (Ox (Af Z0 (Dy GR (pv 2) (Af Bg (pv 6) (By rfl Ij (DG _ _))) (fun _ _=>rfl)) (Af M7 Ae (Af Br (pv 6) (By rfl Ij (DG _ _))))) (pI (pv 2) (Af Bg (pv 6) (By rfl Ij (DG _ _))) set_list)))))
  (Ab (Ah 4 Ae)
  (Ab (Ir PassesOwn.never rfl (O1 rfl JQ (Aa (BX Bo rfl Eh xo (Aa (pv 2) Ac)) Ac)) (Cm (i:=5) nd rfl (by walk_at"o"))
   (Ad (Ah 4 (Af Z0 (pv 4) (Af M7 (Dy GR (pv 2) (pv 5) (fun _ _=>rfl)) (Af CP (pv 5) (By rfl Ij (DG _ _))))))))
  (Ad (Al (BW (Aa (pv 0) (Aa (pv 4) Ac))))))))))),?_⟩
 symm;exists⟨n,rfl,by lia,?_⟩;exists⟨n,rfl,n1,?_⟩;refine⟨(by show 1<=sizeLine;decide),fun l0 hl0=>?_⟩;symm;refine cW An (by lia) (by lia) (by show 1*_<=sizeLine;unfold sizeLine;lia) (fun l hl=>?_);have s0:=Ax hl0 (.lst [.int 0]);have s1:=s0.trans (Ax hl (.lst (List.replicate (n/256+1).toNat [V.int 0]).flatten));have t1:upd (upd H l0 (.lst [.int 0])) l (.lst (List.replicate (n/256+1).toNat [V.int 0]).flatten) l=some (.lst (Tj 0 (n/256+1).toNat)):=by rw[An,jo]
 have hl':H l=none:=s0.free hl;generalize upd (upd H l0 (.lst [.int 0])) l (.lst (List.replicate (n/256+1).toNat [V.int 0]).flatten)=H1 at s1 t1 ⊢;generalize hk:(n/256+1).toNat=k at t1;symm;refine⟨a,rfl,⟨_,s1.seq hS⟩,JM (xs:=ds.map V.int) (fun i Z' H'=>Av H H'/\Ex3 fun(b:Nat) (c c':Option V)=>An3 (H' l=some (.lst (Tj b k))) (Z'=[some (.int n),some (.ref a),some (.ref l),c,none,none,c']) (RB n (ds.take i) b)) ⟨s1,0,none,none,t1,rfl,?_⟩ ?_ ?_ ?_⟩
 ·simpa using RB.nil n
 ·rintro i Z' H' _ ⟨s,_⟩;exact s.seq hS
 ·rintro i x Z' H' hx ⟨s,b,c,c',t,rfl,B⟩;rw[zo] at hx;obtain⟨d,hd,rfl⟩:=xz.mp hx;have m0:=zh d (show n≠0 by lia);have m1:=qk d (show 0<n by lia);symm;have B':=B.snoc (x:=d) (by lia);obtain⟨p,hp⟩:∃p:Nat,d%n=(p:Int):=⟨(d%n).toNat,by lia⟩;rw[hp,xi] at B';rw[hp] at m1 ⊢;have e1:(p:Int)/256=((p/256:Nat):Int):=by lia
  have e2:(p:Int)%256=((p%256:Nat):Int):=by lia
  rw[e1];have pk:p/256<k:=by lia
  exists BL (SqL.of t) (Dm (Mz pk)) ?_;rw[e2];exists Ds ⟨by lia,1,bt1,by lia⟩ ?_;rw[xi,pF,G9]
  try rw[e1]
  refine gU t (by rw[My];exact pk) ?_;rw[pN pk];refine⟨Ek hl' s,_,_,_,An,rfl,?_⟩;rw[vk,hd];exact B'
 ·rintro Z' H2 ⟨s2,b,c,c',t2,rfl,B⟩;rw[js,Qr] at B;symm;walk_at"f";symm;exists⟨l,_,rfl,.inl (SqL.of t2),?_⟩;rw[My];refine⟨(k:Int),rfl,by lia,by lia,lA (n:=((k:Int)).toNat) (fun i Z' H'=>H'=H2/\∃(c1:Option V),Z'=[some (.int n),some (.ref a),some (.ref l),c,some (.int ((b%2^(256*i):Nat):Int)),c1,c']/\i<=k) ⟨rfl,none,?_,by lia⟩ ?_ ?_⟩
  ·rw[jp0,Nat.pow_zero,Nat.mod_one];rfl
  ·rintro i Z' H' hi ⟨rfl,c1,rfl,_⟩;have ik:i<k:=by lia
   symm;rw[jo8];exists BL (SqL.of t2) (Dm (Mz ik)) ?_;refine Ds ⟨20,10,Iz (by lia),(by unfold Bt;decide),by decide⟩ ?_;symm;exists Ds ⟨by lia,256,Iz (ACr _ _),by lia⟩ ?_;rw[show ((i:Int)*256).toNat=256*i by lia,SM,G9,vL];exact⟨rfl,_,rfl,by lia⟩
  ·rintro Z' H' ⟨rfl,c1,rfl,_⟩;symm;have e:256*((k:Int)).toNat=256*(n/256+1).toNat:=by lia
   rw[e,u6 (by lia) B.lt];refine⟨Hz,fun p hp=>?_⟩;exact fin p b _ (s2.trans (Ax hp _)) An B
theorem GP:C0 1 "full_bits" ["size"] zR:=by
 refine co' ["size"] Zj fun nd H vs Q E hr h=>?_;obtain⟨n,rfl,h0,h1,q⟩:=h;exists⟨_,(Ad (Al (Af CG (Af M7 Ae (pv 0)) Ae))),?_⟩;refine Ds ⟨h0,1,(by unfold Bt;decide),by lia⟩ ?_;symm;rw[km];exact q
theorem Ws:C0 2 "days_in" ["turn"] ACW:=by
 refine co' ["turn","days","first","piece"] jg fun nd H vs Q E hr h=>?_;obtain⟨a,n,b,rfl,R,q⟩:=h;have h0:=R.p;have h1:=R.l;refine⟨_,(Ab (Ah 1 (FQ Ac))
  (Ab (Ir PassesOwn.never rfl (WK rfl JQ (Aa Ae (Aa (pxT 0) (Aa (By rfl Ij (DG _ _)) Ac)))) (Cm (i:=2) nd rfl (by walk_at"o"))
   (Ab (Ah 3 (Af IV (Af MK (pxT 0) (pv 2)) (Ag GP (Aa (By rfl Ij (DG _ _)) Ac))))
  (Ad (Ej (Ay (Ai Fq (pv 3) Ae (Am _))
   (Ad (Bh (Ge Zs jc6 jc7 JL (pv 1) (Aa (El rfl (Dv ["turn","days","first","piece"] ["turn","days","first","piece"] rfl rfl (by with_unfolding_all rfl) (by ac_rfl) rfl (by ac_rfl) rfl (by ac_rfl) (by walk_at"fm") (by with_unfolding_all rfl) (by with_unfolding_all rfl)) (O1 rfl JQ (Aa (By rfl Ij (DG _ _)) Ac)) (fun _ _ _ _=>(Tg (AAQ (Af IV (Af MK (pv 4) (pv 0)) Ae) (fun _=>rfl)))) (fun _ _ _ _=>(Af Bb (pv 3) (pv 0)))) Ac))))
   Ao)))))
  (Ad (Al (pv 1))))),?_⟩
 symm;refine⟨(by show 0<=sizeLine;decide),fun l hl=>?_⟩;exists fresh hl fun H1 s1 t1=>?_;walk_at"f";symm;exists Ar (SqT.of (R.same s1).s) at0 ?_;refine⟨0,n,256,rfl,by decide,by decide,Lx (by decide) (by decide) (by lia) (by lia) (by decide) (by decide),((n-1)/256+1).toNat,?_,?_⟩
 ·rw[Jb (by decide),ya h0,show n-0-1=n-1 by lia];lia
 refine UJ (fun i Z' H'=>Av H H'/\Ex3 fun(ds:List Int) (c c':Option V)=>An4 (H' l=some (.lst (ds.map V.int))) (ds.length<=256*i) (i<=700) (Z'=[some (.ref a),some (.ref l),c,c'])) ⟨s1,[],none,none,t1,by decide,by decide,rfl⟩ ?_ ?_
 ·rintro i Z' H2 hi ⟨s2,ds,c,c',t2,dl,_,rfl⟩;have i1:i<700:=by lia
  symm;exists Ar (SqT.of (R.same s2).s) at1 ?_;exists Ds (show (0:Int)<=0+(i:Int)*256 by lia) ?_;exists⟨256,rfl,by decide,by decide,?_⟩;exists EY (fun Z' H'=>Av H H'/\Ex3 fun(ds:List Int) (c c':Option V)=>An4 (H' l=some (.lst (ds.map V.int))) (ds.length<=256*(i+1)) (i+1<=700) (Z'=[some (.ref a),some (.ref l),c,c'])) ?_ (fun Z' H' h=>h);refine CK (fun _=>?_) (fun p0=>?_)
  rotate_left
  ·symm;exact⟨s2,ds,_,_,t2,by lia,by lia,rfl⟩
  symm;exists Ov rfl t2 ?_;exists Fb (Xx ?_);refine⟨256,rfl,by decide,by decide,?_⟩;refine Gh mW (by rw[js,Zl];exact Cw (by decide)) (fun D j ys H4=>H4 D=some (.lst ys)/\Av H2 H4/\∃es:List Int,ys=es.map V.int/\es.length<=j) (fun D hD=>⟨An,Ax hD _,[],rfl,qq _⟩)
   (fun D j ys H4 _ ⟨g1,g2,es,g3,g4⟩=>⟨g1,by rw[g3,js];exact g4,trivial⟩) (fun D j v ys H4 hD hx ⟨g1,g2,es,g3,g4⟩=>?_) (fun D ys H4 hD ⟨g1,g2,es,g3,g4⟩=>?_)
  ·rw[zo] at hx;obtain⟨e,_,rfl⟩:=xz.mp hx;symm;exists Ds (show (0:Int)<=0+(e:Int) by lia) ?_;generalize (Builtin.bitAnd _ 1 != 0)=t;cases t with
   | true=>
    exists FT ?_;exact⟨g1,An,Ek hD g2,es++[_],by rw[uk,g3];rfl,by rw[qr];exact Nat.succ_le_succ g4⟩
   | false=>exact En ⟨g1,g2,es,g3,Nat.le_succ_of_le g4⟩
  subst g3;rw[js,Zl] at g4;have g4:es.length<=256:=g4;symm;refine⟨l,D,_,_,rfl,rfl,g2 _ _ t2,g1,by rw[js,js];exact zw (show _<=200000 by lia) (by decide),?_⟩;rw[<-uk];symm;exact⟨Ek hl (s2.trans g2),ds++es,_,_,An,by rw[qr];lia,by lia,rfl⟩
 ·rintro Z' H2 ⟨s2,ds,c,c',t2,dl,_,rfl⟩;symm;exact q l ds H2 s2 t2 (by lia)
theorem Gr:C0 2 "bits_by" ["turn","size"] (V7 K):=by
 refine co' ["turn","size","bits","width"] ji fun nd H vs Q E hr h=>?_;obtain⟨a,n,z,b,rfl,hS,h0,h1,hb,z0,z1,q⟩:=h;refine⟨_,(Ab (Ah 2 (pxT 0))
  (Ab (Ah 3 (pxT 0))
  (Ab (HH PassesOwn.never (Ai FZ (pv 3) (pv 1) (Am _))
   (Ab (Ah 2 (Af Z0 (pv 2) (Af M7 (pv 2) (pv 3))))
  (Ad (Ah 3 (Af CP (pv 3) Ae)))))
  (Ad (Al (Af IV (pv 2) (Ag GP (Aa (pv 1) Ac)))))))),?_⟩
 symm;exists Ar hS at1 ?_;exists Ar hS at0 ?_;refine⟨fun m Z' H'=>H'=H/\∃wd c:Nat,Z'=[some (.ref a),some (.int z),some (.int (c:Int)),some (.int (wd:Int))]/\n.toNat∣wd/\0<wd/\wd<=300000/\N8 n.toNat b wd c/\m=z.toNat-wd,
  ⟨_,rfl,n.toNat,b,?_,Nat.dvd_refl _,by lia,by lia,N8.start hb,rfl⟩,?_⟩
 ·have e:((n.toNat:Nat):Int)=n:=by lia
  rw[e]<;>rfl
 rintro m Z' H' ⟨rfl,wd,c,rfl,hd,w0,w1,S,rfl⟩;symm;refine CK (fun cc=>?_) (fun cc=>?_)
 ·exists⟨_,fun Z' H' hh=>hh,?_⟩;exists Ds ⟨by lia,wd,Iz S.lt,by lia⟩ ?_;refine Ds ⟨20,2,Iz (by lia),(by unfold Bt;decide),by decide⟩ ?_;symm;rw[xi,SM,G9];refine⟨z.toNat-wd*2,by lia,rfl,wd*2,c ||| (c <<< wd),?_,Nat.dvd_trans hd (Nat.dvd_mul_right _ _),by lia,by lia,S.dbl hd,rfl⟩;rfl
 ·symm;exists⟨z,rfl,by lia,by lia,?_⟩;rw[Ey];exact q _ (S.cut (by lia))
theorem Er:C0 3 "stretched" ["turn","size"] ABz:=by
 refine co' ["turn","size"] ZW fun nd H vs Q E hr h=>?_;obtain⟨a,n,z,b,rfl,R,z0,z1,hd,q⟩:=h;refine⟨_,(Ab (Bh (Ag Cj (Aa (pv 1) Ac)))
  (Ab (Ay (Ai GJ (Af Br (pv 1) (pxT 0)) Ae (Am _))
   (Ad Bc)
   Ao)
  (Ab (Bh (Ag Es (Aa (pv 1) Ac)))
  (Ad (Al (BW (Aa (pv 1) (Aa (Ag Gr (Aa (pv 0) (Aa (pv 1) Ac))) Ac)))))))),?_⟩
 symm;exists⟨z,rfl,by lia,?_⟩;refine Ar (SqT.of R.s) at0 ?_;exists Ds R.p ?_;rw[Int.emod_eq_zero_of_dvd hd];exists Gf rfl ?_;exists⟨z,rfl,z1,?_⟩;exists R.bi z0 z1 fun c lt=>?_;exact⟨Hz,fun p hp=>q.mk hp z0 z1 lt⟩
theorem Ex:C0 4 "common_size" ["one","other"] ADl:=by
 refine co' ["one","other","size"] Vi fun nd H vs Q E hr h=>?_;obtain⟨a1,a2,n1,n2,b1,b2,rfl,R1,R2,lz,q⟩:=h;have p1:=R1.p;have p2:=R2.p;have l1:=R1.l;have l2:=R2.l;refine⟨_,(Ab (Ah 2 (Ag Uu (Aa (pxT 0) (Aa (pxT 1) Ac))))
  (Ab (Bh (Ag Es (Aa (pv 2) Ac)))
  (Ad (Al (pv 2))))),?_⟩
 symm;exists Ar (SqT.of R1.s) at0 ?_;exists Ar (SqT.of R2.s) at0 ?_;exists⟨n1,n2,rfl,p1,p2,Bx (by lia) (by lia) (by decide),Bx (by lia) (by lia) (by decide),fun H1 s1=>?_⟩;exists⟨_,rfl,lz,?_⟩;exact q _ s1
theorem Kh:C0 5 "both" ["one","other"] Qh:=by
 refine co' ["one","other","size"] zq fun nd H vs Q E hr h=>?_;obtain⟨a1,a2,n1,n2,b1,b2,rfl,R1,R2,lz,q⟩:=h;have fl:=Bv R1.p R2.p;refine⟨_,(Ab (Ah 2 (Ag Ex (Aa (pv 0) (Aa (pv 1) Ac))))
  (Ad (Al (BW (Aa (pv 2) (Aa (Af IV (Ag Gr (Aa (pv 0) (Aa (pv 2) Ac))) (Ag Gr (Aa (pv 1) (Aa (pv 2) Ac)))) Ac)))))),?_⟩
 symm;exists⟨a1,a2,n1,n2,b1,b2,rfl,R1,R2,lz,fun H1 s1=>?_⟩;exists(R1.same s1).bi fl.1 lz fun c1 t1=>?_;exists(R2.same s1).bi fl.1 lz fun c2 t2=>?_;rw[Ey];exact⟨Hz,fun p hp=>(q.of s1).mk hp fl.1 lz (Nat.and_lt_two_pow _ t2)⟩
theorem Us:C0 5 "either" ["one","other"] Qh:=by
 refine co' ["one","other","size"] oW fun nd H vs Q E hr h=>?_;obtain⟨a1,a2,n1,n2,b1,b2,rfl,R1,R2,lz,q⟩:=h;have fl:=Bv R1.p R2.p;refine⟨_,(Ab (Ah 2 (Ag Ex (Aa (pv 0) (Aa (pv 1) Ac))))
  (Ad (Al (BW (Aa (pv 2) (Aa (Af Z0 (Ag Gr (Aa (pv 0) (Aa (pv 2) Ac))) (Ag Gr (Aa (pv 1) (Aa (pv 2) Ac)))) Ac)))))),?_⟩
 symm;exists⟨a1,a2,n1,n2,b1,b2,rfl,R1,R2,lz,fun H1 s1=>?_⟩;exists(R1.same s1).bi fl.1 lz fun c1 t1=>?_;exists(R2.same s1).bi fl.1 lz fun c2 t2=>?_;rw[G9];exact⟨Hz,fun p hp=>(q.of s1).mk hp fl.1 lz (Nat.or_lt_two_pow t1 t2)⟩
theorem aL:C0 5 "unlike" ["one","other"] Qh:=by
 refine co' ["one","other","size"] oU fun nd H vs Q E hr h=>?_;obtain⟨a1,a2,n1,n2,b1,b2,rfl,R1,R2,lz,q⟩:=h;have fl:=Bv R1.p R2.p;refine⟨_,(Ab (Ah 2 (Ag Ex (Aa (pv 0) (Aa (pv 1) Ac))))
  (Ad (Al (BW (Aa (pv 2) (Aa (Af pU (Ag Gr (Aa (pv 0) (Aa (pv 2) Ac))) (Ag Gr (Aa (pv 1) (Aa (pv 2) Ac)))) Ac)))))),?_⟩
 symm;exists⟨a1,a2,n1,n2,b1,b2,rfl,R1,R2,lz,fun H1 s1=>?_⟩;exists(R1.same s1).bi fl.1 lz fun c1 t1=>?_;exists(R2.same s1).bi fl.1 lz fun c2 t2=>?_;rw[VB];exact⟨Hz,fun p hp=>(q.of s1).mk hp fl.1 lz (Nat.xor_lt_two_pow t1 t2)⟩
theorem Jk:C0 2 "other_days" ["turn"] xZ:=by
 refine co' ["turn"] Xi fun nd H vs Q E hr h=>?_;obtain⟨a,n,b,rfl,R,q⟩:=h;have n0:=R.p;have n1:=R.l;exists⟨_,(Ad (Al (BW (Aa (pxT 0) (Aa (Af pU (pxT 0) (Ag GP (Aa (pxT 0) Ac))) Ac))))),?_⟩;exists Ar (SqT.of R.s) at0 ?_;exists Ar (SqT.of R.s) at1 ?_;exists Ar (SqT.of R.s) at0 ?_;exists⟨n,rfl,by lia,by lia,?_⟩;rw[VB];exact⟨Hz,fun p hp=>q.mk hp n0 n1 (Nat.xor_lt_two_pow R.k (Nat.sub_lt (ki _) (by decide)))⟩
theorem PQ:C0 6 "without" ["one","other"] Qh:=by
 refine co' ["one","other"] jU fun nd H vs Q E hr h=>?_;obtain⟨a1,a2,n1,n2,b1,b2,rfl,R1,R2,lz,q⟩:=h;exists⟨_,(Ad (Al (Ag Kh (Aa (pv 0) (Aa (Ag Jk (Aa (pv 1) Ac)) Ac))))),?_⟩;exists⟨a2,n2,b2,rfl,R2,fun p c H1 s1 R=>?_⟩;exact⟨a1,p,n1,n2,b1,c,rfl,R1.same s1,R,lz,q.of s1⟩
theorem Il:C0 2 "later" ["turn","number"] (gO K):=by
 refine co' ["turn","number","shift","bits"] uo fun nd H vs Q E hr h=>?_;obtain⟨a,n,num,b,rfl,hS,h0,h1,hb,q⟩:=h;refine⟨_,(Ab (Ah 2 (Af Br (pv 1) (pxT 0)))
  (Ab (Ah 3 (Af Z0 (Af M7 (pxT 0) (pv 2)) (Af MK (pxT 0) (Af CG (pxT 0) (pv 2)))))
  (Ad (Al (BW (Aa (pxT 0) (Aa (Af IV (pv 3) (Ag GP (Aa (pxT 0) Ac))) Ac))))))),?_⟩
 have m0:=zh num (show n≠0 by lia);have m1:=qk num h0;symm;refine Ar hS at0 ?_;exists Ds h0 ?_;exists Ar hS at1 ?_;exists Ds ⟨m0,n.toNat,Iz hb,by lia⟩ ?_;exists Ar hS at1 ?_;exists Ar hS at0 ?_;exists Ds (show (0:Int)<=n-num%n by lia) ?_;exists Ar hS at0 ?_;exists Ar hS at0 ?_;exists⟨n,rfl,by lia,by lia,?_⟩;have e:(n-num%n).toNat=n.toNat-(num%n).toNat:=by lia
 rw[SM,JD,G9,Ey,e];refine⟨(by show 2<=sizeLine;decide),fun p hp=>?_⟩;exact q p hp
theorem LC:C0 3 "ones_in" ["bits"] zE:=by
 refine co' ["bits","fields","width","each_second"] jX fun nd H vs Q E hr h=>?_;obtain⟨b,n,rfl,hb,hn,q⟩:=h;refine⟨_,(Ab (Ah 1 (pv 0))
  (Ab (Ah 2 Ae)
  (Ab (HH PassesOwn.never (Ai Fq (Af MK (pv 1) (pv 2)) Ae (Am _))
   (Ab (Ah 3 (Ag Gr (Aa (BW (Aa (Af CP Ae (pv 2)) (Aa (Ag GP (Aa (pv 2) Ac)) Ac))) (Aa (X8 ji2 je2 je3 RZ (pv 1)) Ac))))
  (Ab (Ah 1 (Af Bb (Af IV (pv 1) (pv 3)) (Af IV (Af MK (pv 1) (pv 2)) (pv 3))))
  (Ad (Ah 2 (Af CP Ae (pv 2)))))))
  (Ad (Al (pv 1)))))),?_⟩
 symm;refine⟨fun m Z' H'=>Av H H'/\∃f w:Nat,∃x:Option V,Z'=[some (.int (b:Int)),some (.int (f:Int)),some (.int (w:Int)),x]/\0<w/\w<=300000/\f<2^n/\Dg w f (cnt b n)/\m=n-w,
  ⟨_,Av.refl _,b,1,none,rfl,by decide,by decide,hb,Dg.start n b hb,rfl⟩,?_⟩
 rintro m Z' H1 ⟨s1,f,w,x,rfl,w0,w1,hf,D,rfl⟩;symm;exists Ds (show (0:Int)<=(w:Int) by lia) ?_;rw[xi,JD];refine CK (fun cc=>?_) (fun cc=>?_)
 ·have f1:2^w<=f:=by
   have h1:0<f >>> w:=by lia
   rw[ve] at h1;exact Nat.le_of_not_lt fun z=>by rw[jj7 z] at h1;lia
  have wn:w<n:=by
   refine jb7 fun z=>?_;have:=vc (show 0<2 by decide) z;lia
  have f0:f≠0:=by have:=ki w;lia
  have l1:f<2^(f.log2+1):=Nat.lt_log2_self;have l2:f.log2+1<=n:=by
   have:=Nat.log2_self_le f0;refine jb7 fun z=>?_;have:=vc (show 0<2 by decide) z;lia
  exists⟨_,fun Z' H' hh=>hh,?_⟩;refine Ds ⟨3,20,(by unfold Bt;decide),Iz (by lia),by decide⟩ ?_;symm;exists⟨(w:Int),rfl,by lia,by lia,?_⟩;rw[xi,show(2:Int)*(w:Int)=((2*w:Nat):Int) by lia];refine⟨Hz,fun p hp=>?_⟩;have s2:=Ax hp (.tup [.int ((2*w:Nat):Int),.int ((2^w-1:Nat):Int)]);have t2:upd H1 p (.tup [.int ((2*w:Nat):Int),.int ((2^w-1:Nat):Int)]) p=some (.tup [.int ((2*w:Nat):Int),.int ((2^w-1:Nat):Int)]):=An;generalize upd H1 p (.tup [.int ((2*w:Nat):Int),.int ((2^w-1:Nat):Int)])=H2 at s2 t2 ⊢;symm;rw[Ik f0];symm;refine⟨p,_,_,_,rfl,SqT.of t2,by lia,by lia,?_,by lia,by lia,fun c S=>?_⟩
  ·rw[xi];have:=vc (show 0<2 by decide) (show w<=2*w by lia);have:=ki w;lia
  rw[xi,show(((f.log2+1:Nat):Int)).toNat=f.log2+1 by lia] at S;symm;exists Ds (show (0:Int)<=(w:Int) by lia) ?_;refine Ds ⟨3,20,(by unfold Bt;decide),Iz (by lia),by decide⟩ ?_;symm;have E1:=iK w0 l1 S 0;have E2:=iK w0 l1 S w;rw[Nat.pow_zero,Nat.div_one] at E1;obtain⟨d1,d2⟩:=D.pair w0 E1 E2;rw[xi,JD,ve,Ey,Ey];refine⟨n-2*w,by lia,s1.trans s2,(f &&& c)+(f/2^w &&& c),2*w,some (.int (c:Int)),?_,by lia,by lia,by lia,d1,rfl⟩;rw[jk5];rfl
 ·have fl:f<2^w:=by
   have h1:f >>> w=0:=Nat.eq_zero_of_not_pos fun z=>cc (Int.natCast_pos.mpr z);rw[ve] at h1;exact jb7 fun z=>by
    have:=(Nat.le_div_iff_mul_le (ki w)).mpr (show 1*2^w<=f by lia);lia
  symm;rw[D.last fl];exact q _ s1
theorem Hv:C0 4 "days_ahead" ["turn","day"] (ue K):=by
 refine co' ["turn","day","part"] Xl fun nd H vs Q E hr h=>?_;obtain⟨a,n,d,b,rfl,hS,h0,h1,hb,bd,q⟩:=h;have m0:=zh d (show n≠0 by lia);have m1:=qk d h0;refine⟨_,(Ab (Ah 2 (Af IV (pxT 0) (Ag GP (Aa (Af Br (pv 1) (pxT 0)) Ac))))
  (Ad (Al (Af Bb (Af CP (Af Bg (pv 1) (pxT 0)) (Ag LC (Aa (pxT 0) Ac))) (Ag LC (Aa (pv 2) Ac)))))),?_⟩
 symm;exists Ar hS at1 ?_;refine Ar hS at0 ?_;exists Ds h0 ?_;exists⟨d%n,rfl,m0,by lia,?_⟩;rw[Ey];exists Ar hS at0 ?_;exists Ds (Fg h0 (by lia)) ?_;exists Ar hS at1 ?_;refine⟨b,n.toNat,rfl,hb,by lia,fun H1 s1=>?_⟩;have cl:=Ui b n.toNat;exists Ds ⟨260,20,Mg bd h0,Iz (by lia),by decide⟩ ?_;exists⟨_,(d%n).toNat,rfl,HS _ _,by lia,fun H2 s2=>?_⟩;rw[Ke (c:=b) fun i hi=>Fi _ _ _ hi];exact q _ (s1.trans s2)
theorem Ur:C0 5 "how_many" ["turn","first","end"] (zL K):=by
 refine co' ["turn","first","end"] cP fun nd H vs Q E hr h=>?_;obtain⟨a,n,f',e,b,rfl,hS,h0,h1,hb,b1,b2,q⟩:=h;exists⟨_,(Ad (Al (Af CG (Ag Hv (Aa (pv 0) (Aa (pv 2) Ac))) (Ag Hv (Aa (pv 0) (Aa (pv 1) Ac)))))),?_⟩;exists⟨a,n,e,b,rfl,hS,h0,h1,hb,b2.mono (by decide),fun H1 s1=>?_⟩;exists⟨a,n,f',b,rfl,s1.tup hS,h0,h1,hb,b1.mono (by decide),fun H2 s2=>?_⟩;exact q _ (s1.trans s2)
theorem Jm:C0 6 "gathered" ["turn","barred","step","join"] (ACT mg [("either",Qh),("unlike",Qh)]):=by
 refine co' ["turn","barred","step","join","told","free","stride"] cQ fun nd H vs Q E hr h=>?_;obtain⟨a1,a2,f',n,e,b,c,x,rfl,hxj,hmg,R1,R2,he,q⟩:=h;have n1:=R1.l;refine⟨_,(Ab (Ah 4 (pv 0))
  (Ab (Ah 5 (Ag Jk (Aa (pv 1) Ac)))
  (Ab (Ah 6 (pv 2))
  (Ab (HH PassesOwn.never (Ai FZ (BX Nk rfl fX jj0 (Aa (pv 6) Ac)) (pxT 0) (Am _))
   (Ab (Ah 4 (vK (i:=3) (k:=5) (HW.cons Us (HW.cons aL HW.nil)) (hr.mono (by decide)) rfl (by first | exact Or.inl rfl | exact Or.inr (Or.inl rfl) | exact Or.inr (Or.inr rfl)) (Aa (pv 4) (Aa (Ag Kh (Aa (Ag Il (Aa (pv 4) (Aa (pv 6) Ac))) (Aa (pv 5) Ac))) Ac))))
  (Ab (Ah 5 (Ag Kh (Aa (pv 5) (Aa (Ag Il (Aa (pv 5) (Aa (pv 6) Ac))) Ac))))
  (Ad (Ah 6 (Af CP Ae (pv 6)))))))
  (Ad (Al (pv 4))))))),?_⟩
 symm;exists⟨a2,n,c,rfl,R2,fun pf fc H1 s1 Rf=>?_⟩;refine⟨fun m Z' H'=>Av H H'/\∃(pt pf:Addr) (g fr k:Nat),0<k/\k<=300000/\Rn H' pt n g/\Rn H' pf n fr/\Z'=[some (.ref a1),some (.ref a2),some (.int e),some (.ref f'),some (.ref pt),some (.ref pf),some (.int (e*(k:Int)))]/\m=n.toNat-k,
  ⟨_,s1,a1,pf,b,fc,1,by decide,by decide,R1.same s1,Rf,(by rw[show e*((1:Nat):Int)=e by lia]<;>rfl),rfl⟩,?_⟩
 rintro m Z' H2 ⟨s2,pt,pf,g,fr,k,k0,k1,Rt,Rf,rfl,rfl⟩;have ek:(e*(k:Int)).natAbs=k:=by rcases he with h | h<;>rw[h]<;>lia
 symm;exists⟨_,rfl,?_⟩;exists Ar (SqT.of (R1.same s2).s) at0 ?_;have mulb:∀x:Int,e*x=x\/e*x= -x:=fun x=>by rcases he with h | h<;>rw[h]<;>lia
 refine CK (fun hlt=>?_) (fun hge=>?_)
 ·have kn:(k:Int)<n:=by
   have:=mulb k;split at hlt<;>lia
  exists⟨_,fun Z' H' hh=>hh,?_⟩;exists o8 rfl hxj hmg ?_;exists Rt.la fun p1 c1 H3 s3 Ra=>?_;exists JW.self Ra (Rf.same s3) fun p2 c2 H4 s4 Rb=>?_;refine JW.self (Rt.same (s3.trans s4)) Rb fun p3 c3 H5 s5 Rc=>?_;have s35:=s3.trans (s4.trans s5);symm;exists(Rf.same s35).la fun p4 c4 H6 s6 Rd=>?_;exists JW.self (Rf.same (s35.trans s6)) Rd fun p5 c5 H7 s7 Re=>?_;refine Ds ⟨2,20,Iz (by decide),(by show(e*(k:Int)).natAbs<2^20;rw[ek];lia),by decide⟩ ?_;symm;refine⟨n.toNat-2*k,by lia,s2.trans (s35.trans (s6.trans s7)),p3,p5,c3,c5,2*k,by lia,by lia,Rc.same (s6.trans s7),Re,?_,rfl⟩;rw[show e*((2*k:Nat):Int)=2*(e*(k:Int)) by rw[jn7,jd6];rfl]
 ·symm;exact q pt g H2 s2 Rt
theorem fB:C0 7 "upon" ["R","S"] Qh:=by
 refine co' ["R","S","size","days"] za fun nd H vs Q E hr h=>?_;obtain⟨a1,a2,n1,n2,b1,b2,rfl,R1,R2,lz,q⟩:=h;have fl:=Bv R1.p R2.p;refine⟨_,(Ab (Ah 2 (Ag Ex (Aa (pv 0) (Aa (pv 1) Ac))))
  (Ab (Ah 3 (Ag Er (Aa (pv 0) (Aa (pv 2) Ac))))
  (Ad (Al (Ag Kh (Aa (pv 3) (Aa (Ag Jm (Aa (Ag Er (Aa (pv 1) (Aa (pv 2) Ac))) (Aa (Ag Il (Aa (pv 3) (Aa Ae Ac))) (Aa Ae (Aa (By rfl JC (HD _)) Ac))))) Ac))))))),?_⟩
 symm;refine⟨a1,a2,n1,n2,b1,b2,rfl,R1,R2,lz,fun H1 s1=>?_⟩;generalize Ci n1 n2=z at*
 symm;exists⟨a1,n1,z,b1,rfl,R1.same s1,fl.1,lz,fl.2.1,fun pr cr H2 s2 Ra=>?_⟩;exists⟨a2,n2,z,b2,rfl,R2.same (s1.trans s2),fl.1,lz,fl.2.2.1,fun ps cs H3 s3 Rb=>?_⟩;exists(Ra.same s3).la fun pl cl H4 s4 Rc=>?_;exists⟨ps,pl,_,z,1,cs,cl,_,rfl,jv,JC,Rb.same s4,Rc,.inl rfl,fun pg g H5 s5 Rd=>?_⟩;exact JW.self (Ra.same (s3.trans (s4.trans s5))) Rd (q.of (s1.trans (s2.trans (s3.trans (s4.trans s5)))))
theorem Yi:C0 7 "until" ["R","S"] Qh:=by
 refine co' ["R","S","size","days"] um fun nd H vs Q E hr h=>?_;obtain⟨a1,a2,n1,n2,b1,b2,rfl,R1,R2,lz,q⟩:=h;have fl:=Bv R1.p R2.p;refine⟨_,(Ab (Ah 2 (Ag Ex (Aa (pv 0) (Aa (pv 1) Ac))))
  (Ab (Ah 3 (Ag Er (Aa (pv 0) (Aa (pv 2) Ac))))
  (Ad (Al (Ag Kh (Aa (pv 3) (Aa (Ag Jm (Aa (Ag Er (Aa (pv 1) (Aa (pv 2) Ac))) (Aa (Ag Il (Aa (pv 3) (Aa (GZ Ei Ae) Ac))) (Aa (GZ Ei Ae) (Aa (By rfl JC (HD _)) Ac))))) Ac))))))),?_⟩
 symm;refine⟨a1,a2,n1,n2,b1,b2,rfl,R1,R2,lz,fun H1 s1=>?_⟩;generalize Ci n1 n2=z at*
 symm;exists⟨a1,n1,z,b1,rfl,R1.same s1,fl.1,lz,fl.2.1,fun pr cr H2 s2 Ra=>?_⟩;exists⟨a2,n2,z,b2,rfl,R2.same (s1.trans s2),fl.1,lz,fl.2.2.1,fun ps cs H3 s3 Rb=>?_⟩;exists(Ra.same s3).la fun pl cl H4 s4 Rc=>?_;exists⟨ps,pl,_,z,-1,cs,cl,_,rfl,jv,JC,Rb.same s4,Rc,.inr rfl,fun pg g H5 s5 Rd=>?_⟩;exact JW.self (Ra.same (s3.trans (s4.trans s5))) Rd (q.of (s1.trans (s2.trans (s3.trans (s4.trans s5)))))
theorem rH:C0 7 "till" ["R","S"] Qh:=by
 refine co' ["R","S","size"] zc fun nd H vs Q E hr h=>?_;obtain⟨a1,a2,n1,n2,b1,b2,rfl,R1,R2,lz,q⟩:=h;have fl:=Bv R1.p R2.p;refine⟨_,(Ab (Ah 2 (Ag Ex (Aa (pv 0) (Aa (pv 1) Ac))))
  (Ad (Al (Ag Jm (Aa (Ag Er (Aa (pv 0) (Aa (pv 2) Ac))) (Aa (Ag Er (Aa (pv 1) (Aa (pv 2) Ac))) (Aa Ae (Aa (By rfl JC (HD _)) Ac)))))))),?_⟩
 symm;refine⟨a1,a2,n1,n2,b1,b2,rfl,R1,R2,lz,fun H1 s1=>?_⟩;generalize Ci n1 n2=z at*
 symm;exists⟨a1,n1,z,b1,rfl,R1.same s1,fl.1,lz,fl.2.1,fun pr cr H2 s2 Ra=>?_⟩;exists⟨a2,n2,z,b2,rfl,R2.same (s1.trans s2),fl.1,lz,fl.2.2.1,fun ps cs H3 s3 Rb=>?_⟩;exact⟨pr,ps,_,z,1,cr,cs,_,rfl,jv,JC,Ra.same s3,Rb,.inl rfl,q.of (s1.trans (s2.trans s3))⟩
theorem Uq:C0 8 "nearer_ahead" ["R"] xZ:=by
 refine co' ["R","days","behind","first_nearer"] Sq fun nd H vs Q E hr h=>?_;obtain⟨a,n,b,rfl,R,q⟩:=h;have n1:=R.l;refine⟨_,(Ab (Ah 1 (Ag Ws (Aa (pv 0) Ac)))
  (Ab (Ah 2 (Af YD (Ck FJ (pv 1) (DN Ae) Ed) (El rfl (Dv ["R","days","behind","first_nearer"] ["R","days","behind","first_nearer"] rfl rfl (by with_unfolding_all rfl) (by ac_rfl) rfl (by ac_rfl) rfl (by ac_rfl) (by walk_at"fm") (by with_unfolding_all rfl) (by with_unfolding_all rfl)) (Fe (Ck FJ (pv 1) Ed (DN Ae))) (fun _ _ _ _=>Dq) (fun _ _ _ _=>(Af Bb (pv 0) (Dy HJ (pv 1) Ae))))))
  (Ab (Px (i:=3) nd rfl (by walk_at"o") (xs:=["day","other"]) rfl (Iv ["day","other"] ["R","days","behind","first_nearer"] ["R","days","behind","first_nearer"] rfl rfl (by with_unfolding_all rfl) (by ac_rfl) rfl (by ac_rfl) (by ac_rfl) (by ac_rfl) (by walk_at"fm") (by with_unfolding_all rfl) (by with_unfolding_all rfl)) (gf (c:=false) rfl xM (Aa (pv 1) (Aa (pv 2) Ac))) (fun _ _ _ _=>Dq) (fun _ _ _ _=>(Zv (n:=2) rfl (FP (Cm (i:=0) (show (["day","other","R","days","behind","first_nearer"]:List Str).Nodup from by ac_rfl) rfl (by walk_at"o")) (FP (Cm (i:=1) (show (["day","other","R","days","behind","first_nearer"]:List Str).Nodup from by ac_rfl) rfl (by walk_at"o")) Kz)))) (fun _ _ _ _=>(Af Bb (Af Bg (Af Bb (pv 0) (pv 1)) Ae) Ae)))
  (Ad (Al (Ag rH (Aa (pv 0) (Aa (Ag Ji (Aa (pxT 0) (Aa (pv 3) Ac))) Ac)))))))),?_⟩
 symm;exists⟨a,n,b,rfl,R,fun l ds H1 s1 t1 len=>?_⟩;refine Ga (SqL.of t1) (fun l2 hl2=>?_);rw[lF];refine fresh hl2 fun H2 s2 t2=>?_;exists Fb (JF ?_);refine Ga (SqL.of (s2 _ _ t1)) (fun l3 hl3=>?_);rw[lE,<-List.map_take];refine fresh hl3 fun H3 s3 t3=>?_;have l1:(ds.take 1).length<=1:=jc5 _ _;generalize ds.take 1=d1 at t3 l1;refine⟨l3,rfl,⟨_,SqL.of t3⟩,?_⟩;refine Gh JS (by rw[js];exact Cw (by lia)) (fun D i ys H4=>H4 D=some (.lst ys)/\Av H3 H4/\ys=((d1.take i).map (· +n)).map V.int) (fun D hD=>⟨An,Ax hD _,rfl⟩)
  (fun D i ys H4 _ ⟨h1,h2,h3⟩=>⟨h1,by rw[h3,js,js];exact jc5 _ _,SqL.of (h2 _ _ t3)⟩) (fun D i v ys H4 hD hx ⟨h1,h2,h3⟩=>?_) (fun D ys H4 hD ⟨h1,h2,h3⟩=>?_)
 ·rw[zo] at hx;obtain⟨d,hd,rfl⟩:=xz.mp hx;exists Gu (FT ?_);exists Ar (SqT.of (R.same (s1.trans (s2.trans (s3.trans h2)))).s) at0 ?_;refine⟨h1,An,Ek hD h2,?_⟩;rw[vk,hd,kx,uk,uk,h3];rfl
 rw[js,Qr] at h3;subst h3;symm;refine o7 ((s3.trans h2) _ _ t2) h1 (by rw[js,js,js,jb5];exact zw (show _<=160000 by lia) (by decide)) (fun l5 hl5=>?_);rw[<-uk];refine fresh hl5 fun H5 s5 t5=>?_;have s25:=s2.trans (s3.trans (h2.trans s5));have t15:=s25 _ _ t1;symm;exists Zr (gR ?_);refine⟨l,l5,rfl,⟨_,_,SqL.of t15,SqL.of t5⟩,?_⟩;refine rC (SqL.of t15) (SqL.of t5) (yk (show ds.length<=160000 by lia) (by decide)) (fun x y=>(x+y)/2+1) (fun x y H' Q' h=>?_) (fun D6 H6 hD6 s6 t6=>?_)
 ·symm;exact h
 have s16:=s1.trans (s25.trans s6);symm;exists Ar (SqT.of (R.same s16).s) at0 ?_;exists⟨D6,_,n,rfl,SqL.of t6,R.p,n1,fun p c H7 s7 t7 B=>?_⟩;exact JW.self (R.same (s16.trans s7)) ⟨t7,R.p,n1,B.lt⟩ (q.of (s16.trans s7))
theorem ABN:C0 9 "near" ["R","S"] Qh:=by
 refine co' ["R","S","early"] zj fun nd H vs Q E hr h=>?_;obtain⟨a1,a2,n1,n2,b1,b2,rfl,R1,R2,lz,q⟩:=h;have fl:=Bv R1.p R2.p;have fl':=WQ R1.p R2.p;refine⟨_,(Ab (Ah 2 (Ag Uq (Aa (pv 0) Ac)))
  (Ad (Al (Ag Us (Aa (Ag Yi (Aa (pv 0) (Aa (Ag Kh (Aa (pv 1) (Aa (pv 2) Ac))) Ac))) (Aa (Ag fB (Aa (pv 0) (Aa (Ag PQ (Aa (pv 1) (Aa (pv 2) Ac))) Ac))) Ac)))))),?_⟩
 symm;exists⟨a1,n1,b1,rfl,R1,fun pe e H1 s1 Re=>?_⟩;refine⟨a2,pe,n2,n1,b2,e,rfl,R2.same s1,Re,by rw[<-fl'];exact lz,fun pb cb H2 s2 Rb=>?_⟩;rw[<-fl'] at Rb;generalize Ci n1 n2=z at*
 have lz1:=YS R1.p fl.1 fl.2.1;symm;refine⟨a1,pb,n1,z,b1,cb,rfl,R1.same (s1.trans s2),Rb,by rw[lz1];exact lz,fun pu cu H3 s3 Ru=>?_⟩;rw[lz1] at Ru;have s13:=s1.trans (s2.trans s3);symm;refine⟨a2,pe,n2,n1,b2,e,rfl,R2.same s13,Re.same (s2.trans s3),by rw[<-fl'];exact lz,fun pw cw H4 s4 Rw=>?_⟩;rw[<-fl'] at Rw;symm;refine⟨a1,pw,n1,z,b1,cw,rfl,R1.same (s13.trans s4),Rw,by rw[lz1];exact lz,fun pv cv H5 s5 Rv=>?_⟩;rw[lz1] at Rv;symm;exact JW.self (Ru.same (s4.trans s5)) Rv (q.of (s13.trans (s4.trans s5)))
theorem ADS:C0 8 "kth" ["number","R","S"] ACM:=by
 refine co' ["number","R","S","size","step","ends","days","place","odd"] ACb fun nd H vs Q E hr h=>?_;obtain⟨k,a1,a2,n1,n2,b1,b2,rfl,R1,R2,k0,lz,q⟩:=h;have fl:=Bv R1.p R2.p;refine⟨_,(Ab (Ay (Ai Bl (pv 0) Ae (Am _))
  (Ad Bc)
  Ao)
  (Ab (Ah 3 (Ag Ex (Aa (pv 1) (Aa (pv 2) Ac))))
  (Ab (Ej (Ah 4 (Ea (Ai Fq (pv 0) Ae (Am _)) Ae (GZ Ei Ae))))
  (Ab (Ej (Ah 5 (Ea (Ai Fq (pv 0) Ae (Am _)) (Ag Er (Aa (pv 2) (Aa (pv 3) Ac))) (Ag Il (Aa (Ag Er (Aa (pv 2) (Aa (pv 3) Ac))) (Aa (GZ Ei Ae) Ac))))))
  (Ab (Ah 6 (Ag Er (Aa (pv 1) (Aa (pv 3) Ac))))
  (Ab (Ah 7 (BX Nk rfl fX jj0 (Aa (pv 0) Ac)))
  (Ab (HH PassesOwn.never (PW.pt (Ow (Ai Fq (pv 7) Ae (Am _)) (Ky (Ai Fq (pxT 6) Ae (Am _)))))
   (Ab (Ah 8 (Ag Kh (Aa (pv 6) (Aa (Ag Jm (Aa (pv 6) (Aa (pv 5) (Aa (pv 4) (Aa (By rfl Y4 (HD _)) Ac))))) Ac))))
  (Ab (Ej (Ah 6 (Ea (Ai Bl (Af Br (pv 7) Ae) Ae (Am _)) (pv 8) (Ag PQ (Aa (pv 6) (Aa (pv 8) Ac))))))
  (Ad (Ah 7 (Af Bg (Af Bb (pv 7) Ae) Ae))))))
  (Ad (Al (Ea (Ai Fq (pv 0) Ae (Am _)) (Ag fB (Aa (pv 6) (Aa (pv 5) Ac))) (Ag Yi (Aa (pv 6) (Aa (pv 5) Ac))))))))))))),?_⟩
 symm;exists CJ (fun c=>k0 (by injection c)) ?_;refine⟨a1,a2,n1,n2,b1,b2,rfl,R1,R2,lz,fun H1 s1=>?_⟩;generalize Ci n1 n2=z at*
 symm;refine EY (fun Z' H'=>H'=H1/\∃e:Int,(e=1\/e= -1)/\Z'=[some (.int k),some (.ref a1),some (.ref a2),some (.int z),some (.int e),none,none,none,none]) ?_ ?_
 ·symm;refine CK (fun c=>?_) (fun c=>?_)
  ·symm;exact⟨rfl,_,.inl rfl,rfl⟩
  ·symm;exact⟨rfl,_,.inr rfl,rfl⟩
 rintro Z' H1 ⟨rfl,e,he,rfl⟩;symm;refine EY (fun Z' H'=>Av H1 H'/\Ex2 fun(pe:Addr) (ce:Nat)=>Rn H' pe z ce/\Z'=[some (.int k),some (.ref a1),some (.ref a2),some (.int z),some (.int e),some (.ref pe),none,none,none]) ?_ ?_
 ·symm;refine CK (fun c=>?_) (fun c=>?_)
  ·symm;exists⟨a2,n2,z,b2,rfl,R2.same s1,fl.1,lz,fl.2.2.1,fun ps cs H2 s2 Rs=>?_⟩;exact⟨s2,ps,cs,Rs,rfl⟩
  ·symm;exists⟨a2,n2,z,b2,rfl,R2.same s1,fl.1,lz,fl.2.2.1,fun ps cs H2 s2 Rs=>?_⟩;exists Rs.la fun p c H3 s3 Rp=>?_;exact⟨s2.trans s3,p,c,Rp,rfl⟩
 rintro Z' H2 ⟨s2,pe,ce,Re,rfl⟩;symm;exists⟨a1,n1,z,b1,rfl,R1.same (s1.trans s2),fl.1,lz,fl.2.1,fun pr cr H3 s3 Rr=>?_⟩;refine⟨_,rfl,?_⟩;obtain⟨p0,hp0⟩:∃p0:Int,(if k<0 then -k else k)=p0:=⟨_,rfl⟩;have ap:1<=p0:=by split at hp0<;>lia
 rw[hp0];symm;refine⟨fun m Z' H'=>Av H3 H'/\∃(pd:Addr) (t:Nat) (p:Int) (od:Option V),1<=p/\p<=p0/\Rn H' pd z t/\Z'=[some (.int k),some (.ref a1),some (.ref a2),some (.int z),some (.int e),some (.ref pe),some (.ref pd),some (.int p),od]/\m=p.toNat,
  ⟨_,Av.refl _,pr,cr,p0,none,by lia,by lia,Rr,rfl,rfl⟩,?_⟩
 rintro m Z' H4 ⟨s4,pd,t,p,od,p1,pp,Rd,rfl,rfl⟩;have Re:=Re.same (s3.trans s4);have q:=q.of (s1.trans (s2.trans (s3.trans s4)));symm;refine CK (fun hp=>?_) (fun hp=>?_)
 ·symm;exists Ar (SqT.of Rd.s) at1 ?_;refine CK (fun ht=>?_) (fun ht=>?_)
  ·exists⟨_,fun Z' H' hh=>hh,?_⟩;exists⟨pd,pe,_,z,e,t,ce,_,rfl,qh _ jv,Y4,Rd,Re,he,fun pg g H5 s5 Rg=>?_⟩;exists JW.self (Rd.same s5) Rg fun po c H6 s6 Ro=>?_;refine EY (fun Z' H'=>Av H6 H'/\Ex2 fun(pn:Addr) (t':Nat)=>Rn H' pn z t'/\Z'=[some (.int k),some (.ref a1),some (.ref a2),some (.int z),some (.int e),some (.ref pe),some (.ref pn),some (.int p),some (.ref po)]) ?_ ?_
   ·symm;refine CK (fun o=>?_) (fun o=>?_)
    ·symm;exact⟨Av.refl _,po,c,Ro,rfl⟩
    ·symm;exists JW.self (Rd.same (s5.trans s6)) Ro fun pn t' H7 s7 Rn=>?_;exact⟨s7,pn,t',Rn,rfl⟩
   rintro Z' H7 ⟨s7,pn,t',Rn,rfl⟩;symm;exact⟨_,(by lia:((p+1)/2).toNat<p.toNat),s4.trans (s5.trans (s6.trans s7)),pn,t',(p+1)/2,_,by lia,by lia,Rn,rfl,rfl⟩
  ·symm;refine CK (fun c=>?_) (fun c=>?_)<;>(symm;exact JW.self Rd Re q)
 ·exists En ?_;refine CK (fun c=>?_) (fun c=>?_)<;>(symm;exact JW.self Rd Re q)
theorem wU:C0 6 "every" ["number","R","day"] ACU:=by
 refine co' ["number","R","day","size","days","first","places"] uq fun nd H vs Q E hr h=>?_;obtain⟨k,d,a,n,b,rfl,R,bd,bk,k1,lz,q⟩:=h;have h0:=R.p;have h1:=R.l;have bn:Bt 64 n:=Bx (by lia) (by lia) (by decide);refine⟨_,(Ab (Bh (Ag Cj (Aa (pv 0) Ac)))
  (Ab (Ah 3 (Af CP (pxT 1) (pv 0)))
  (Ab (Bh (Ag Es (Aa (pv 3) Ac)))
  (Ab (Ah 4 (Ag Ws (Aa (pv 1) Ac)))
  (Ab (Ah 5 (Af Br (Ag Ur (Aa (pv 1) (Aa Ae (Aa (pv 2) Ac)))) (pv 0)))
  (Ab (Ah 6 (dD rfl rfl bJ rfl JQ (Aa (pv 5) (Aa (Af CP (BX Bo rfl Eh xo (Aa (pv 4) Ac)) (pv 0)) (Aa (pv 0) Ac)))))
  (Ad (Al (Ag Ji (Aa (pv 3) (Aa (El rfl (Dv ["number","R","day","size","days","first","places"] ["number","R","day","size","days","first","places"] rfl rfl (by with_unfolding_all rfl) (by ac_rfl) rfl (by ac_rfl) rfl (by ac_rfl) (by walk_at"fm") (by with_unfolding_all rfl) (by with_unfolding_all rfl)) (Fe (pv 6)) (fun _ _ _ _=>Dq) (fun _ _ _ _=>(Af Bb (Af CP (Af Bg (pv 0) (BX Uj rfl Eh xo (Aa (pv 5) Ac))) (Dy HJ (pv 2) Ae)) (Dy PB (pv 5) (Af Br (pv 0) (BX Uj rfl Eh xo (Aa (pv 5) Ac))) (fun _ _=>rfl))))) Ac))))))))))),?_⟩
 symm;exists⟨k,rfl,k1,?_⟩;exists Ar (SqT.of R.s) at0 ?_;exists Ds ⟨64,400,bn,bk,by decide⟩ ?_;refine⟨n*k,rfl,lz,?_⟩;have kn:=iH h0 (show 0<k by lia);symm;exists⟨a,n,b,rfl,R,fun ld ds H1 s1 t1 len=>?_⟩;refine⟨a,n,0,d,b,rfl,SqT.of (R.same s1).s,h0,h1,R.k,(by unfold Bt;decide),bd,fun H2 s2=>?_⟩;rw[xH,Int.sub_zero];symm;generalize CC n b d=cc;have f0:=zh cc (show k≠0 by lia);have f1:=qk cc (show 0<k by lia);generalize cc%k=f at f0 f1;have t2:=s2 _ _ t1;refine⟨ld,_,rfl,.inl (SqL.of t2),?_⟩;rw[js];symm;exists Ja ?_;have mk:(ds.length:Int)*k<=(n+256)*k:=ui (by lia) (by lia);rw[jg9] at mk;have mk0:0<=(ds.length:Int)*k:=jd3 (by lia) (by lia);refine⟨f,(ds.length:Int)*k,k,ds.length,.inl rfl,by lia,by lia,Lx (by lia) (by lia) (by lia) (by lia) (by lia) (by lia),?_,by lia,fun lp hlp=>?_⟩
 ·rw[Jb (by lia)];rcases Nat.eq_zero_or_pos ds.length with z | z
  ·rw[z,ua (by simp;lia)];rfl
  ·have e1:(ds.length:Int)*k-f-1=(k-1-f)+k*((ds.length:Int)-1):=by
    rw[Int.mul_sub,ub k];lia
   have e2:k<=(ds.length:Int)*k:=iH (by lia) (by lia);rw[ya (by lia),e1,jf3 _ _ (by lia),ja0 (by lia) (by lia)];lia
 refine fresh hlp fun H3 s3 t3=>?_;have s13:=s1.trans (s2.trans s3);have t2:=s3 _ _ t2;symm;exists Fb (JF ?_);refine⟨lp,rfl,⟨_,SqL.of t3⟩,?_⟩;refine Gh JS (by rw[js,Zl];exact yk (show ds.length<=160000 by lia) (by decide)) (fun D i ys H4=>H4 D=some (.lst ys)/\Av H3 H4/\∃es:List Int,ys=es.map V.int/\es.length=i) (fun D hD=>⟨An,Ax hD _,[],rfl,rfl⟩)
  (fun D i ys H4 _ ⟨g1,g2,es,g3,g4⟩=>⟨g1,by rw[g3,js,g4];exact qq _,SqL.of (g2 _ _ t3)⟩) (fun D i v ys H4 hD hx ⟨g1,g2,es,g3,g4⟩=>?_) (fun D ys H4 hD ⟨g1,g2,es,g3,g4⟩=>?_)
 ·have hi:i<ds.length:=by
   have:=(zn.mp hx).1
   rwa [js,Zl] at this
  rw[zo,List.getElem?_range hi] at hx;obtain rfl:V.int (f+(i:Int)*k)=v:=yv hx;have ik:(i:Int)*k<=(ds.length:Int)*k:=ui (by lia) (by lia);have ik0:0<=(i:Int)*k:=jd3 (by lia) (by lia);have P0:0<=f+(i:Int)*k:=by lia
  have P9:f+(i:Int)*k<=60000000:=by lia
  generalize f+(i:Int)*k=P at*
  have m0:=zh P (show (ds.length:Int)≠0 by lia);have m1:=qk P (show (0:Int)<(ds.length:Int) by lia);obtain⟨x,hx⟩:∃x,ds[(P%(ds.length:Int)).toNat]?=some x:=⟨_,qo (by lia)⟩;have P1:P/(ds.length:Int)<=P:=je7 _ P0;have P2:0<=P/(ds.length:Int):=jg0 P0 (by lia);have t4:=g2 _ _ t2;exists Gu (FT ?_);refine⟨ld,_,rfl,.inl (SqL.of t4),?_⟩;rw[js];symm;exists Ds (Fg (by lia) (by lia)) ?_;refine Ar (SqT.of (R.same (s13.trans g2)).s) at0 ?_;exists Ds ⟨64,64,Bx (by lia) (by lia) (by decide),bn,by decide⟩ ?_;refine⟨ld,_,rfl,.inl (SqL.of t4),?_⟩;rw[js];symm;rw[show P%(ds.length:Int)=(((P%(ds.length:Int)).toNat:Nat):Int) by lia];exists BL (SqL.of t4) (Dm (ABV hx)) ?_;exact⟨g1,An,Ek hD g2,es++[_],by rw[uk,g3];rfl,by rw[qr,g4];rfl⟩
 subst g3;symm;exact⟨D,_,n*k,rfl,SqL.of g1,by lia,lz,fun p c H5 s5 t5 B=>q p c H5 (s13.trans (g2.trans s5)) ⟨t5,by lia,lz,B.lt⟩⟩
theorem lW:C0 1 "term_on" ["term","k"] ni:=by
 refine co' ["term","k"] jV fun nd H vs Q E hr h=>?_;obtain⟨p,k,t,rfl,hp,ok,bk,q⟩:=h;have n0:=ok.n0;have n1:=ok.n1;have a0:=ok.a0;have a1:=ok.a1;exists⟨_,(Ad (Al (Ef pW (Af Bb (Af Br (Af Bb (Af CP (pxT 0) (pv 1)) (pxT 0)) (pxT 0)) (pxT 0)) (pxT 0) (Am _)))),?_⟩;exists Ar (SqT.of hp) rQ ?_;exists Ds ⟨64,400,Bx (by lia) (by lia) (by decide),bk,by decide⟩ ?_;exists Ar (SqT.of hp) ww ?_;exists Ar (SqT.of hp) Vz ?_;exists Ar (SqT.of hp) rQ ?_;exists Ar (SqT.of hp) Vz ?_;exact q
theorem Yk:C0 1 "signs_upto" ["terms","k"] (uG K):=by
 refine co' ["terms","k"] Xf fun nd H vs Q E hr h=>?_;obtain⟨p,k,ts,rfl,T,bk,q⟩:=h;obtain⟨us,hS,hT⟩:=T.ex;exists⟨_,(Ad (Al (BX (Nj rfl) rfl fW jj1 (Aa (El rfl (Dv ["terms","k"] ["terms","k"] rfl rfl (by with_unfolding_all rfl) (by ac_rfl) rfl (by ac_rfl) rfl (by ac_rfl) (by walk_at"fm") (by with_unfolding_all rfl) (by with_unfolding_all rfl)) (Th (pv 0)) (fun _ _ _ _=>Dq) (fun _ _ _ _=>(Af CP (Dy HJ (pv 0) Ae) (Af Bg (Af Bb (Af CP (Dy HJ (pv 0) Ae) (pv 2)) (Dy HJ (pv 0) Ae)) (Dy HJ (pv 0) Ae))))) Ac)))),?_⟩;refine eV rfl hS (by rw[hT.len];exact Cw (by have:=T.few;lia)) (fun v=>((VH H v).map fun _=>true).getD false) (fun v=>((VH H v).map fun t=>V.int (t.1*ctT t k)).getD .non) (fun x hx D ys Q' hD h=>?_) (fun x hx _ D ys Q' hD h=>?_) (fun D hD=>?_)
 ·obtain⟨a,t,rfl,ht,ha⟩:=hT.mem hx;rw[JT ha] at h;exact h
 ·obtain⟨a,t,rfl,ht,ha⟩:=hT.mem hx;rw[JT ha] at h;have ok:=T.ok t ht;have n0:=ok.n0;have n1:=ok.n1;have a0:=ok.a0;have a1:=ok.a1;have sg:=ok.sg;have b0:=ok.b0;have b1:=ok.b1;have ha':=Ax hD (.lst ys) _ _ ha;symm;exists Ar (SqT.of ha') rR ?_;exists Ar (SqT.of ha') rQ ?_;exists Ds ⟨64,400,Bx (by lia) (by lia) (by decide),bk,by decide⟩ ?_;exists Ar (SqT.of ha') ww ?_;refine Ar (SqT.of ha') Vz ?_;refine Ds (Fg (by lia) (by lia)) ?_;have bb:Bt 465 (t.2.1*k+t.2.2.1):=((show Bt 64 t.2.1 from Bx (by lia) (by lia) (by decide)).mul bk).add ((show Bt 64 t.2.2.1 from Bx (by lia) (by lia) (by decide)).mono (by decide));refine Ds ⟨200,465,Ww (by lia) (by lia),Mg bb (by lia),by decide⟩ ?_;exact h
 rw[hT.fm (fun _=>true) fun t=>V.int (t.1*ctT t k),jh0.mpr (fun _ _=>rfl)];have e:(ts.map fun t=>V.int (t.1*ctT t k))=(ts.map fun t=>t.1*ctT t k).map V.int:=by rw[kq];rfl
 rw[e];symm;refine⟨D,_,rfl,SqL.of An,?_⟩;exact q _ (Ax hD _)
theorem lZ:C0 1 "is_term" ["term"] oK:=by
 refine co' ["term"] jd fun nd H vs Q E hr h=>?_;obtain⟨p,t,rfl,hp,ok,q⟩:=h;have n0:=ok.n0;have n1:=ok.n1;have a0:=ok.a0;have a1:=ok.a1;have sg:=ok.sg;have b0:=ok.b0;have b1:=ok.b1;refine⟨_,(Ab (Ay (PW.pt (Ow (Ai GJ (pxT 0) Ae (Am _)) (Ky (Ai GJ (pxT 0) (GZ Ei Ae) (Am _)))))
  (Ad (Al Jz))
  Ao)
  (Ad (Al (Jd (Mx JH JH Ae (pxT 0) (By rfl YQ (DG _ _))) (Jd (Mx JH JH Ae (pxT 0) (pxT 0)) (MJ (Mx JH FZ Ae (pxT 0) (pxT 0)))))))),?_⟩
 symm;exists Ar (SqT.of hp) rR ?_;have rest:True:=trivial;rcases sg with e | e
 ·exists Gf (xk V.int e) (En ?_);exists Ar (SqT.of hp) Vz ?_;exists Gg n0 ?_;rw[decide_eq_true n1];exists FT ?_;exists Ar (SqT.of hp) rQ ?_;exists Gg a0 ?_;exists Ar (SqT.of hp) Vz ?_;rw[decide_eq_true a1];exists FT ?_;exists Ar (SqT.of hp) ww ?_;exists Gg b0 ?_;exists Ar (SqT.of hp) Vz ?_;rw[decide_eq_true b1];exact q
 ·refine Z8 (fun z=>by have:=V.int.inj z;lia) ?_;symm;exists Ar (SqT.of hp) rR ?_;exists Gf (xk V.int e) ?_;exists Ar (SqT.of hp) Vz ?_;exists Gg n0 ?_;rw[decide_eq_true n1];exists FT ?_;exists Ar (SqT.of hp) rQ ?_;exists Gg a0 ?_;exists Ar (SqT.of hp) Vz ?_;rw[decide_eq_true a1];exists FT ?_;exists Ar (SqT.of hp) ww ?_;exists Gg b0 ?_;exists Ar (SqT.of hp) Vz ?_;rw[decide_eq_true b1];exact q
theorem Gx:C0 1 "least_length" ["base","terms"] (uQ K):=by
 refine co' ["base","terms"] Ss fun nd H vs Q E hr h=>?_;obtain⟨p,b,ts,rfl,T,q⟩:=h;obtain⟨us,hS,hT⟩:=T.ex;exists⟨_,(Ad (Al (Af CG (pv 0) (BX Bo rfl Eh xo (Aa (El rfl (GK ["base","terms"] rfl (by ac_rfl) rfl (by ac_rfl) rfl (by ac_rfl) (by ac_rfl)) (Th (pv 1)) (fun _ _ _ _=>(Tg (Ai Bl (Dy HJ (pv 0) Ae) (GZ Ei Ae) (Am _)))) (fun _ _ _ _=>(pv 0))) Ac))))),?_⟩;refine eV rfl hS (by rw[hT.len];exact Cw (by have:=T.few;lia)) (fun v=>((VH H v).map fun t=>decide (t.1= -1)).getD false) (fun v=>v) (fun x hx D ys Q' hD h=>?_) (fun x hx _ D ys Q' hD h=>h) (fun D hD=>?_)
 ·obtain⟨a,t,rfl,ht,ha⟩:=hT.mem hx;rw[JT ha] at h;symm;exists Ar (SqT.of (Ax hD _ _ _ ha)) rR ?_;rw[qz];exact h
 symm;exists⟨D,_,rfl,.inl (SqL.of An),?_⟩;have e:((us.filter fun v=>((VH H v).map fun t=>decide (t.1= -1)).getD false).map fun v=>v).length=(ts.filter fun t=>decide (t.1= -1)).length:=by
  have:=xk List.length (hT.fm (fun t=>decide (t.1= -1)) (fun _=>V.non));rw[js,js] at this;rw[js];exact this
 rw[e];exact q _ (Ax hD _)
theorem PX:C0 2 "refuse_measure" ["base","terms"] (jM K):=by
 refine co' ["base","terms"] Oh fun nd H vs Q E hr h=>?_;obtain⟨p,b,ts,rfl,T,g,q⟩:=h;obtain⟨us,hS,hT⟩:=T.ex;have b0:=g.b0;have b1:=g.b1;have fl:=g.fl;have few:=T.few;refine⟨_,(Ab (Ay (PW.pt (Gv (Ai FZ (pv 0) Ae (Am _)) (Fp (Ai Fq (pv 0) (By rfl Qw (DG _ _)) (Am _)))))
  (Ad Bc)
  Ao)
  (Ab (Ay (Ai Fq (BX Bo rfl Eh xo (Aa (pv 1) Ac)) (By rfl YL (DG _ _)) (Am _))
   (Ad Bc)
   Ao)
  (Ab (Ay (Gw (GD (BX (Ul rfl) rfl mQ jm9 (Aa (El rfl (GK ["base","terms"] rfl (by ac_rfl) rfl (by ac_rfl) rfl (by ac_rfl) (by ac_rfl)) (Th (pv 1)) (fun _ _ _ _=>Dq) (fun _ _ _ _=>(Ag lZ (Aa (pv 0) Ac)))) Ac))))
   (Ad Bc)
   Ao)
  (Ad (Ay (Ai FZ (Ag Gx (Aa (pv 0) (Aa (pv 1) Ac))) Ae (Am _))
   (Ad Bc)
   Ao))))),?_⟩
 symm;exists CJ (by lia) ?_;exists CJ (by lia) ?_;exists⟨p,us,rfl,.inr hS,?_⟩;refine CJ (by rw[hT.len];lia) ?_;symm;refine eV rfl hS (by rw[hT.len];exact Cw (by lia)) (fun _=>true) (fun _=>.bl true) (fun x hx D ys Q' hD h=>h) (fun x hx _ D ys Q' hD h=>?_) (fun D hD=>?_)
 ·obtain⟨a,t,rfl,ht,ha⟩:=hT.mem hx;symm;exact⟨a,t,rfl,Ax hD _ _ _ ha,T.ok t ht,h⟩
 have s1:=Ax hD (.lst ((us.filter fun _=>true).map fun _=>V.bl true));have e:((us.filter fun _=>true).map fun _=>V.bl true)=(us.map fun _=>true).map V.bl:=by
  rw[jh0.mpr (fun _ _=>rfl),kq];rfl
 symm;exists⟨D,us.map (fun _=>true),rfl,SqL.of (by rw[An,e]),?_⟩;rw[show ((us.map fun _=>true).all id)=true from jb4.mpr (fun x hx=>by obtain⟨_,_,rfl⟩:=ka.mp hx;rfl)];exists En ?_;exists⟨p,b,ts,rfl,T.same s1,fun H2 s2=>?_⟩;exists CJ (by lia) ?_;exact q _ (s1.trans s2)
theorem aW:C0 4 "period_of" ["terms"] (oG K):=by
 refine co' ["terms","told","term"] Zc fun nd H vs Q E hr h=>?_;obtain⟨p,ts,rfl,T,q⟩:=h;obtain⟨us,hS,hT⟩:=T.ex;have few:=T.few;have ulen:=hT.len;refine⟨_,(Ab (Ah 1 Ae)
  (Ab (Ir PassesOwn.never rfl (Th (pv 0)) (Cm (i:=2) nd rfl (by walk_at"o"))
   (Ad (Ah 1 (Ag Uu (Aa (pv 1) (Aa (pxT 2) Ac))))))
  (Ad (Al (pv 1))))),?_⟩
 symm;walk_at"f";symm;refine⟨p,rfl,⟨us,hS⟩,wB (xs:=us) (fun i Z' H'=>Av H H'/\∃c:Option V,Z'=[some (.ref p),some (.int (PER (ts.take i))),c]) ⟨Av.refl _,none,rfl⟩ ?_ ?_ ?_⟩
 ·rintro i Z' H' _ ⟨s,_⟩;exact s.tup hS
 ·rintro i x Z' H' hx ⟨s,c,rfl⟩;obtain⟨a,t,rfl,ht,ha⟩:=hT.at hx;have i6:i<6:=by
   have:=(zn.mp ht).1;lia
  obtain⟨h1,h2⟩:=K3 T.ok i (by lia);have h3:=vH (show i<=6 by lia);have ok:=T.ok t (zv ht);have n0:=ok.n0;have n1:=ok.n1;symm;exists Ar (SqT.of (s _ _ ha)) Vz ?_;exists⟨_,_,rfl,h1,by lia,Bx (by lia) (by lia) (by decide),Bx (by lia) (by lia) (by decide),fun H2 s2=>?_⟩;refine⟨s.trans s2,some (.ref a),?_⟩;have e2:PER (ts.take (i+1))=Ci (PER (ts.take i)) t.2.2.2:=by
   unfold PER;rw[vk,ht,kx,List.foldl_append];rfl
  rw[e2]<;>rfl
 ·rintro Z' H' ⟨s,c,rfl⟩;symm;rw[ulen,Qr];exact q _ s
theorem Cv:CM0 2 Ak "upto" ["self","k"] (yo K Ak):=by
 refine cm' ["self","k"] S8 fun nd H vs Q E hr h=>?_;obtain⟨x,p,dx,k,b,ts,fs,rfl,hx,fb,ft,T,b0,b1,bk,q⟩:=h;exists⟨_,(Ad (Al (Af Bb (Af CP (Bf (pv 0) (by rfl)) (pv 1)) (Ag Yk (Aa (Bf (pv 0) (by rfl)) (Aa (pv 1) Ac)))))),?_⟩;exists⟨x,Ak,dx,fs,_,rfl,hx,Aq,CT,fb,?_⟩;exists Ds ⟨64,400,Bx (by lia) (by lia) (by decide),bk,by decide⟩ ?_;exists⟨x,Ak,dx,fs,_,rfl,hx,Aq,CN,ft,?_⟩;exists⟨p,k,ts,rfl,T,bk,fun H' s=>?_⟩;exact q _ s
theorem Ld:DP ["self","base","terms"] ["self","base","terms"] (BZ Gn):=by walk_at"s"
theorem Le{ds:Array Value}(F:Ku K "__init__" "Measure.__init__" Gn f fd ds):F0 5 f fd ["self","base","terms"] (XR K Ak):=by
 refine F.ok (k:=4) Ld (fun h=>?_) fun nd H vs Q E hr h=>?_
 ·obtain⟨x,dx,b,v,us,ts,rfl,_⟩:=h;rfl
 obtain⟨x,dx,b,v,us,ts,rfl,hx,hT,hv,ok,few,g,po,q⟩:=h;refine⟨_,(Ab (Fd (pv 0) (pv 1) (by rfl))
  (Ab (Fd (pv 0) (Ea (Ai IK (pv 2) GF (Am _)) (BW Ac) (BP Iw rfl W6 jl1 (Aa (pv 2) Ac))) (by rfl))
  (Ab (Bh (Ag PX (Aa (Bf (pv 0) (by rfl)) (Aa (Bf (pv 0) (by rfl)) Ac))))
  (Ab (Fd (pv 0) (Ag aW (Aa (Bf (pv 0) (by rfl)) Ac)) (by rfl))
  (Ab (Fd (pv 0) (CZ Cv Aq (pv 0) (Aa (Bf (pv 0) (by rfl)) Ac)) (by rfl))
  (Ad (Ay (Ai Bl (Bf (pv 0) (by rfl)) Ae (Am _))
   (Ad Bc)
   Ao))))))),?_⟩
 symm;refine⟨x,Ak,dx,[],rfl,hx,Aq,CT,by decide,?_⟩;have k1:∀y o,y≠x->H y=some o->upd H x (.ins Ak dx (Dh (Str.ofString "base") (.int b) [])) y=some o:=fun y o hy h=>by rw[BK hy];exact h
 have x1:upd H x (.ins Ak dx (Dh (Str.ofString "base") (.int b) [])) x=some (.ins Ak dx [(Str.ofString "base",.int b)]):=An;generalize upd H x (.ins Ak dx (Dh (Str.ofString "base") (.int b) []))=H1 at k1 x1 ⊢;have tmk:∀{H':Hp},(∀y o,y≠x->H y=some o->H' y=some o)->Tms H' us ts:=fun{H'} k=>by
  have:∀{vs:List V} {ts:List Tm},Tms H vs ts->Tms H' vs ts:=fun{vs ts} h=>by
   induction h with
   | nil=>exact .nil
   | cons h _ ih=>exact .cons (k _ _ (fun e=>by subst e;rw[hx] at h;cases h) h) ih
  exact this hT
 symm;rcases hv with ⟨rfl,eu⟩ | ⟨l,rfl,hl⟩
 all_goals refine⟨rfl,?_⟩
 all_goals symm
 all_goals first | refine Gg rfl ?_ | refine CJ (fun z=>by cases z) ?_
 all_goals symm
 all_goals first
  | refine⟨l,us,rfl,.inl ⟨SqL.of (k1 _ _ (Ho hl hx (by intro z;cases z)) hl),fun p hp=>?_⟩⟩
  | (refine ⟨vj _,fun p hp=>?_⟩
     rw[show upd H1 p (.tup [])=upd H1 p (.tup us) by rw[eu]])
 all_goals
  have px:x≠p:=Bp x1 hp;symm;refine⟨x,Ak,dx,_,rfl,by rw[BK px];exact x1,Aq,CN,(by show 1<1000;decide),?_⟩;have k2:∀y o,y≠x->H1 y=some o->upd (upd H1 p (.tup us)) x (.ins Ak dx (Dh (Str.ofString "terms") (.ref p) [(Str.ofString "base",.int b)])) y=some o:=fun y o hy h=>by
   rw[BK hy];exact Ax hp _ _ _ h
  have x2:upd (upd H1 p (.tup us)) x (.ins Ak dx (Dh (Str.ofString "terms") (.ref p) [(Str.ofString "base",.int b)])) x=some (.ins Ak dx [(Str.ofString "base",.int b),(Str.ofString "terms",.ref p)]):=An;have p2:upd (upd H1 p (.tup us)) x (.ins Ak dx (Dh (Str.ofString "terms") (.ref p) [(Str.ofString "base",.int b)])) p=some (.tup us):=by rw[BK (Ne.symm px),An]
  generalize upd (upd H1 p (.tup us)) x (.ins Ak dx (Dh (Str.ofString "terms") (.ref p) [(Str.ofString "base",.int b)]))=H2 at k2 x2 p2 ⊢;have k02:∀y o,y≠x->H y=some o->H2 y=some o:=fun y o hy h=>k2 y o hy (k1 y o hy h);have T2:TmT K H2 p ts:=⟨⟨us,SqT.of p2,tmk k02⟩,ok,few⟩;symm;exists⟨x,Ak,dx,_,_,rfl,x2,Aq,CT,rfl,?_⟩;exists⟨x,Ak,dx,_,_,rfl,x2,Aq,CN,rfl,?_⟩;refine⟨p,b,ts,rfl,T2,g,fun H3 s3=>?_⟩;have x3:=s3 _ _ x2;symm;exists⟨x,Ak,dx,_,_,rfl,x3,Aq,CN,rfl,?_⟩;refine⟨p,ts,rfl,T2.same s3,fun H4 s4=>?_⟩;have x4:=s4 _ _ x3;have p4:=(s3.trans s4) _ _ p2;symm;refine⟨x,Ak,dx,_,rfl,x4,Aq,Ce,(by show 2<1000;decide),?_⟩;have pne:p≠x:=Ne.symm px;have k5:∀y o,y≠x->H4 y=some o->upd H4 x (.ins Ak dx (Dh (Str.ofString "full_count") (.int (PER ts)) [(Str.ofString "base",.int b),(Str.ofString "terms",.ref p)])) y=some o:=fun y o hy h=>by rw[BK hy];exact h
  have x5:upd H4 x (.ins Ak dx (Dh (Str.ofString "full_count") (.int (PER ts)) [(Str.ofString "base",.int b),(Str.ofString "terms",.ref p)])) x=some (.ins Ak dx [(Str.ofString "base",.int b),(Str.ofString "terms",.ref p),(Str.ofString "full_count",.int (PER ts))]):=An;generalize upd H4 x (.ins Ak dx (Dh (Str.ofString "full_count") (.int (PER ts)) [(Str.ofString "base",.int b),(Str.ofString "terms",.ref p)]))=H5 at k5 x5 ⊢;have k05:∀y o,y≠x->H y=some o->H5 y=some o:=fun y o hy h=>k5 y o hy ((s3.trans s4) _ _ (k02 y o hy h));have T5:TmT K H5 p ts:=⟨⟨us,SqT.of (k5 _ _ pne p4),tmk k05⟩,ok,few⟩;obtain⟨h1,h2⟩:=K3 ok 6 (by decide);rw[xy few] at h1 h2;have h3:=vH (show 6<=6 by decide);symm;exists⟨x,dx,_,rfl,x5,rfl,?_⟩;exists⟨x,Ak,dx,_,_,rfl,x5,Aq,Ce,rfl,?_⟩;refine⟨x,p,dx,PER ts,b,ts,_,rfl,x5,rfl,rfl,T5,g.b0,g.b1,Bx (by lia) (by lia) (by decide),fun H6 s6=>?_⟩;have x6:=s6 _ _ x5;symm;refine⟨x,Ak,dx,_,rfl,x6,Aq,Du,(by show 3<1000;decide),?_⟩;have k7:∀y o,y≠x->H6 y=some o->upd H6 x (.ins Ak dx (Dh (Str.ofString "full_sum") (.int (UP b ts (PER ts))) [(Str.ofString "base",.int b),(Str.ofString "terms",.ref p),(Str.ofString "full_count",.int (PER ts))])) y=some o:=fun y o hy h=>by rw[BK hy];exact h
  have x7:upd H6 x (.ins Ak dx (Dh (Str.ofString "full_sum") (.int (UP b ts (PER ts))) [(Str.ofString "base",.int b),(Str.ofString "terms",.ref p),(Str.ofString "full_count",.int (PER ts))])) x=some (.ins Ak dx (mF b p (PER ts) (UP b ts (PER ts)))):=An;generalize upd H6 x (.ins Ak dx (Dh (Str.ofString "full_sum") (.int (UP b ts (PER ts))) [(Str.ofString "base",.int b),(Str.ofString "terms",.ref p),(Str.ofString "full_count",.int (PER ts))]))=H7 at k7 x7 ⊢;have k07:∀y o,y≠x->H y=some o->H7 y=some o:=fun y o hy h=>k7 y o hy (s6 _ _ (k05 y o hy h));symm;exists⟨x,Ak,dx,_,_,rfl,x7,Aq,Du,rfl,?_⟩;refine CJ (fun z=>by have:=V.int.inj z;lia) ?_;symm;refine q _ k07 ⟨⟨dx,p,x7,⟨us,SqT.of (k7 _ _ pne (s6 _ _ (k5 _ _ pne p4))),tmk k07⟩,ok,few⟩,g,po⟩
theorem Gq:CI0 5 "Measure" Ak ["self","base","terms"] (XR K Ak):=Um (st:=Gn) (ds:= #[.none]) gX gG (by walk_at"k") (by walk_at"k") (by walk_at"k") (by walk_at"dm") (fun _ _ _ _ _ _ _ us hl=>by obtain⟨_,_,_,rfl⟩:=AAl hl;exact⟨_,rfl,rfl⟩) Le
theorem Jo:CM0 2 Ak "at" ["self","k"] (ADm K Ak):=by
 refine cm' ["self","k"] Xq fun nd H vs Q E hr h=>?_;obtain⟨x,k,b,ts,rfl,M,bk,q⟩:=h;obtain⟨dx,p,hx,T⟩:=M.ex;obtain⟨us,hS,hT⟩:=T.ex;exists⟨_,(Ad (Al (Af Bb (Bf (pv 0) (by rfl)) (BX (Nj rfl) rfl fW jj1 (Aa (El rfl (Dv ["self","k"] ["self","k"] rfl rfl (by with_unfolding_all rfl) (by ac_rfl) rfl (by ac_rfl) rfl (by ac_rfl) (by walk_at"fm") (by with_unfolding_all rfl) (by with_unfolding_all rfl)) (Th (Bf (pv 0) (by rfl))) (fun _ _ _ _=>(Tg (GD (Ag lW (Aa (pv 0) (Aa (pv 2) Ac)))))) (fun _ _ _ _=>(Dy HJ (pv 0) Ae))) Ac))))),?_⟩;exists⟨x,Ak,dx,_,_,rfl,hx,Aq,CT,rfl,?_⟩;exists Fb (xr ?_);refine⟨x,Ak,dx,_,_,rfl,hx,Aq,CN,rfl,?_⟩;refine⟨p,rfl,⟨_,hS⟩,Ni mV (by rw[hT.len];exact Cw (by have:=T.few;lia)) (fun D ys hD=>(Ax hD _).tup hS) (fun v=>((VH H v).map fun t=>onT t k).getD false) (fun v=>((VH H v).map fun t=>V.int t.1).getD .non) (fun y hy D ys Q' hD h=>?_) (fun y hy _ D ys Q' hD h=>?_) (fun D hD=>?_)⟩
 ·obtain⟨a,t,rfl,ht,ha⟩:=hT.mem hy;rw[JT ha] at h;symm;exact⟨a,k,t,rfl,Ax hD _ _ _ ha,T.ok t ht,bk,⟨_,rfl,h⟩⟩
 ·obtain⟨a,t,rfl,ht,ha⟩:=hT.mem hy;rw[JT ha] at h;symm;refine Ar (SqT.of (Ax hD _ _ _ ha)) rR ?_;exact h
 rw[hT.fm (fun t=>onT t k) fun t=>V.int t.1];have e:((ts.filter fun t=>onT t k).map fun t=>V.int t.1)=((ts.filter fun t=>onT t k).map fun t=>t.1).map V.int:=by rw[kq];rfl
 rw[e];symm;exists⟨D,_,rfl,SqL.of An,?_⟩;exact q _ (Ax hD _)
theorem Ie:CM0 3 Ak "seek" ["self","total"] (yw K Ak):=by
 refine cm' ["self","total","rest","low","high","middle"] S9 fun nd H vs Q E hr h=>?_;obtain⟨x,n,b,ts,rfl,M,bn,q⟩:=h;obtain⟨dx,p,hx,T⟩:=M.ex;have po:=M.po;have g:=M.gd;have hb0:=g.b0;have hb1:=g.b1;have up:=Jq (base:=b) T.ok;have mono:=fun{j k:Int} (h:j<=k)=>Jr T.ok g.fl h;have per:=Yr (base:=b) T.ok (P:=PER ts) (fun t ht=>by
  have:=X6 T.ok 6 (by decide);rw[xy T.few] at this;exact this t ht)
 obtain⟨h1,h2⟩:=K3 T.ok 6 (by decide);rw[xy T.few] at h1 h2;have h3:=vH (show 6<=6 by decide);have uz:=LR (base:=b) T.ok;have sl:=rm T.ok (Jn h1);have ln:(ts.length:Int)*PER ts<=6*PER ts:=ui (by have:=T.few;lia) (Jn h1);have bm:b*PER ts<=20000*PER ts:=ui hb1 (Jn h1);have us:UP b ts (PER ts)=b*PER ts+SU ts (PER ts):=rfl;have bS:Bt 500 (UP b ts (PER ts)):=(Ww (by lia) (by lia)).mono (by decide);clear us bm ln sl;generalize hP:PER ts=P at*
 generalize hS:UP b ts P=S at*
 have m0:=zh n (show S≠0 by lia);have m1:=qk n po;have md:=ji5 n S;refine⟨_,(Ab (Ah 2 (Af Br (pv 1) (Bf (pv 0) (by rfl))))
  (Ab (Ah 3 Ae)
  (Ab (Ah 4 (Bf (pv 0) (by rfl)))
  (Ab (HH PassesOwn.never (Ai Fq (Af CG (pv 4) (pv 3)) Ae (Am _))
   (Ab (Ah 5 (Af Bg (Af Bb (pv 3) (pv 4)) Ae))
  (Ad (Ej (Ay (Ai JH (CZ Cv Aq (pv 0) (Aa (pv 5) Ac)) (pv 2) (Am _))
   (Ad (Ah 3 (pv 5)))
   (Ad (Ah 4 (pv 5))))))))
  (Ad (Al (Af Bb (Af CP (Af Bg (pv 1) (Bf (pv 0) (by rfl))) (Bf (pv 0) (by rfl))) (pv 3)))))))),?_⟩
 symm;exists⟨x,Ak,dx,_,_,rfl,hx,Aq,Du,rfl,?_⟩;exists⟨x,Ak,dx,_,_,rfl,hx,Aq,Ce,rfl,?_⟩;refine⟨fun m Z' H'=>Av H H'/\∃(lo hi:Int) (c:Option V),Z'=[some (.ref x),some (.int n),some (.int (n%S)),some (.int lo),some (.int hi),c]/\0<=lo/\lo<hi/\hi<=P/\UP b ts lo<=n%S/\n%S<UP b ts hi/\m=(hi-lo).toNat,
  ⟨_,Av.refl _,0,P,none,rfl,by decide,h1,jl5 _,by rw[uz];exact m0,by rw[hS];exact m1,rfl⟩,?_⟩
 rintro m Z' H1 ⟨s1,lo,hi,c,rfl,l0,lh,hP',u1,u2,rfl⟩;symm;refine CK (fun cc=>?_) (fun cc=>?_)
 ·exists⟨_,fun Z' H' hh=>hh,?_⟩;generalize hm:(lo+hi)/2=mi;refine EY (fun Z' H'=>∃i,An3 (i<(hi-lo).toNat) (Av H H') (Ex3 fun(lo hi:Int) (c:Option V)=>An7 (Z'=[some (.ref x),some (.int n),some (.int (n%S)),some (.int lo),some (.int hi),c]) (0<=lo) (lo<hi) (hi<=P) (UP b ts lo<=n%S) (n%S<UP b ts hi) (i=(hi-lo).toNat))) ?_ (fun _ _ h=>by obtain⟨z,h1,h2,a,b,c,h3,h4,h5,h6,h7,h8,h9⟩:=h;exact⟨z,h1,h2,a,b,c,h3,h4,h5,h6,h7,h8,h9⟩);symm;exists⟨x,dx,_,rfl,s1 _ _ hx,rfl,?_⟩;exists⟨x,p,dx,mi,b,ts,_,rfl,s1 _ _ hx,rfl,rfl,T.same s1,hb0,hb1,Bx (by lia) (by lia) (by decide),fun H2 s2=>?_⟩;refine CK (fun c2=>?_) (fun c2=>?_)
  ·symm;exact⟨(hi-mi).toNat,by lia,s1.trans s2,mi,hi,_,rfl,by lia,by lia,hP',c2,u2,rfl⟩
  ·symm;exact⟨(mi-lo).toNat,by lia,s1.trans s2,lo,mi,_,rfl,l0,by lia,by lia,u1,by lia,rfl⟩
 ·have e:hi=lo+1:=by lia
  subst e;symm;exists⟨x,Ak,dx,_,_,rfl,s1 _ _ hx,Aq,Du,rfl,?_⟩;exists Ds ⟨po,bS.mono (by decide)⟩ ?_;refine⟨x,Ak,dx,_,_,rfl,s1 _ _ hx,Aq,Ce,rfl,?_⟩;have bP:Bt 64 P:=Bx (by lia) (by lia) (by decide);exists Ds ⟨300,64,Mg bn po,bP,by decide⟩ ?_;have e:=per lo (n/S);have e':=per (lo+1) (n/S);rw[show n/S*P+lo=lo+P*(n/S) by rw[ub];lia];refine q _ _ s1 ?_ ?_ ?_
  ·rw[e,ub (n/S) S];lia
  ·rw[show lo+P*(n/S)+1=lo+1+P*(n/S) by lia,e',ub (n/S) S];lia
  ·have:=(bP.mul (Mg bn po)).add ((show Bt 64 lo from Bx (by lia) (by lia) (by decide)).mono (show 64<=64+300 by decide));rw[Int.add_comm];exact this.mono (by decide)
theorem GX:CM0 1 Ak "period" ["self"] (ACG K Ak):=by
 refine cm' ["self"] Om fun nd H vs Q E hr h=>?_;obtain⟨x,b,ts,rfl,M,q⟩:=h;obtain⟨dx,p,hx,T⟩:=M.ex;exists⟨_,(Ad (Al (Bf (pv 0) (by rfl)))),?_⟩;refine⟨x,Ak,dx,_,_,rfl,hx,Aq,Ce,rfl,?_⟩;exact q
theorem Qz:C0 1 "refuse_months" ["lengths","leap"] (uI K):=by
 refine co' ["lengths","leap"] Qk fun nd H vs Q E hr h=>?_;obtain⟨l,lp,ls,ts,rfl,hS,g,q⟩:=h;have l0:=g.l0;have l1:=g.l1;have p0:=g.p0;have p1:=g.p1;have ne:ls≠[]:=fun z=>by rw[z] at l0;simp at l0
 refine⟨_,(Ab (Ay (PW.pt (Gv (Ai FZ (BX Bo rfl Eh xo (Aa (pv 0) Ac)) Ae (Am _)) (Fp (Ai Fq (BX Bo rfl Eh xo (Aa (pv 0) Ac)) (By rfl Lh (DG _ _)) (Am _)))))
  (Ad Bc)
  Ao)
  (Ab (Ay (PW.pt (Gv (Ai FZ (BX (lQ rfl) rfl ABj PyProof.Rows.boot_min (Aa (pv 0) Ac)) Ae (Am _)) (Fp (Ai Fq (BX (lR rfl) rfl ABk PyProof.Rows.boot_max (Aa (pv 0) Ac)) (By rfl J1 (DG _ _)) (Am _)))))
   (Ad Bc)
   Ao)
  (Ad (Ay (PW.pt (Gv (Ai FZ (pv 1) Ae (Am _)) (Fp (Ai Fq (pv 1) (BX Bo rfl Eh xo (Aa (pv 0) Ac)) (Am _)))))
   (Ad Bc)
   Ao)))),?_⟩
 symm;refine⟨l,_,rfl,.inl hS,?_⟩;rw[js];symm;exists CJ (by lia) ?_;refine⟨l,_,rfl,.inl hS,?_⟩;rw[js];symm;exists CJ (by lia) ?_;refine⟨l,ls,rfl,hS,ne,fun m hm _=>?_⟩;have:=g.m m hm;symm;exists CJ (by lia) ?_;refine⟨l,ls,rfl,hS,ne,fun m hm _=>?_⟩;have:=g.m m hm;symm;exists CJ (by lia) ?_;exists CJ (by lia) ?_;refine⟨l,_,rfl,.inl hS,?_⟩;rw[js];symm;exists CJ (by lia) ?_;exact q
theorem Qi:DP ["self","start","lengths","leap","terms"] ["self","start","lengths","leap","terms"] (BZ Gs):=by walk_at"s"
theorem J0{ds:Array Value}(F:Ku K "__init__" "Sun.__init__" Gs f fd ds):F0 7 f fd ["self","start","lengths","leap","terms"] (RV K Bd Ak):=by
 refine F.ok (k:=6) Qi (fun h=>?_) fun nd H vs Q E hr h=>?_
 ·obtain⟨x,dx,ll,s,lp,v,us,ls,ts,rfl,_⟩:=h;rfl
 obtain⟨x,dx,ll,s,lp,v,us,ls,ts,rfl,hx,hl,hT,hv,g,bs,q⟩:=h;have lx:ll≠x:=Ho hl hx (by intro z;cases z);have l0:=g.l0;have l1:=g.l1;have p0:=g.p0;have p1:=g.p1;have f0:=g.f0;have f1:=g.f1;refine⟨_,(Ab (Bh (Ag Qz (Aa (pv 2) (Aa (pv 3) Ac))))
  (Ab (Fd (pv 0) (pv 1) (by rfl))
  (Ab (Fd (pv 0) (BP Iw rfl W6 jl1 (Aa (pv 2) Ac)) (by rfl))
  (Ab (Fd (pv 0) (pv 3) (by rfl))
  (Ab (Fd (pv 0) (Gd Gq (Aa (BX (Nj rfl) rfl fW jj1 (Aa (pv 2) Ac)) (Aa (pv 4) Ac))) (by rfl))
  (Ab (Ay (Ai FZ (Ag Gx (Aa (Dy GR (pv 2) (Af CG (pv 3) Ae) (fun _ _=>rfl)) (Aa (Bf (Bf (pv 0) (by rfl)) (by rfl)) Ac))) Ae (Am _))
   (Ad Bc)
   Ao)
  (Ad (Ay (Ai FZ (Ag Gx (Aa (Bf (Bf (pv 0) (by rfl)) (by rfl)) (Aa (Bf (Bf (pv 0) (by rfl)) (by rfl)) Ac))) Ae (Am _))
   (Ad Bc)
   Ao)))))))),?_⟩
 symm;exists⟨ll,lp,ls,ts,rfl,SqL.of hl,g,?_⟩;refine⟨x,Bd,dx,[],rfl,hx,Bw,Hl,by decide,?_⟩;have k1:But x H (upd H x (.ins Bd dx (Dh (Str.ofString "start") (.int s) []))):=But.upd;have x1:upd H x (.ins Bd dx (Dh (Str.ofString "start") (.int s) [])) x=some (.ins Bd dx [(Str.ofString "start",.int s)]):=An;generalize upd H x (.ins Bd dx (Dh (Str.ofString "start") (.int s) []))=H1 at k1 x1 ⊢;symm;refine⟨ll,_,rfl,.inl ⟨SqL.of (k1 _ _ lx hl),fun p hp=>?_⟩⟩;have px:x≠p:=Bp x1 hp;symm;refine⟨x,Bd,dx,_,rfl,by rw[BK px];exact x1,Bw,JN,(by show 1<1000;decide),?_⟩;have k2:But x H1 (upd (upd H1 p (.tup (ls.map V.int))) x (.ins Bd dx (Dh (Str.ofString "months") (.ref p) [(Str.ofString "start",.int s)]))):=fun y o hy h=>by
  rw[BK hy];exact Ax hp _ _ _ h
 have x2:upd (upd H1 p (.tup (ls.map V.int))) x (.ins Bd dx (Dh (Str.ofString "months") (.ref p) [(Str.ofString "start",.int s)])) x=some (.ins Bd dx [(Str.ofString "start",.int s),(Str.ofString "months",.ref p)]):=An;have t2:upd (upd H1 p (.tup (ls.map V.int))) x (.ins Bd dx (Dh (Str.ofString "months") (.ref p) [(Str.ofString "start",.int s)])) p=some (.tup (ls.map V.int)):=by rw[BK (Ne.symm px),An]
 generalize upd (upd H1 p (.tup (ls.map V.int))) x (.ins Bd dx (Dh (Str.ofString "months") (.ref p) [(Str.ofString "start",.int s)]))=H2 at k2 x2 t2 ⊢;symm;refine⟨x,Bd,dx,_,rfl,x2,Bw,Ia,(by show 2<1000;decide),?_⟩;have k3:But x H2 (upd H2 x (.ins Bd dx (Dh (Str.ofString "leap") (.int lp) [(Str.ofString "start",.int s),(Str.ofString "months",.ref p)]))):=But.upd;have x3:upd H2 x (.ins Bd dx (Dh (Str.ofString "leap") (.int lp) [(Str.ofString "start",.int s),(Str.ofString "months",.ref p)])) x=some (.ins Bd dx [(Str.ofString "start",.int s),(Str.ofString "months",.ref p),(Str.ofString "leap",.int lp)]):=An;generalize upd H2 x (.ins Bd dx (Dh (Str.ofString "leap") (.int lp) [(Str.ofString "start",.int s),(Str.ofString "months",.ref p)]))=H3 at k3 x3 ⊢;have k03:But x H H3:=fun y o hy h=>k3 y o hy (k2 y o hy (k1 y o hy h));have l3:=k03 _ _ lx hl;have t3:=k3 _ _ (Ne.symm px) t2;symm;exists⟨ll,ls,rfl,SqL.of l3,?_⟩;refine fun y dy hy hdy ne=>YX hy hdy ne (hT.but hx .ins k03) ?_ g.ok g.few g.gm g.po fun H4 s4 M4=>⟨rfl,?_⟩
 ·rcases hv with z | ⟨l,z,e⟩
  ·exact .inl z
  ·exact .inr ⟨l,z,k03 _ _ (Ho e hx (by intro z;cases z)) e⟩
 have x4:=s4 _ _ x3;have yx:y≠x:=fun e=>by subst e;rw[x3] at hy;cases hy
 symm;refine⟨x,Bd,dx,_,rfl,x4,Bw,CW,(by show 3<1000;decide),?_⟩;have k5:But x H4 (upd H4 x (.ins Bd dx (Dh (Str.ofString "years") (.ref y) [(Str.ofString "start",.int s),(Str.ofString "months",.ref p),(Str.ofString "leap",.int lp)]))):=But.upd;have x5:upd H4 x (.ins Bd dx (Dh (Str.ofString "years") (.ref y) [(Str.ofString "start",.int s),(Str.ofString "months",.ref p),(Str.ofString "leap",.int lp)])) x=some (.ins Bd dx (sF s lp p y)):=An;generalize upd H4 x (.ins Bd dx (Dh (Str.ofString "years") (.ref y) [(Str.ofString "start",.int s),(Str.ofString "months",.ref p),(Str.ofString "leap",.int lp)]))=H5 at k5 x5 ⊢;have M5:=M4.butX x4 .ins yx k5;have t5:=k5 _ _ (Ne.symm px) (s4 _ _ t3);have l5:=k5 _ _ lx (s4 _ _ l3);have k05:∀y o,y≠x->H y=some o->H5 y=some o:=fun y o hy h=>k5 y o hy (s4 _ _ (k03 y o hy h));obtain⟨d5,tp,e5,T5⟩:=M5.ex;have elp:lp-1=(((lp-1).toNat:Nat):Int):=by lia
 have hat:atI (ls.map V.int) (lp-1)=some (V.int (ls.getD (lp-1).toNat 0)):=by
  conv=>lhs;rw[elp]
  refine Dm ?_;rw[zo,vv,qo (by lia)];rfl
 symm;exists BL (SqL.of l5) hat ?_;exists⟨x,Bd,dx,_,_,rfl,x5,Bw,CW,rfl,?_⟩;exists⟨y,Ak,d5,_,_,rfl,e5,Aq,CN,rfl,?_⟩;exists⟨tp,_,ts,rfl,T5,fun H6 s6=>?_⟩;exists CJ (by lia) ?_;have x6:=s6 _ _ x5;have e6:=s6 _ _ e5;exists⟨x,Bd,dx,_,_,rfl,x6,Bw,CW,rfl,?_⟩;exists⟨y,Ak,d5,_,_,rfl,e6,Aq,CT,rfl,?_⟩;exists⟨x,Bd,dx,_,_,rfl,x6,Bw,CW,rfl,?_⟩;exists⟨y,Ak,d5,_,_,rfl,e6,Aq,CN,rfl,?_⟩;exists⟨tp,_,ts,rfl,T5.same s6,fun H7 s7=>?_⟩;exists CJ (by lia) ?_;refine q _ (fun y o hy h=>s7 _ _ (s6 _ _ (k05 y o hy h))) ⟨⟨dx,p,y,s7 _ _ x6,SqT.of (s7 _ _ (s6 _ _ t5)),(M5.same s6).same s7⟩,g,bs⟩
theorem Uz:CI0 7 "Sun" Bd ["self","start","lengths","leap","terms"] (RV K Bd Ak):=Um (st:=Gs) (ds:= #[(.int 1 Gm),.none]) gX gG (by walk_at"k") (by walk_at"k") (by walk_at"k") (by walk_at"dm") (fun _ _ _ _ _ _ _ us hl=>by obtain⟨_,_,_,_,_,rfl⟩:=AAk hl;exact⟨_,rfl,rfl⟩) J0
theorem Nt:sV P w K mg base CX0 7 "Sun" Bd ["self","start","lengths","leap","terms"] [(.int 1),.non] (RV K Bd Ak):=lV (st:=Gs) (ds:= #[(.int 1 Gm),.none]) (dv:=[(.int 1 Gm),.none]) 3 rfl gX gG (by walk_at"k") (by walk_at"k") (by walk_at"k") (by walk_at"dm") (fun _ _ _ _ _ _ _ us hl=>by obtain⟨_,_,_,rfl⟩:=AAl hl;exact⟨_,rfl,rfl⟩) (.cons (by first | exact rfl | exact DG _ _ | trivial) (.cons (by first | exact rfl | exact DG _ _ | trivial) .nil)) J0
theorem JP:CM0 3 Bd "year_start" ["self","year"] (ABw K Bd Ak):=by
 refine cm' ["self","year"] Oj fun nd H vs Q E hr h=>?_;obtain⟨x,n,s,ls,lp,ts,rfl,S,bn,q⟩:=h;obtain⟨dx,p,y,hx,hp,M⟩:=S.ex;obtain⟨d,fs,ey,ly⟩:=M.meth;obtain⟨d2,tp,e2,T2⟩:=M.ex;exists⟨_,(Ad (Al (Af Bb (Bf (pv 0) (by rfl)) (CZ Cv Aq (Bf (pv 0) (by rfl)) (Aa (pv 1) Ac))))),?_⟩;exists⟨x,Bd,dx,_,_,rfl,hx,Bw,Hl,rfl,?_⟩;exists⟨x,Bd,dx,_,_,rfl,hx,Bw,CW,rfl,?_⟩;exists⟨y,d,fs,rfl,ey,ly.2.2.1,?_⟩;exists⟨y,tp,d2,n,_,ts,_,rfl,e2,rfl,rfl,T2,M.gd.b0,M.gd.b1,bn.mono (by decide),fun H' s'=>?_⟩;exact q _ s'
theorem Vv:CM0 4 Bd "year_at" ["self","day"] (ADj K Bd Ak):=by
 refine cm' ["self","day"] Vj fun nd H vs Q E hr h=>?_;obtain⟨x,n,s,ls,lp,ts,rfl,S,bn,q⟩:=h;obtain⟨dx,p,y,hx,hp,M⟩:=S.ex;obtain⟨d,fs,ey,ly⟩:=M.meth;exists⟨_,(Ad (Al (CZ Ie Aq (Bf (pv 0) (by rfl)) (Aa (Af CG (pv 1) (Bf (pv 0) (by rfl))) Ac)))),?_⟩;exists⟨x,Bd,dx,_,_,rfl,hx,Bw,CW,rfl,?_⟩;exists⟨y,d,fs,rfl,ey,ly.1,?_⟩;exists⟨x,Bd,dx,_,_,rfl,hx,Bw,Hl,rfl,?_⟩;refine⟨y,n-s,_,ts,rfl,M,(bn.sub S.bs).mono (by decide),fun k H' s' u1 u2 bk=>?_⟩;exact q _ _ s' (by lia) (by lia) (((bn.sub S.bs).le (Ly S.gd.ok S.gd.f1 u1 u2)).mono (by decide))
theorem Lr:CM0 3 Bd "lengths" ["self","year"] (oJ K Bd Ak):=by
 refine cm' ["self","year","told"] Vk fun nd H vs Q E hr h=>?_;obtain⟨x,n,s,ls,lp,ts,rfl,S,bn,q⟩:=h;obtain⟨dx,p,y,hx,hp,M⟩:=S.ex;have g:=S.gd;have p0:=g.p0;have p1:=g.p1;have elp:lp-1=(((lp-1).toNat:Nat):Int):=by lia
 generalize hi:(lp-1).toNat=i at elp;have il:i<ls.length:=by lia
 refine⟨_,(Ab (Ah 2 (BP Yh rfl bJ PyProof.Rows.boot_list (Aa (Bf (pv 0) (by rfl)) Ac)))
  (Ab (Ox (Af CG (Af Bb (Dy GR (pv 2) (Af CG (Bf (pv 0) (by rfl)) Ae) (fun _ _=>rfl)) (CZ Jo Aq (Bf (pv 0) (by rfl)) (Aa (pv 1) Ac))) (Bf (Bf (pv 0) (by rfl)) (by rfl))) (pI (pv 2) (Af CG (Bf (pv 0) (by rfl)) Ae) set_list))
  (Ad (Al (pv 2))))),?_⟩
 symm;exists⟨x,Bd,dx,_,_,rfl,hx,Bw,JN,rfl,?_⟩;refine⟨p,_,rfl,.inr hp,fun l hl=>?_⟩;have s1:=Ax hl (.lst (ls.map V.int));have t1:upd H l (.lst (ls.map V.int)) l=some (.lst (ls.map V.int)):=An;generalize upd H l (.lst (ls.map V.int))=H1 at s1 t1 ⊢;have M1:=M.same s1;obtain⟨d1,fs,e1,l1⟩:=M1.meth;obtain⟨d2,tp,e2,T2⟩:=M1.ex;have x1:=s1 _ _ hx;symm;exists⟨x,Bd,dx,_,_,rfl,x1,Bw,Ia,rfl,?_⟩;rw[elp];have hat:atI (ls.map V.int) (i:Int)=some (V.int (ls.getD i 0)):=by
  refine Dm ?_;rw[zo,vv,qo il];rfl
 exists BL (SqL.of t1) hat ?_;exists⟨x,Bd,dx,_,_,rfl,x1,Bw,CW,rfl,?_⟩;exists⟨y,d1,fs,rfl,e1,l1.2.1,?_⟩;refine⟨y,n,_,ts,rfl,M1,bn.mono (by decide),fun H2 s2=>?_⟩;have x2:=s2 _ _ x1;symm;exists⟨x,Bd,dx,_,_,rfl,x2,Bw,CW,rfl,?_⟩;exists⟨y,Ak,d2,_,_,rfl,s2 _ _ e2,Aq,CT,rfl,?_⟩;exists⟨x,Bd,dx,_,_,rfl,x2,Bw,Ia,rfl,?_⟩;rw[elp];have t2:=s2 _ _ t1;refine gU t2 (by rw[js];exact il) ?_;symm;have ev:ls.getD i 0+AT ls.sum ts n-ls.sum=ls.getD i 0+ONS ts n:=by
  unfold AT;lia
 rw[ev];have el:(ls.map V.int).set i (V.int (ls.getD i 0+ONS ts n))=(Ks ls lp ts n).map V.int:=by
  unfold Ks;rw[hi,List.map_set]
 rw[el];refine q l _ hl (fun b o h=>?_) An;rw[BK (Bp h hl)];exact s2 _ _ (s1 _ _ h)
theorem au:CM0 3 Bd "cycle" ["self"] (xj K Bd Ak):=by
 refine cm' ["self","years"] Zn fun nd H vs Q E hr h=>?_;obtain⟨x,s,ls,lp,ts,rfl,S,q⟩:=h;obtain⟨dx,p,y,hx,hp,M⟩:=S.ex;obtain⟨d,fs,ey,ly⟩:=M.meth;obtain⟨d2,tp,e2,T2⟩:=M.ex;have pp:=RX S.gd.ok S.gd.few;refine⟨_,(Ab (Ah 1 (Cu GX Aq (Bf (pv 0) (by rfl))))
  (Ad (Al (BW (Aa (pv 1) (Aa (CZ Cv Aq (Bf (pv 0) (by rfl)) (Aa (pv 1) Ac)) Ac)))))),?_⟩
 symm;exists⟨x,Bd,dx,_,_,rfl,hx,Bw,CW,rfl,?_⟩;exists⟨y,d,fs,rfl,ey,ly.2.2.2,?_⟩;exists⟨y,_,ts,rfl,M,?_⟩;exists⟨x,Bd,dx,_,_,rfl,hx,Bw,CW,rfl,?_⟩;exists⟨y,d,fs,rfl,ey,ly.2.2.1,?_⟩;exists⟨y,tp,d2,_,_,ts,_,rfl,e2,rfl,rfl,T2,M.gd.b0,M.gd.b1,Bx (by lia) (by lia) (by decide),fun H' s'=>?_⟩;refine⟨two,fun c hc=>?_⟩;exact q _ _ (s'.trans (Ax hc _)) An
theorem Lp:C0 2 "refuse_part" ["measure","greatest"] (uH K Ak):=by
 refine co' ["measure","greatest"] Vb fun nd H vs Q E hr h=>?_;obtain⟨y,b,g,ts,rfl,M,f,bg,q⟩:=h;obtain⟨d,p,e,T⟩:=M.ex;refine⟨_,(Ab (Ay (Ai FZ (Ag Gx (Aa (Bf (pv 0) (by rfl)) (Aa (Bf (pv 0) (by rfl)) Ac))) Ae (Am _))
  (Ad Bc)
  Ao)
  (Ad (Ay (Ai Fq (Bf (pv 0) (by rfl)) (pv 1) (Am _))
   (Ad Bc)
   Ao))),?_⟩
 symm;exists⟨y,Ak,d,_,_,rfl,e,Aq,CT,rfl,?_⟩;exists⟨y,Ak,d,_,_,rfl,e,Aq,CN,rfl,?_⟩;exists⟨p,_,ts,rfl,T,fun H1 s1=>?_⟩;exists CJ (by lia) ?_;exists⟨y,Ak,d,_,_,rfl,s1 _ _ e,Aq,CT,rfl,?_⟩;exists CJ (by lia) ?_;exact q _ s1
theorem RD:CI0 3 "Moon" BR ["self","start","days","many"] (ZK K BR Ak):=by
 refine ci' ["self","start","days","many"] Qq fun nd H vs Q E hr h=>?_;obtain⟨x,dx,d,m,s,bd,bm,td,tm,rfl,hx,hd,hm,g,bs,q⟩:=h;refine⟨_,(Ab (Bh (Ag Lp (Aa (pv 2) (Aa (By rfl J1 (DG _ _)) Ac))))
  (Ab (Bh (Ag Lp (Aa (pv 3) (Aa (By rfl Lh (DG _ _)) Ac))))
  (Ab (Fd (pv 0) (pv 1) (by rfl))
  (Ab (Fd (pv 0) (pv 2) (by rfl))
  (Ad (Fd (pv 0) (pv 3) (by rfl))))))),?_⟩
 symm;exists⟨d,bd,_,td,rfl,hd,g.fd,g.gd,fun H0 s0=>?_⟩;refine⟨m,bm,_,tm,rfl,hm.same s0,g.fm,g.gm,fun H9 s9=>?_⟩;have s09:=s0.trans s9;have hx:=s09 _ _ hx;have hd:=hd.same s09;have hm:=hm.same s09;have dnx:d≠x:=by
  obtain⟨_,_,e,_⟩:=hd.ex;exact Ho e hx (by intro z;injection z with _ _ z;cases z)
 have mnx:m≠x:=by
  obtain⟨_,_,e,_⟩:=hm.ex;exact Ho e hx (by intro z;injection z with _ _ z;cases z)
 symm;refine⟨x,BR,dx,[],rfl,hx,Bs,G4,by decide,?_⟩;have k1:But x H9 (upd H9 x (.ins BR dx (Dh (Str.ofString "start") (.int s) []))):=But.upd;have x1:upd H9 x (.ins BR dx (Dh (Str.ofString "start") (.int s) [])) x=some (.ins BR dx [(Str.ofString "start",.int s)]):=An;generalize upd H9 x (.ins BR dx (Dh (Str.ofString "start") (.int s) []))=H1 at k1 x1 ⊢;symm;refine⟨x,BR,dx,_,rfl,x1,Bs,Dp,(by show 1<1000;decide),?_⟩;have k2:But x H1 (upd H1 x (.ins BR dx (Dh (Str.ofString "days") (.ref d) [(Str.ofString "start",.int s)]))):=But.upd;have x2:upd H1 x (.ins BR dx (Dh (Str.ofString "days") (.ref d) [(Str.ofString "start",.int s)])) x=some (.ins BR dx [(Str.ofString "start",.int s),(Str.ofString "days",.ref d)]):=An;generalize upd H1 x (.ins BR dx (Dh (Str.ofString "days") (.ref d) [(Str.ofString "start",.int s)]))=H2 at k2 x2 ⊢;symm;refine⟨x,BR,dx,_,rfl,x2,Bs,Do,(by show 2<1000;decide),?_⟩;have k3:But x H2 (upd H2 x (.ins BR dx (Dh (Str.ofString "many") (.ref m) [(Str.ofString "start",.int s),(Str.ofString "days",.ref d)]))):=But.upd;have x3:upd H2 x (.ins BR dx (Dh (Str.ofString "many") (.ref m) [(Str.ofString "start",.int s),(Str.ofString "days",.ref d)])) x=some (.ins BR dx (moF s d m)):=An;generalize upd H2 x (.ins BR dx (Dh (Str.ofString "many") (.ref m) [(Str.ofString "start",.int s),(Str.ofString "days",.ref d)]))=H3 at k3 x3 ⊢;have k03:But x H9 H3:=fun y o hy h=>k3 y o hy (k2 y o hy (k1 y o hy h));symm;refine q _ (fun y o hy h=>k03 y o hy (s09 _ _ h)) ⟨⟨dx,d,m,x3,hd.butX hx .ins dnx k03,hm.butX hx .ins mnx k03⟩,g,bs⟩
theorem Im:CM0 3 BR "year_start" ["self","year"] (xf K BR Ak):=by
 refine cm' ["self","year"] Mt fun nd H vs Q E hr h=>?_;obtain⟨x,n,s,bd,bm,td,tm,rfl,S,bn,q⟩:=h;obtain⟨dx,d,m,hx,D,M⟩:=S.ex;obtain⟨d1,f1,e1,l1⟩:=D.meth;obtain⟨d2,f2,e2,l2⟩:=M.meth;obtain⟨d4,p4,e4,T4⟩:=M.ex;have g:=S.gd;exists⟨_,(Ad (Al (Af Bb (Bf (pv 0) (by rfl)) (CZ Cv Aq (Bf (pv 0) (by rfl)) (Aa (CZ Cv Aq (Bf (pv 0) (by rfl)) (Aa (pv 1) Ac)) Ac))))),?_⟩;exists⟨x,BR,dx,_,_,rfl,hx,Bs,G4,rfl,?_⟩;exists⟨x,BR,dx,_,_,rfl,hx,Bs,Dp,rfl,?_⟩;exists⟨d,d1,f1,rfl,e1,l1.2.2.1,?_⟩;exists⟨x,BR,dx,_,_,rfl,hx,Bs,Do,rfl,?_⟩;exists⟨m,d2,f2,rfl,e2,l2.2.2.1,?_⟩;refine⟨m,p4,d4,n,_,tm,_,rfl,e4,rfl,rfl,T4,M.gd.b0,M.gd.b1,bn.mono (by decide),fun H1 s1=>?_⟩;obtain⟨d3,p3,e3,T3⟩:=(D.same s1).ex;symm;exists⟨d,p3,d3,_,_,td,_,rfl,e3,rfl,rfl,T3,D.gd.b0,D.gd.b1,(yR g.okm M.gd.b0 M.gd.b1 g.fwm bn).mono (by decide),fun H2 s2=>?_⟩;exact q _ (s1.trans s2)
theorem U4:CM0 4 BR "year_at" ["self","day"] (ACL K BR Ak):=by
 refine cm' ["self","day"] Sy fun nd H vs Q E hr h=>?_;obtain⟨x,n,s,bd,bm,td,tm,rfl,S,bn,q⟩:=h;obtain⟨dx,d,m,hx,D,M⟩:=S.ex;obtain⟨d1,f1,e1,l1⟩:=D.meth;obtain⟨d2,f2,e2,l2⟩:=M.meth;have g:=S.gd;have b1:Bt 291 (n-s):=bn.sub S.bs;exists⟨_,(Ad (Al (CZ Ie Aq (Bf (pv 0) (by rfl)) (Aa (CZ Ie Aq (Bf (pv 0) (by rfl)) (Aa (Af CG (pv 1) (Bf (pv 0) (by rfl))) Ac)) Ac)))),?_⟩;exists⟨x,BR,dx,_,_,rfl,hx,Bs,Do,rfl,?_⟩;exists⟨m,d2,f2,rfl,e2,l2.1,?_⟩;exists⟨x,BR,dx,_,_,rfl,hx,Bs,Dp,rfl,?_⟩;exists⟨d,d1,f1,rfl,e1,l1.1,?_⟩;exists⟨x,BR,dx,_,_,rfl,hx,Bs,G4,rfl,?_⟩;refine⟨d,n-s,_,td,rfl,D,b1.mono (by decide),fun j H1 s1 u1 u2 _=>?_⟩;have bj:Bt 291 j:=b1.le (Ly g.okd g.fd u1 u2);symm;refine⟨m,j,_,tm,rfl,M.same s1,bj.mono (by decide),fun k H2 s2 v1 v2 _=>?_⟩;have bk:Bt 291 k:=bj.le (Ly g.okm g.fm v1 v2);have m1:=Jr g.okd (Jn g.fd) v1;have m2:=Jr g.okd (Jn g.fd) (show j+1<=UP bm tm (k+1) by lia);refine q _ _ (s1.trans s2) ?_ ?_ (bk.mono (by decide))
 ·unfold MYS;lia
 ·unfold MYS;lia
theorem Ko:CM0 3 BR "lengths" ["self","year"] (gK K BR Ak):=by
 refine cm' ["self","year","first"] S5 fun nd H vs Q E hr h=>?_;obtain⟨x,n,s,bd,bm,td,tm,rfl,S,bn,q⟩:=h;obtain⟨dx,d,m,hx,D,M⟩:=S.ex;obtain⟨d2,f2,e2,l2⟩:=M.meth;obtain⟨d4,p4,e4,T4⟩:=M.ex;have g:=S.gd;have a0:=Yw g.okm g.fm n;have a1:=tG g.okm g.fwm (b:=bm) n;have gm:=g.gm;refine⟨_,(Ab (Ah 2 (CZ Cv Aq (Bf (pv 0) (by rfl)) (Aa (pv 1) Ac)))
  (Ad (Al (El rfl (Dv ["self","year","first"] ["self","year","first"] rfl rfl (by with_unfolding_all rfl) (by ac_rfl) rfl (by ac_rfl) rfl (by ac_rfl) (by walk_at"fm") (by with_unfolding_all rfl) (by with_unfolding_all rfl)) (O1 rfl JQ (Aa (CZ Jo Aq (Bf (pv 0) (by rfl)) (Aa (pv 1) Ac)) Ac)) (fun _ _ _ _=>Dq) (fun _ _ _ _=>(CZ (ta:=yg K (Lw 1) (Str.ofString "days")) Jo Aq (Bf (ta:=Lw 1) (pv 1) (by rfl)) (Aa (Af Bb (pv 3) (pv 0)) Ac))))))),?_⟩
 symm;exists⟨x,BR,dx,_,_,rfl,hx,Bs,Do,rfl,?_⟩;exists⟨m,d2,f2,rfl,e2,l2.2.2.1,?_⟩;refine⟨m,p4,d4,n,_,tm,_,rfl,e4,rfl,rfl,T4,M.gd.b0,M.gd.b1,bn.mono (by decide),fun H1 s1=>?_⟩;have hx1:=s1 _ _ hx;have M1:=M.same s1;have D1:=D.same s1;have bu:Bt 386 (UP bm tm n):=yR g.okm M.gd.b0 M.gd.b1 g.fwm bn;obtain⟨d3,f3,e3,l3⟩:=M1.meth;symm;exists Fb (Xx ?_);exists⟨x,BR,dx,_,_,rfl,hx1,Bs,Do,rfl,?_⟩;exists⟨m,d3,f3,rfl,e3,l3.2.1,?_⟩;refine⟨m,n,_,tm,rfl,M1,bn.mono (by decide),fun H2 s2=>?_⟩;have hx2:=s2 _ _ hx1;have D2:=D1.same s2;refine⟨_,rfl,by lia,by lia,?_⟩;refine Gh mW (by rw[js,Zl];exact Cw (by lia)) (fun E i ys H3=>H3 E=some (.lst ys)/\Av H2 H3/\ys=((List.range i).map fun j:Nat=>AT bd td (UP bm tm n+(j:Int))).map V.int) (fun E hE=>⟨An,Ax hE _,rfl⟩)
  (fun E i ys H3 _ ⟨h1,_,h3⟩=>⟨h1,by rw[h3,js,js,Zl];exact qq _,trivial⟩) (fun E i v ys H3 hE hv ⟨h1,h2,h3⟩=>?_) (fun E ys H3 hE ⟨h1,h2,h3⟩=>?_)
 ·rw[zo] at hv;obtain⟨j,hj,rfl⟩:=xz.mp hv;have jl:j<(AT bm tm n).toNat:=jm2.mp (zv hj);obtain rfl:j=i:=by
   have:=zn.mp hj;obtain⟨_,e⟩:=this;rw[List.getElem_range] at e;exact e.symm
  have D3:=D2.same h2;obtain⟨d5,f5,e5,l5⟩:=D3.meth;refine Gu (FT ?_);rw[jo8];symm;exists⟨x,BR,dx,_,_,rfl,h2 _ _ hx2,Bs,Dp,rfl,?_⟩;exists⟨d,d5,f5,rfl,e5,l5.2.1,?_⟩;refine⟨d,_,_,td,rfl,D3,(bu.add ((show Bt 64 (j:Int) from Bx (by lia) (by lia) (by decide)).mono (show 64<=386 by decide))).mono (show 387<=400 by decide),fun H4 s4=>?_⟩;refine⟨s4 _ _ h1,An,Ek hE (h2.trans s4),?_⟩;rw[h3,List.range_succ,uk,uk];rfl
 ·rw[js,Zl] at h3;subst h3;exact q E H3 ((s1.trans s2).free hE) ((s1.trans s2).trans h2) h1
theorem Ym:CM0 3 BR "cycle" ["self"] (oH K BR Ak):=by
 refine cm' ["self","years","months","times"] Xp fun nd H vs Q E hr h=>?_;obtain⟨x,s,bd,bm,td,tm,rfl,S,q⟩:=h;obtain⟨dx,d,m,hx,D,M⟩:=S.ex;obtain⟨d1,f1,e1,l1⟩:=D.meth;obtain⟨d2,f2,e2,l2⟩:=M.meth;obtain⟨d4,p4,e4,T4⟩:=M.ex;have g:=S.gd;obtain⟨Pm0,Pm1,Pmd⟩:=RX g.okm g.fwm;obtain⟨Pd0,Pd1,Pdd⟩:=RX g.okd g.fwd;have M0:=Yq (base:=bm) g.okm g.fm Pm0;have MA:=rW (b:=bm) g.okm M.gd.b0 M.gd.b1 g.fwm (k:=PER tm) (K:=PER tm) (by lia) (by lia);refine⟨_,(Ab (Ah 1 (Cu GX Aq (Bf (pv 0) (by rfl))))
  (Ab (Ah 2 (CZ Cv Aq (Bf (pv 0) (by rfl)) (Aa (pv 1) Ac)))
  (Ab (Ah 3 (Af Bg (Cu GX Aq (Bf (pv 0) (by rfl))) (Ag Wr (Aa (Cu GX Aq (Bf (pv 0) (by rfl))) (Aa (pv 2) Ac)))))
  (Ad (Al (BW (Aa (Af CP (pv 1) (pv 3)) (Aa (CZ Cv Aq (Bf (pv 0) (by rfl)) (Aa (Af CP (pv 2) (pv 3)) Ac)) Ac)))))))),?_⟩
 symm;exists⟨x,BR,dx,_,_,rfl,hx,Bs,Do,rfl,?_⟩;exists⟨m,d2,f2,rfl,e2,l2.2.2.2,?_⟩;exists⟨m,_,tm,rfl,M,?_⟩;exists⟨x,BR,dx,_,_,rfl,hx,Bs,Do,rfl,?_⟩;exists⟨m,d2,f2,rfl,e2,l2.2.2.1,?_⟩;refine⟨m,p4,d4,_,_,tm,_,rfl,e4,rfl,rfl,T4,M.gd.b0,M.gd.b1,Bx (by lia) (by lia) (by decide),fun H1 s1=>?_⟩;have hx1:=s1 _ _ hx;have D1:=D.same s1;obtain⟨d5,f5,e5,l5⟩:=D1.meth;have eT:moT td bm tm=PER td/(Int.gcd (PER td) (UP bm tm (PER tm)):Int):=rfl;generalize hM:UP bm tm (PER tm)=MM at*
 symm;exists⟨x,BR,dx,_,_,rfl,hx1,Bs,Dp,rfl,?_⟩;exists⟨d,d5,f5,rfl,e5,l5.2.2.2,?_⟩;exists⟨d,_,td,rfl,D1,?_⟩;exists⟨x,BR,dx,_,_,rfl,hx1,Bs,Dp,rfl,?_⟩;exists⟨d,d5,f5,rfl,e5,l5.2.2.2,?_⟩;exists⟨d,_,td,rfl,D1,?_⟩;refine⟨_,_,rfl,Bx (by lia) (by lia) (by decide),(Ww (by lia) (by lia)).mono (by decide),fun H2 s2=>?_⟩;have g0:=K6 (b:=MM) Pd0;have g1:=dw (b:=MM) Pd0;symm;refine Ds (Fg g0 (by lia)) ?_;rw[<-eT];have t0:0<=moT td bm tm:=by rw[eT];exact jg0 (by lia) (by lia)
 have t1:moT td bm tm<=PER td:=by rw[eT];exact je7 _ (by lia)
 generalize moT td bm tm=T at*
 have D2:=D1.same s2;have hx2:=s2 _ _ hx1;obtain⟨d6,f6,e6,l6⟩:=D2.meth;obtain⟨d7,p7,e7,T7⟩:=D2.ex;have bM:Bt 200 MM:=Ww (by lia) (by lia);have bT:Bt 64 T:=Bx (by lia) (by lia) (by decide);symm;exists Ds ⟨64,64,Bx (by lia) (by lia) (by decide),bT,by decide⟩ ?_;exists⟨x,BR,dx,_,_,rfl,hx2,Bs,Dp,rfl,?_⟩;exists⟨d,d6,f6,rfl,e6,l6.2.2.1,?_⟩;refine Ds ⟨200,64,bM,bT,by decide⟩ ?_;exists⟨d,p7,d7,_,_,td,_,rfl,e7,rfl,rfl,T7,D.gd.b0,D.gd.b1,(bM.mul bT).mono (by decide),fun H3 s3=>?_⟩;refine⟨two,fun c hc=>?_⟩;exact q _ _ ((s1.trans s2).trans (s3.trans (Ax hc _))) An
theorem Vx:CM0 5 Bd "date_of" ["self","day"] (XS K Bd BR Ak true):=by
 refine cm' ["self","day","year","rest","month","length"] Vl fun nd H vs Q E hr h=>?_;obtain⟨x,n,d,rfl,hb,S,bn,q⟩:=h;obtain⟨s,ls,lp,ts,rfl⟩:∃s ls lp ts,d=.sun s ls lp ts:=by
  cases d with
  | sun s ls lp ts=>first | exact⟨s,ls,lp,ts,rfl⟩ | cases hb
  | moon s bd td bm tm=>first | exact(Bool.noConfusion hb) | cases hb
 have g:=Dj.good S;refine⟨_,(Ab (Ah 2 (CZ Vv Bw (pv 0) (Aa (pv 1) Ac)))
  (Ab (Ah 3 (Af CG (pv 1) (CZ JP Bw (pv 0) (Aa (pv 2) Ac))))
  (Ab (Ah 4 Ae)
  (Ab (Ir PassesOwn.never rfl (Fe (CZ Lr Bw (pv 0) (Aa (pv 2) Ac))) (Cm (i:=5) nd rfl (by walk_at"o"))
   (Ab (Ay (Ai FZ (pv 3) (pv 5) (Am _))
   (Ad Zu)
   Ao)
  (Ab (Ah 3 (Af CG (pv 3) (pv 5)))
  (Ad (Ah 4 (Af Bb (pv 4) Ae))))))
  (Ad (Al (BW (Aa (pv 2) (Aa (pv 4) (Aa (Af Bb (pv 3) Ae) Ac)))))))))),?_⟩
 symm;obtain⟨dx,fs,e,ml⟩:=Hm.meth S;exists⟨x,dx,fs,rfl,e,ml.2.1,?_⟩;refine⟨x,n,s,ls,lp,ts,rfl,S,bn,fun y H1 s1 y0 y1 by'=>?_⟩;have S1:=Dj.same S s1;symm;obtain⟨dx1,fs1,e1,ml1⟩:=Hm.meth S1;exists⟨x,dx1,fs1,rfl,e1,ml1.1,?_⟩;refine⟨x,y,s,ls,lp,ts,rfl,S1,by'.mono (by decide),fun H2 s2=>?_⟩;have S2:=Dj.same S1 s2;symm;walk_at"f";symm;obtain⟨dx2,fs2,e2,ml2⟩:=Hm.meth S2;exists⟨x,dx2,fs2,rfl,e2,ml2.2.2.1,?_⟩;refine⟨x,y,s,ls,lp,ts,rfl,S2,by'.mono (by decide),fun l H3 hl s3 t3=>?_⟩;have st:=BV.step g y;have nn:=BV.mem g y;have ln:=BV.len g y;generalize hD:BV.sun s ls lp ts=d at*
 replace y0:d.Y y<=n:=by rw[<-hD];exact y0
 replace y1:n<d.Y (y+1):=by rw[<-hD];exact y1
 replace t3:H3 l=some (.lst ((d.L y).map V.int)):=by rw[<-hD];exact t3
 have eY:s+UP ls.sum ts y=d.Y y:=by rw[<-hD];rfl
 rw[eY];refine⟨l,rfl,⟨_,SqL.of t3⟩,JM (xs:=(d.L y).map V.int) (fun i Z' H'=>An4 (H3=H') (i<=(d.L y).length) (PS (d.L y) i<=n-d.Y y) (∃c:Option V,Z'=[some (.ref x),some (.int n),some (.int y),some (.int (n-d.Y y-PS (d.L y) i)),some (.int ((i:Int)+1)),c])) ⟨rfl,vj _,by rw[La];lia,none,?_⟩ ?_ ?_ ?_⟩
 ·rw[La,Int.sub_zero];rfl
 ·rintro i Z' H' _ ⟨rfl,_⟩;exact SqL.of t3
 ·rintro i v Z' H' hv ⟨rfl,hi,hp,c,rfl⟩;rw[zo] at hv;obtain⟨z,hz,rfl⟩:=xz.mp hv;have il:i<(d.L y).length:=(zn.mp hz).1;have ez:(d.L y).getD i 0=z:=by
   rw[vv,hz];rfl
  have ps:=Jt il;rw[ez] at ps;symm;refine CK (fun c1=>?_) (fun c1=>?_)
  ·symm;exists pA ?_;refine⟨three,fun p hp'=>?_⟩;refine q p y ((i:Int)+1) _ _ ((s1.trans s2).trans (s3.trans (Ax hp' _))) An ⟨by lia,by lia,by lia,?_⟩ ?_ by'
   ·rw[show ((i:Int)+1-1).toNat=i by lia,ez];lia
   ·unfold Cz;rw[show ((i:Int)+1-1).toNat=i by lia];lia
  ·symm;refine⟨rfl,by lia,by lia,some (.int z),?_⟩;rw[ps,show n-d.Y y-(PS (d.L y) i+z)=n-d.Y y-PS (d.L y) i-z by lia,show((i+1:Nat):Int)+1=(i:Int)+1+1 by lia]<;>rfl
 ·rintro Z' H' ⟨rfl,_,hp,c,rfl⟩;rw[js,Yt] at hp;lia
theorem U5:CM0 5 BR "date_of" ["self","day"] (XS K Bd BR Ak false):=by
 refine cm' ["self","day","year","rest","month","length"] S7 fun nd H vs Q E hr h=>?_;obtain⟨x,n,d,rfl,hb,S,bn,q⟩:=h;obtain⟨s,bd,td,bm,tm,rfl⟩:∃s bd td bm tm,d=.moon s bd td bm tm:=by
  cases d with
  | sun s ls lp ts=>first | exact(Bool.noConfusion hb) | cases hb
  | moon s bd td bm tm=>first | exact⟨s,bd,td,bm,tm,rfl⟩ | cases hb
 have g:=Dj.good S;refine⟨_,(Ab (Ah 2 (CZ U4 Bs (pv 0) (Aa (pv 1) Ac)))
  (Ab (Ah 3 (Af CG (pv 1) (CZ Im Bs (pv 0) (Aa (pv 2) Ac))))
  (Ab (Ah 4 Ae)
  (Ab (Ir PassesOwn.never rfl (Fe (CZ Ko Bs (pv 0) (Aa (pv 2) Ac))) (Cm (i:=5) nd rfl (by walk_at"o"))
   (Ab (Ay (Ai FZ (pv 3) (pv 5) (Am _))
   (Ad Zu)
   Ao)
  (Ab (Ah 3 (Af CG (pv 3) (pv 5)))
  (Ad (Ah 4 (Af Bb (pv 4) Ae))))))
  (Ad (Al (BW (Aa (pv 2) (Aa (pv 4) (Aa (Af Bb (pv 3) Ae) Ac)))))))))),?_⟩
 symm;obtain⟨dx,fs,e,ml⟩:=Fl.meth S;exists⟨x,dx,fs,rfl,e,ml.2.1,?_⟩;refine⟨x,n,s,bd,bm,td,tm,rfl,S,bn,fun y H1 s1 y0 y1 by'=>?_⟩;have S1:=Dj.same S s1;symm;obtain⟨dx1,fs1,e1,ml1⟩:=Fl.meth S1;exists⟨x,dx1,fs1,rfl,e1,ml1.1,?_⟩;refine⟨x,y,s,bd,bm,td,tm,rfl,S1,by'.mono (by decide),fun H2 s2=>?_⟩;have S2:=Dj.same S1 s2;symm;walk_at"f";symm;obtain⟨dx2,fs2,e2,ml2⟩:=Fl.meth S2;exists⟨x,dx2,fs2,rfl,e2,ml2.2.2.1,?_⟩;refine⟨x,y,s,bd,bm,td,tm,rfl,S2,by'.mono (by decide),fun l H3 hl s3 t3=>?_⟩;have st:=BV.step g y;have nn:=BV.mem g y;have ln:=BV.len g y;generalize hD:BV.moon s bd td bm tm=d at*
 replace y0:d.Y y<=n:=by rw[<-hD];exact y0
 replace y1:n<d.Y (y+1):=by rw[<-hD];exact y1
 replace t3:H3 l=some (.lst ((d.L y).map V.int)):=by rw[<-hD];exact t3
 have eY:MYS s bd td bm tm y=d.Y y:=by rw[<-hD];rfl
 rw[eY];refine⟨l,rfl,⟨_,SqL.of t3⟩,JM (xs:=(d.L y).map V.int) (fun i Z' H'=>An4 (H3=H') (i<=(d.L y).length) (PS (d.L y) i<=n-d.Y y) (∃c:Option V,Z'=[some (.ref x),some (.int n),some (.int y),some (.int (n-d.Y y-PS (d.L y) i)),some (.int ((i:Int)+1)),c])) ⟨rfl,vj _,by rw[La];lia,none,?_⟩ ?_ ?_ ?_⟩
 ·rw[La,Int.sub_zero];rfl
 ·rintro i Z' H' _ ⟨rfl,_⟩;exact SqL.of t3
 ·rintro i v Z' H' hv ⟨rfl,hi,hp,c,rfl⟩;rw[zo] at hv;obtain⟨z,hz,rfl⟩:=xz.mp hv;have il:i<(d.L y).length:=(zn.mp hz).1;have ez:(d.L y).getD i 0=z:=by
   rw[vv,hz];rfl
  have ps:=Jt il;rw[ez] at ps;symm;refine CK (fun c1=>?_) (fun c1=>?_)
  ·symm;exists pA ?_;refine⟨three,fun p hp'=>?_⟩;refine q p y ((i:Int)+1) _ _ ((s1.trans s2).trans (s3.trans (Ax hp' _))) An ⟨by lia,by lia,by lia,?_⟩ ?_ by'
   ·rw[show ((i:Int)+1-1).toNat=i by lia,ez];lia
   ·unfold Cz;rw[show ((i:Int)+1-1).toNat=i by lia];lia
  ·symm;refine⟨rfl,by lia,by lia,some (.int z),?_⟩;rw[ps,show n-d.Y y-(PS (d.L y) i+z)=n-d.Y y-PS (d.L y) i-z by lia,show((i+1:Nat):Int)+1=(i:Int)+1+1 by lia]<;>rfl
 ·rintro Z' H' ⟨rfl,_,hp,c,rfl⟩;rw[js,Yt] at hp;lia
theorem Qy:C0 2 "refuse_wanted" ["month","day","step"] uE:=by
 refine co' ["month","day","step"] Qj (len:=by intro _ _ _ _ h;obtain⟨m,d,st,rfl,_⟩:=h;cases m<;>cases d<;>rfl) fun nd H vs Q E hr h=>?_;obtain⟨m,d,st,rfl,m0,d0,st1,q⟩:=h;refine⟨_,(Ab (Ej (Ay (Ai vN (pv 0) GF (Am _))
  (Ad (Bh (Ag Cj (Aa (pv 0) Ac))))
  Ao))
  (Ab (Ay (Ai Bl (pv 1) Ae (Am _))
   (Ad Bc)
   Ao)
  (Ad (Bh (Ag Cj (Aa (pv 2) Ac)))))),?_⟩
 symm;refine EY (fun Z' H'=>H'=H/\Z'=[some (oI m),some (oI d),some (.int st)]) ?_ ?_
 ·symm;exists⟨rfl,?_⟩;cases m with
  | none=>
   exists En ?_;exact⟨rfl,rfl⟩
  | some i=>
   exists FT ?_;exact⟨i,rfl,m0 i rfl,⟨rfl,rfl⟩⟩
 rintro Z' H' ⟨rfl,rfl⟩;cases d with
 | none=>
  symm;exists CJ (fun e=>nomatch e) ?_;exact⟨st,rfl,st1,q⟩
 | some i=>
  symm;exists CJ (fun e=>d0 (xk some (V.int.inj e))) ?_;exact⟨st,rfl,st1,q⟩
theorem Q4:C0 1 "days_of_month" ["first","length","day"] uX:=by
 refine co' ["first","length","day","place"] Qm (len:=by intro _ _ _ _ h;obtain⟨f,n,d,rfl,_⟩:=h;cases d<;>rfl) fun nd H vs Q E hr h=>?_;obtain⟨f,n,d,rfl,n0,n1,q⟩:=h;refine⟨_,(Ab (Ay (Ai IK (pv 2) GF (Am _))
  (Ad (Al (dC rfl rfl bJ rfl JQ (Aa (pv 0) (Aa (Af Bb (pv 0) (pv 1)) Ac)))))
  Ao)
  (Ab (Ej (Ah 3 (Ea (Ai Fq (pv 2) Ae (Am _)) (Af CG (pv 2) Ae) (Af Bb (pv 1) (pv 2)))))
  (Ab (Ay (PW.pt (Gv (Ai FZ (pv 3) Ae (Am _)) (Fp (Ai pW (pv 3) (pv 1) (Am _)))))
   (Ad (Al (FQ Ac)))
   Ao)
  (Ad (Al (FQ (Aa (Af Bb (pv 0) (pv 3)) Ac))))))),?_⟩
 cases d with
 | none=>
  symm;exists⟨rfl,?_⟩;exists FT ?_;refine⟨f,f+n,rfl,by lia,by lia,fun l hl=>?_⟩;refine q l _ hl (Ax hl _) ?_;rw[An,show f+n-f=n by lia];unfold PN;rw[kq];rfl
 | some i=>
  rw[show oI (some i)=V.int i from rfl];symm;exists⟨rfl,?_⟩;exists En ?_;refine EY (fun Z' H'=>H'=H/\Z'=[some (.int f),some (.int n),some (.int i),some (.int (plD n i))]) ?_ ?_
  ·symm;refine CK (fun h=>?_) (fun h=>?_)
   ·rw[show plD n i=i-1 from ya h];symm;exact⟨rfl,rfl⟩
   ·rw[show plD n i=n+i from ua h];symm;exact⟨rfl,rfl⟩
  rintro Z' H' ⟨rfl,rfl⟩;simp only[PN] at q;generalize plD n i=pl at*
  symm;refine CK (fun h1=>FT ?_) (fun h1=>?_)
  ·rw[ya (.inl h1)] at q;symm;refine⟨vj _,fun l hl=>?_⟩;exact q l _ hl (Ax hl _) An
  symm;refine CK (fun h2=>?_) (fun h2=>?_)
  ·rw[ya (.inr h2)] at q;symm;refine⟨vj _,fun l hl=>?_⟩;exact q l _ hl (Ax hl _) An
  ·rw[ua (fun z=>z.elim h1 h2)] at q;symm;refine⟨(by show 1<=sizeLine;decide),fun l hl=>?_⟩;exact q l _ hl (Ax hl _) An
theorem Ut:C0 4 "days_of_year" ["calendar","year","month","day"] (uW K Bd BR Ak):=by
 refine co' ["calendar","year","month","day","told","first","number","length"] Sv (len:=by intro _ _ _ _ h;obtain⟨x,d,y,m,i,rfl,_⟩:=h;cases m<;>cases i<;>rfl) fun nd H vs Q E hr h=>?_;obtain⟨x,d,y,m,i,rfl,S,by',q⟩:=h;have g:=Dj.good S;have ln:=BV.len g y;have lm:=BV.mem g y;have nn:∀n∈d.L y,0<=n:=fun n hn=>(lm n hn).1;refine⟨_,(Ab (Ah 4 (FQ Ac))
  (Ab (Ah 5 (Mw (k:=3) (Hn.cons Bw JP (by decide) (Hn.cons Bs Im (by decide) Hn.nil)) (hr.mono (by decide)) (pv 0) (Aa (pv 1) Ac)))
  (Ab (Ah 6 Ae)
  (Ab (Ir PassesOwn.never rfl (Fe (Mw (k:=3) (Hn.cons Bw Lr (by decide) (Hn.cons Bs Ko (by decide) Hn.nil)) (hr.mono (by decide)) (pv 0) (Aa (pv 1) Ac))) (Cm (i:=7) nd rfl (by walk_at"o"))
   (Ab (Ej (Ay (PW.pt (Gv (Ai IK (pv 2) GF (Am _)) (Fp (Ai Bl (pv 2) (pv 6) (Am _)))))
   (Ad (Bh (Ge Zs jc6 jc7 JL (pv 4) (Aa (Ag Q4 (Aa (pv 5) (Aa (pv 7) (Aa (pv 3) Ac)))) Ac))))
   Ao))
  (Ab (Ah 5 (Af Bb (pv 5) (pv 7)))
  (Ad (Ah 6 (Af Bb (pv 6) Ae))))))
  (Ad (Al (pv 4))))))),?_⟩
 symm;refine⟨vj _,fun t0 ht0=>?_⟩;have s1:=Ax ht0 (.lst []);have e1:upd H t0 (.lst []) t0=some (.lst []):=An;have S1:=Dj.same S s1;generalize upd H t0 (.lst [])=H1 at s1 e1 S1 ⊢;symm;obtain⟨C,dx,fs,sp,mem,e,lk,use⟩:=S1.ys;exists⟨x,C,dx,fs,sp,mem,rfl,e,lk,?_⟩;refine use S1 by' fun H2 s2=>?_
 have S2:=Dj.same S1 s2;have e2:=s2 _ _ e1;have s12:=s1.trans s2;symm;exists Te (JF ?_);obtain⟨C',dx',fs',sp',mem',e',lk',use'⟩:=S2.le;exists⟨x,C',dx',fs',sp',mem',rfl,e',lk',?_⟩;refine use' S2 by' fun l H3 hl s3 t3=>?_
 have e3:=s3 _ _ e2;have s13:=s12.trans s3;have lt:l≠t0:=fun z=>by rw[z,e2] at hl;cases hl
 generalize d.L y=L at*
 generalize d.Y y=Y0 at*
 refine⟨l,rfl,⟨_,SqL.of t3⟩,JM (xs:=L.map V.int) (fun k Z' H'=>An4 (Av H H') (H' l=some (.lst (L.map V.int))) (k<=L.length) (∃(v:Option V),H' t0=some (.lst ((yrL (L.take k) Y0 1 m i).map V.int))/\Z'=[some (.ref x),some (.int y),some (oI m),some (oI i),some (.ref t0),some (.int (Y0+PS L k)),some (.int (1+(k:Int))),v])) ⟨s13,t3,vj _,none,e3,by rw[La,kz];rfl⟩ ?_ ?_ ?_⟩
 ·rintro k Z' H' hk ⟨_,t,_⟩;exact SqL.of t
 ·rintro k v0 Z' H' hv ⟨sH,tl,k1,v,td,rfl⟩;rw[zo] at hv;obtain⟨n,hn,rfl⟩:=xz.mp hv;have kl:k<L.length:=(zn.mp hn).1;have hnm:=lm n (zv hn);have e5:=mU hn Y0 m i;have eP:PS L (k+1)=PS L k+n:=by
   rw[Jt kl,vv,hn];rfl
  have l1:=bK (L.take k) Y0 1 m i fun n hn=>nn n (List.mem_of_mem_take hn);have l2:=W8 (M:=1006) lm;have l3:=iT (f:=Y0+PS L k) hnm.1 i;have l4:(L.take k).sum<=L.sum:=by
   have:=Lb nn (show k<=L.length by lia) (qq _)
   rwa [Yt] at this
  generalize yrL (L.take k) Y0 1 m i=ds at*
  symm;refine EY (fun Z' H'=>An4 (Av H H') (H' l=some (.lst (L.map V.int))) (H' t0=some (.lst ((yrL (L.take (k+1)) Y0 1 m i).map V.int))) (Z'=[some (.ref x),some (.int y),some (oI m),some (oI i),some (.ref t0),some (.int (Y0+PS L k)),some (.int (1+(k:Int))),some (.int n)])) ?_ ?_
  ·have ext:(m=none\/m=some (1+(k:Int)))->∀(l5:Addr) (H5:Hp) (s5:Av H' H5) (t5:H5 l5=some (.lst ((PN (Y0+PS L k) n i).map V.int))) {Q2:VK},(∀(H4:Hp),Av H H4->H4 l=some (.lst (L.map V.int))->H4 t0=some (.lst ((yrL (L.take (k+1)) Y0 1 m i).map V.int))->Q2 .non H4)->RW (.ref t0) [.ref l5] H5 Q2:=fun hm l5 H5 s5 t5 {Q2} hQ=>by
    have td5:=s5 _ _ td;have tl5:=s5 _ _ tl;refine⟨t0,l5,_,_,rfl,rfl,td5,t5,?_,?_⟩
    ·rw[js,js,sizeLine_eq];lia
    ·rw[<-uk];refine hQ _ (fun r o ho=>?_) ?_ ?_
     ·rw[BK fun z=>by rw[z,ht0] at ho;cases ho];exact s5 _ _ (sH _ _ ho)
     ·rw[BK lt];exact tl5
     ·rw[An,e5,ya hm]
   have skip:¬(m=none\/m=some (1+(k:Int)))->Av H H'/\H' l=some (.lst (L.map V.int))/\H' t0=some (.lst ((yrL (L.take (k+1)) Y0 1 m i).map V.int)):=fun hm=>⟨sH,tl,by rw[e5,ua hm,uj];exact td⟩;cases m with
   | none=>
    symm;exists⟨rfl,?_⟩;exists FT (FT ?_);exists Ov rfl td ?_;refine⟨_,n,i,rfl,hnm.1,by lia,fun l5 H5 h5 s5 t5=>?_⟩;refine Gb ?_;refine ext (.inl rfl) l5 H5 s5 t5 fun H4 a1 a2 a3=>?_;exact⟨a1,a2,a3,rfl⟩
   | some j=>
    symm;exists⟨rfl,?_⟩;exists En ?_;refine CK (fun z=>?_) (fun z=>?_)
    ·have z':some j=some (1+(k:Int)):=xk some (V.int.inj z);symm;exists Ov rfl td ?_;refine⟨_,n,i,rfl,hnm.1,by lia,fun l5 H5 h5 s5 t5=>?_⟩;refine Gb ?_;refine ext (.inr z') l5 H5 s5 t5 fun H4 a1 a2 a3=>?_;exact⟨a1,a2,a3,rfl⟩
    ·symm;obtain⟨a1,a2,a3⟩:=skip (fun w=>by rcases w with w | w;cases w;exact z (xk V.int (yv w)));exact⟨a1,a2,a3,rfl⟩
  rintro Z' H4 ⟨sH,tl,td,rfl⟩;symm;refine⟨sH,tl,by lia,some (.int n),td,?_⟩;rw[show (1:Int)+((k+1:Nat):Int)=1+(k:Int)+1 by lia,eP,<-jn2]<;>rfl
 rintro Z' H' ⟨sH,tl,k1,v,td,rfl⟩;symm;rw[js,Qr] at td;exact q t0 _ ht0 sH td
theorem oR:DP ["calendar","month","day","step","rest","cycle","years","size","days","year"] ["calendar","month","day","step","rest"] (BZ Xn):=by walk_at"s"
theorem pZ{ds:Array Value}(F:Ku K "dated" "dated" Xn f fd ds):F0 5 f fd ["calendar","month","day","step","rest"] (ZL K Bd BR Ak):=by
 refine F.ok (k:=4) oR (fun h=>?_) fun nd H vs Q E hr h=>?_
 ·obtain⟨x,g,m,i,rfl,_⟩:=h;cases m<;>cases i<;>rfl
 obtain⟨x,g,m,i,rfl,S,sm,m0,i0,q⟩:=h;have gd:=Dj.good S;have Y0:=sm.y0;have Y1:=sm.y1;have D0:=sm.d0;have D1:=sm.d1;refine⟨_,(Ab (Bh (Ag Qy (Aa (pv 1) (Aa (pv 2) (Aa (pv 3) Ac)))))
  (Ab (Ah 5 (Bu (k:=3) (Hn.cons Bw au (by decide) (Hn.cons Bs Ym (by decide) Hn.nil)) (pv 0)))
  (Ab (Ah 6 (Ag Uu (Aa (pxT 5) (Aa (pv 3) Ac))))
  (Ab (Ah 7 (Af CP (Af Bg (pv 6) (pxT 5)) (pxT 5)))
  (Ab (Bh (Ag Es (Aa (pv 7) Ac)))
  (Ab (Ah 8 (FQ Ac))
  (Ab (Ir PassesOwn.never rfl (WK rfl JQ (Aa (Af Br (pv 4) (pv 3)) (Aa (pv 6) (Aa (pv 3) Ac)))) (Cm (i:=9) nd rfl (by walk_at"o"))
   (Ad (Bh (Ge Zs jc6 jc7 JL (pv 8) (Aa (Ag Ut (Aa (pv 0) (Aa (pv 9) (Aa (pv 1) (Aa (pv 2) Ac))))) Ac)))))
  (Ad (Al (Ag Ji (Aa (pv 7) (Aa (pv 8) Ac)))))))))))),?_⟩
 symm;exists⟨m,i,1,rfl,m0,i0,by decide,?_⟩;obtain⟨C,dx,fs,sp,mem,e,lk,use⟩:=S.cyc;refine⟨x,C,dx,fs,sp,mem,rfl,e,lk,?_⟩;refine use S fun c H1 s1 t1=>?_;clear C dx fs sp mem e lk use;have S1:=Dj.same S s1;generalize hY:g.cy.1=Y at*
 generalize hD:g.cy.2=D at*
 symm;exists Ar (SqT.of t1) at0 ?_;refine⟨_,_,rfl,by lia,by lia,Bx (by lia) (by lia) (by decide),Bx (by lia) (by lia) (by decide),fun H2 s2=>?_⟩;have lc:Ci Y 1=Y:=by rw[WQ (by lia) (by decide)];exact YS (by decide) (by lia) (Int.one_dvd Y)
 rw[lc];symm;exists Ar (SqT.of (s2 _ _ t1)) at0 ?_;exists Ds (Fg (by lia) (by lia)) ?_;exists Ar (SqT.of (s2 _ _ t1)) at1 ?_;rw[Int.ediv_self (by lia)];exists Ja ?_;rw[jc9];exists⟨_,rfl,by lia,?_⟩;refine⟨vj _,fun l hl=>?_⟩;have hlH:H l=none:=(s1.trans s2).free hl;refine fresh hl fun H3 s3 t3=>?_;have S3:=Dj.same (Dj.same S1 s2) s3;symm;exists Te (gW ?_);obtain⟨n,hn⟩:∃n:Nat,(n:Int)=Y:=⟨Y.toNat,by lia⟩;refine⟨0,Y,1,rfl,by lia,by lia,Lx (by lia) (by lia) (by lia) (by lia) (by lia) (by lia),n,by rw[Jb (by decide),ya (by lia)];lia,UJ (fun k Z' H'=>An3 (Av H H') (k<=n) (∃(v:Option V),An4 ((dtL g m i k).length<=30000*k) (H' l=some (.lst ((dtL g m i k).map V.int))) (Dj K Bd BR Ak H' x g) (Z'=[some (.ref x),some (oI m),some (oI i),some (.int 1),some (.int 0),some (.ref c),some (.int Y),some (.int D),some (.ref l),v]))) ⟨s1.trans (s2.trans s3),by lia,none,qq _,t3,S3,rfl⟩ ?_ ?_⟩
 ·rintro k Z' H' hk ⟨sH,k1,v,dl,tl,SH,rfl⟩;have ek:(0:Int)+(k:Int)*1=(k:Int):=by lia
  have ln:=BV.len gd (k:Int);have lm:=BV.mem gd (k:Int);have le:=bK (g.L (k:Int)) (g.Y (k:Int)) 1 m i fun n hn=>(lm n hn).1;have l2:=W8 (M:=1006) lm;have lN:(dtL g m i (k+1)).length<=30000*(k+1):=by
   show(dtL g m i k++_).length<=_;rw[qr];lia
  symm;exists Ov rfl tl ?_;rw[ek];refine⟨x,g,_,m,i,rfl,SH,Bx (by lia) (by lia) (by decide),fun l5 H5 h5 s5 t5=>?_⟩;refine Gb ?_;have tl5:=s5 _ _ tl;refine⟨l,l5,_,_,rfl,rfl,tl5,t5,?_,?_⟩
  ·rw[js,js,sizeLine_eq,<-qr];exact zw lN (by lia)
  ·rw[<-uk];refine⟨fun u o ho=>?_,by lia,_,lN,An,Dj.but (Dj.same SH s5) tl5 But.upd,rfl⟩;rw[BK fun z=>by rw[z,hlH] at ho;cases ho];exact s5 _ _ (sH _ _ ho)
 ·rintro Z' H' ⟨sH,_,v,dl,tl,SH,rfl⟩;symm;refine⟨l,_,D,rfl,SqL.of tl,by lia,by lia,fun p b H6 s6 t6 B=>?_⟩;exact q p b H6 (sH.trans s6) t6 (by rw[show Y.toNat=n by lia];exact B)
theorem wV:C0 5 "dated" ["calendar","month","day","step","rest"] (ZL K Bd BR Ak):=wO (st:=Xn) (ds:= #[.none,.none,(.int 1 Y7),(.int 0 Y6)]) gX gG (by walk_at"dg") (fun _ _ _ _ _ _ _ us hl=>by obtain⟨_,_,_,_,_,rfl⟩:=AAk hl;exact⟨_,rfl,rfl⟩) pZ
theorem ACZ:DP ["turn","day"] ["turn","day"] (BZ zg):=by walk_at"s"
theorem ACt(F:Fun K "on" "on" zg f fd):F0 1 f fd ["turn","day"] (ACI K):=by
 refine F.ok (k:=0) ACZ (fun h=>?_) fun nd H vs Q E hr h=>?_
 ·obtain⟨a,n,d,b,rfl,_⟩:=h;rfl
 obtain⟨a,n,d,b,rfl,hS,h0,q⟩:=h;exists⟨_,(Ad (Al (Ef Bl (Af IV (Af MK (pxT 0) (Af Br (pv 1) (pxT 0))) Ae) Ae (Am _)))),?_⟩;exists Ar hS at1 ?_;refine Ar hS at0 ?_;exists Ds h0 ?_;exists Ds (show (0:Int)<=d%n from zh d (by lia)) ?_;rw[wy];exact q
theorem aX:C0 1 "on_rounds" ["turn","day"] (ACI K):=co (st:=zg) (by walk_at"g") (by walk_at"b") fun F=>ACt F
theorem Og:DP ["self","kept","made_of","words"] ["self","kept","made_of","words"] (BZ HY):=by walk_at"s"
theorem O6{ds:Array Value}(F:Ku K "__init__" "Rule.__init__" HY f fd ds):F0 1 f fd ["self","kept","made_of","words"] (gH K Ba):=by
 refine F.ok (k:=0) Og (fun h=>?_) fun nd H vs Q E hr h=>?_
 ·obtain⟨x,p,pm,pw,C,dx,rfl,_⟩:=h;rfl
 obtain⟨x,p,pm,pw,C,dx,rfl,hx,R,q⟩:=h;refine⟨_,(Ab (Fd (pv 0) (Ea (Ai IK (pv 1) GF (Am _)) (BW (Aa Ae (Aa Ae Ac))) (pv 1)) (by rfl))
  (Ab (Fd (pv 0) (Ea (Ai IK (pv 2) GF (Am _)) (BW Ac) (pv 2)) (by rfl))
  (Ad (Fd (pv 0) (Ea (Ai IK (pv 3) GF (Am _)) (BW (Aa Aj Ac)) (pv 3)) (by rfl))))),?_⟩
 symm;symm;exists⟨rfl,gZ (CJ (fun e=>nomatch e) ?_)⟩;exists⟨x,C,dx,[],rfl,hx,R.cl,R.k,by decide,?_⟩;symm;exists⟨rfl,gZ (CJ (fun e=>nomatch e) ?_)⟩;exists⟨x,C,dx,_,rfl,An,R.cl,R.m,(show 1<1000 by decide),?_⟩;symm;exists⟨rfl,gZ (CJ (fun e=>nomatch e) ?_)⟩;exists⟨x,C,dx,_,rfl,An,R.cl,R.w,(show 2<1000 by decide),?_⟩;refine q _ (fun y o ne e=>?_) An;rw[BK ne,BK ne,BK ne];exact e
theorem Bm:ABh P w K mg base 1 "Rule" ["self","kept","made_of","words"] (gH K Ba):=rG (st:=HY) (ds:= #[.none,.none,.none]) gX gG (by walk_at"k") (by walk_at"k") (by walk_at"k") (by walk_at"db") (fun _ _ _ _ _ _ _ us hl=>by obtain⟨_,_,_,_,rfl⟩:=ACy hl;exact⟨_,rfl,rfl⟩) O6
theorem Xd:DP ["self"] ["self"] (BZ KH):=by walk_at"s"
theorem YH{k d:Nat}(F:Fun K "turn" "Rule.turn" KH f fd)(cr:Hn P w K mg base CX0 k "turn" ["self"] (CL.map fun C=>(C,(spR (RT K Ba CL)) d)))(hk:1<=k):F0 (k+1) f fd ["self"] ((spR (RT K Ba CL)) (d+1)):=by
 refine F.ok (k:=k) Xd (fun h=>?_) fun nd H vs Q E hr h=>?_
 ·obtain⟨_,x,n,b,rfl,_⟩:=h;rfl
 obtain⟨_,x,n,b,rfl,R,q⟩:=h;obtain⟨C,dx,p,pm,pw,hC,rc,hx,hp⟩:=R.ex;exists⟨_,(Ad (Al (Bf (pv 0) (by rfl)))),?_⟩;exact⟨x,C,dx,_,_,rfl,hx,rc.cl,rc.k,rfl,q p hp⟩
theorem Bq:Hn P w K mg base CX0 2 "turn" ["self"] (CL.map fun C=>(C,(spR (RT K Ba CL)) 1)):=TY (k0:=1) (Cs:=CL) (sp:=(spR (RT K Ba CL))) (st:=KH) (all_cons ⟨Wm,by walk_at"h"⟩ (all_cons ⟨aD,by walk_at"h"⟩ (all_cons ⟨Uc,by walk_at"h"⟩ (all_cons ⟨QL,by walk_at"h"⟩ (all_cons ⟨Wh,by walk_at"h"⟩ (all_cons ⟨Ud,by walk_at"h"⟩ (all_cons ⟨Ng,by walk_at"h"⟩ (all_cons ⟨Wj,by walk_at"h"⟩ (all_cons ⟨Nf,by walk_at"h"⟩ (all_cons ⟨QJ,by walk_at"h"⟩ (all_cons ⟨UW,by walk_at"h"⟩ (all_cons ⟨QH,by walk_at"h"⟩ (all_cons ⟨Ub,by walk_at"h"⟩ (all_cons ⟨Ua,by walk_at"h"⟩ (all_cons ⟨Wi,by walk_at"h"⟩ (all_cons ⟨QK,by walk_at"h"⟩ all_nil)))))))))))))))) (by walk_at"b") (fun _ _ _ _ h=>ZF h) (fun d _ _ CL F=>YH F CL (jb6 _ _)) 1
theorem bz:DP ["self","day"] ["self","day"] (BZ Ol):=by walk_at"s"
theorem dI{k d:Nat}(F:Fun K "on" "Rule.on" Ol f fd)(cr:Hn P w K mg base CX0 k "on" ["self","day"] (CL.map fun C=>(C,(spR (gJ K Ba CL)) d)))(hk:2<=k):F0 (k+1) f fd ["self","day"] ((spR (gJ K Ba CL)) (d+1)):=by
 refine F.ok (k:=k) bz (fun h=>?_) fun nd H vs Q E hr h=>?_
 ·obtain⟨_,x,n,d,b,rfl,_⟩:=h;rfl
 obtain⟨_,x,n,d,b,rfl,R,q⟩:=h;obtain⟨C,dx,p,pm,pw,hC,rc,hx,hp⟩:=R.ex;exists⟨_,(Ad (Al (Ag aX (Aa (Bf (pv 0) (by rfl)) (Aa (pv 1) Ac))))),?_⟩;exists⟨x,C,dx,_,_,rfl,hx,rc.cl,rc.k,rfl,?_⟩;exact⟨p,n,d,b,rfl,SqT.of hp,R.n0,q⟩
theorem rJ:Hn P w K mg base CX0 3 "on" ["self","day"] (CL.map fun C=>(C,(spR (gJ K Ba CL)) 1)):=TY (k0:=2) (Cs:=CL) (sp:=(spR (gJ K Ba CL))) (st:=Ol) (all_cons ⟨Wm,by walk_at"h"⟩ (all_cons ⟨aD,by walk_at"h"⟩ (all_cons ⟨Uc,by walk_at"h"⟩ (all_cons ⟨QL,by walk_at"h"⟩ (all_cons ⟨Wh,by walk_at"h"⟩ (all_cons ⟨Ud,by walk_at"h"⟩ (all_cons ⟨Ng,by walk_at"h"⟩ (all_cons ⟨Wj,by walk_at"h"⟩ (all_cons ⟨Nf,by walk_at"h"⟩ (all_cons ⟨QJ,by walk_at"h"⟩ (all_cons ⟨UW,by walk_at"h"⟩ (all_cons ⟨QH,by walk_at"h"⟩ (all_cons ⟨Ub,by walk_at"h"⟩ (all_cons ⟨Ua,by walk_at"h"⟩ (all_cons ⟨Wi,by walk_at"h"⟩ (all_cons ⟨QK,by walk_at"h"⟩ all_nil)))))))))))))))) (by walk_at"b") (fun _ _ _ _ h=>ZF h) (fun d _ _ CL F=>dI F CL (jb6 _ _)) 1
theorem U9:CI0 3 "All" Wv ["self"] (ACS K Ba CL Wv 1):=by
 refine ci' ["self"] TV fun nd H vs Q E hr h=>?_;obtain⟨x,rfl,⟨dx,hx⟩,q⟩:=h;exists⟨_,(Ad (Bh (Dr Bm (Aa (pv 0) (Aa (BW (Aa Ae (Aa Ae Ac))) (Aa (BW Ac) (Aa (BW (Aa Aj Ac)) Ac))))))),?_⟩;refine⟨Hz,fun p hp=>?_⟩;refine fresh hp fun H1 s1 t1=>?_;have t1:H1 p=some (.tup [.int 1,.int ((1:Nat):Int)]):=t1;symm;refine⟨(by show 0<=sizeLine;decide),fun pm hpm=>?_⟩;exists fresh hpm fun H2 s2 t2=>?_;refine⟨(by show 1<=sizeLine;decide),fun pw hpw=>?_⟩;refine fresh hpw fun H3 s3 t3=>?_;have s3:=s2.trans s3;have hx3:=(s1.trans s3) _ _ hx;symm;exact⟨x,p,pm,pw,Wv,dx,rfl,hx3,Wg,fun H' k e=>q _ H' (k.pre (s1.trans s3)) (GQ (zv (i:=0) rfl) Wg hx3 (s3 _ _ t1) k e (by decide) (by decide) (by decide)) rfl⟩
theorem Vy:CI0 3 "No" lq ["self"] (ACS K Ba CL lq 0):=by
 refine ci' ["self"] Vo fun nd H vs Q E hr h=>?_;obtain⟨x,rfl,⟨dx,hx⟩,q⟩:=h;exists⟨_,(Ad (Bh (Dr Bm (Aa (pv 0) (Aa (BW (Aa Ae (Aa Ae Ac))) (Aa (BW Ac) (Aa (BW (Aa Aj Ac)) Ac))))))),?_⟩;refine⟨Hz,fun p hp=>?_⟩;refine fresh hp fun H1 s1 t1=>?_;have t1:H1 p=some (.tup [.int 1,.int ((0:Nat):Int)]):=t1;symm;refine⟨(by show 0<=sizeLine;decide),fun pm hpm=>?_⟩;exists fresh hpm fun H2 s2 t2=>?_;refine⟨(by show 1<=sizeLine;decide),fun pw hpw=>?_⟩;refine fresh hpw fun H3 s3 t3=>?_;have s3:=s2.trans s3;have hx3:=(s1.trans s3) _ _ hx;symm;exact⟨x,p,pm,pw,lq,dx,rfl,hx3,aC,fun H' k e=>q _ H' (k.pre (s1.trans s3)) (GQ (zv (i:=1) rfl) aC hx3 (s3 _ _ t1) k e (by decide) (by decide) (by decide)) rfl⟩
theorem QQ:C0 1 "each_text" ["step","rest"] ACV:=by
 refine co' ["step","rest","least_rest"] Zk fun nd H vs Q E hr h=>?_;obtain⟨n,r,rfl,n0,n1,q⟩:=h;refine⟨_,(Ab (Ah 2 (Af Br (pv 1) (pv 0)))
  (Ad (Al (K4 (DY Aj (DY (Jc hr.toN (pv 0)) (DY Aj (DY (Jc hr.toN (pv 2)) Oz)))))))),?_⟩
 symm;have m0:=zh r (show n≠0 by lia);have m1:=qk r (show 0<n by lia);have g1:n.natAbs.log2<1920:=AAj (by lia) (by lia);have g2:(r%n).natAbs.log2<1920:=AAj (by lia) (by lia);refine Jy 0 (by decide) (by decide) fun l1=>Tc _ l1 (by decide) rfl g1 fun l2=>Jy _ l2 (by decide) fun l3=>Tc _ l3 (by decide) rfl g2 fun l4=>Kw (fits l4 (by decide)) ?_;refine q _ ?_;rw[KY,KY,KY,KY];have e0:Str.empty.length=0:=by ac_rfl
 have e1:(Str.ofString "each ").length=5:=by ac_rfl
 have e2:(Str.ofString " from ").length=6:=by ac_rfl
 have e3:=Ka g1;have e4:=Ka g2;lia
theorem RG:CI0 3 "Each" Ph ["self","size","rest"] (ACQ K Ba CL Ph):=by
 refine ci' ["self","size","rest","kept"] Qs fun nd H vs Q E hr h=>?_;obtain⟨x,n,r,rfl,n0,n1,⟨dx,hx⟩,q⟩:=h;refine⟨_,(Ab (Ah 3 (Ag Ji (Aa (pv 1) (Aa (FQ (Aa (pv 2) Ac)) Ac))))
  (Ad (Bh (Dr Bm (Aa (pv 0) (Aa (pv 3) (Aa (BW Ac) (Aa (BW (Aa (Ag QQ (Aa (pv 1) (Aa (pv 2) Ac))) Ac)) Ac)))))))),?_⟩
 symm;refine⟨(by show 1<=sizeLine;decide),fun l hl=>?_⟩;refine fresh hl fun H0 s0 t0=>?_;have t0:H0 l=some (.lst ([r].map V.int)):=t0;symm;refine⟨l,[r],n,rfl,SqL.of t0,by lia,by lia,fun p b H1 s1 t1 B=>?_⟩;have s1:=s0.trans s1;symm;refine⟨(by show 0<=sizeLine;decide),fun pm hpm=>?_⟩;exists fresh hpm fun H2 s2 t2=>?_;exists⟨n,r,rfl,n0,n1,fun z hz=>?_⟩;refine⟨(by show 1<=sizeLine;decide),fun pw hpw=>?_⟩;refine fresh hpw fun H3 s3 t3=>?_;have s3:=s2.trans s3;have hx3:=(s1.trans s3) _ _ hx;symm;exact⟨x,p,pm,pw,Ph,dx,rfl,hx3,UV,fun H' k e=>q _ H' (k.pre (s1.trans s3)) (GQ (zv (i:=2) rfl) UV hx3 (s3 _ _ t1) k e (by lia) (by lia) B.lt) B⟩
theorem Lj:C0 1 "wanted_text" ["number"] ABx:=by
 refine co' ["number"] VR fun nd H vs Q E hr h=>?_;obtain⟨m,rfl,hm,q⟩:=h;refine⟨_,(Ad (Al (Ea (Ai IK (pv 0) GF (Am _)) Aj (BP Az rfl Cr qg (Aa (pv 0) Ac))))),?_⟩;cases m with
 | none=>
  symm
  try refine Ou ?_
  symm;exists⟨rfl,?_⟩;exists FT ?_;exact q _ (by ac_rfl)
 | some j=>
  rw[show oI (some j)=V.int j from rfl];symm
  try refine Ou ?_
  symm;exists⟨rfl,?_⟩;exists En ?_;exact⟨_,rfl,hm j rfl,q _ (Ka (hm j rfl))⟩
theorem Yl:C0 2 "dated_text" ["name","month","day","step","rest"] ACX:=by
 refine co' ["name","month","day","step","rest","words"] Xm (len:=by intro _ _ _ _ h;obtain⟨z,m,d,rfl,_⟩:=h;cases m<;>cases d<;>rfl) fun nd H vs Q E hr h=>?_;obtain⟨z,m,d,rfl,tzl,hm,hd,q⟩:=h;refine⟨_,(Ab (Ah 5 (FQ (Aa Aj (Aa (pv 0) (Aa (Ag Lj (Aa (pv 1) Ac)) (Aa (Ag Lj (Aa (pv 2) Ac)) Ac))))))
  (Ab (Ej (Ay (Ai Fq (pv 3) Ae (Am _))
   (Ad (Bh (Ge Zs PySem.F.slot_list_append PySem.F.type_list_append WN (pv 5) (Aa (Ag QQ (Aa (pv 3) (Aa (pv 4) Ac))) Ac))))
   Ao))
  (Ad (Al (Ge yy PySem.F.slot_str_join PySem.F.type_str_join iB Aj (Aa (pv 5) Ac)))))),?_⟩
 symm;exists⟨m,rfl,hm,fun z1 t1l=>?_⟩;exists⟨d,rfl,hd,fun z2 t2l=>?_⟩;refine⟨four,fun l hl=>?_⟩;refine fresh hl fun H1 s1 e1=>?_;have e1:H1 l=some (.lst (([Str.ofString "date",z,z1,z2]:List Str).map V.str)):=e1;symm;have eb:(Str.ofString " ").length=1:=by ac_rfl
 have e4:(Str.ofString "date").length=4:=by ac_rfl
 refine EY (fun Z' H'=>H'=H1/\Ex5 fun(w0 w1 w2 w3 w4:V)=>Z'=[some w0,some w1,some w2,some w3,some w4,some (.ref l)]) ?_ ?_
 ·symm;exists CJ (by decide) ?_;exact⟨rfl,_,_,_,_,_,rfl⟩
 rintro Z' H2 ⟨rfl,w0,w1,w2,w3,w4,rfl⟩;symm;exists Ii ?_;exists⟨rfl,?_⟩;refine⟨_,l,_,rfl,rfl,SqL.of e1,?_,q _ _ s1⟩;rw[eb];show((Str.ofString "date").length+(z.length+(z1.length+(z2.length+0))))+4*1<=_;lia
theorem Mp:DP ["self","name","calendar","month","day","step","rest","kept"] ["self","name","calendar","month","day","step","rest"] (BZ Gz):=by walk_at"s"
theorem NK{ds:Array Value}(F:Ku K "__init__" "Dated.__init__" Gz f fd ds):F0 6 f fd ["self","name","calendar","month","day","step","rest"] (xg K Ba CL Jp Bd BR Ak):=by
 refine F.ok (k:=5) Mp (fun h=>?_) fun nd H vs Q E hr h=>?_
 ·obtain⟨x,y,z,g,m,d,rfl,_⟩:=h;cases m<;>cases d<;>rfl
 obtain⟨x,y,z,g,m,d,rfl,tz,S,sm,m0,hm,d0,hd,⟨dx,hx⟩,q⟩:=h;refine⟨_,(Ab (Ah 7 (Ag wV (Aa (pv 2) (Aa (pv 3) (Aa (pv 4) (Aa (pv 5) (Aa (pv 6) Ac)))))))
  (Ad (Bh (Dr Bm (Aa (pv 0) (Aa (pv 7) (Aa (BW Ac) (Aa (BW (Aa (Ag Yl (Aa (pv 1) (Aa (pv 3) (Aa (pv 4) (Aa (pv 5) (Aa (pv 6) Ac)))))) Ac)) Ac)))))))),?_⟩
 symm;exists⟨y,g,m,d,rfl,S,sm,m0,d0,fun p c H1 s1 t1 B=>?_⟩;refine⟨(by show 0<=sizeLine;decide),fun pm hpm=>?_⟩;exists fresh hpm fun H2 s2 t2=>?_;exists⟨z,m,d,rfl,tz,hm,hd,fun zt Hy sy=>?_⟩;refine⟨(by show 1<=sizeLine;decide),fun pw hpw=>?_⟩;refine fresh hpw fun H3 s3 t3=>?_;have s3:=sy.trans s3;have s3:=s2.trans s3;have hx3:=(s1.trans s3) _ _ hx;symm;exact⟨x,p,pm,pw,Jp,dx,rfl,hx3,QG,fun H' k e=>q _ H' (k.pre (s1.trans s3)) (GQ (zv (i:=3) rfl) QG hx3 (s3 _ _ t1) k e (by have:=sm.d0;lia) (by have:=sm.d1;lia) B.lt) B⟩
theorem Pj:CI0 6 "Dated" Jp ["self","name","calendar","month","day","step","rest"] (xg K Ba CL Jp Bd BR Ak):=Um (st:=Gz) (ds:= #[.none,.none,(.int 1 J7),(.int 0 J6)]) gX gG (by walk_at"k") (by walk_at"k") (by walk_at"k") (by walk_at"dm") (fun _ _ _ _ _ _ _ us hl=>by obtain⟨_,_,_,_,_,_,_,rfl⟩:=ACx hl;exact⟨_,rfl,rfl⟩) NK
theorem U0:CI0 3 "Not" Wt ["self","R"] (ACR K Ba CL Wt):=by
 refine ci' ["self","R"] Sx fun nd H vs Q E hr h=>?_;obtain⟨x,r,n,b,rfl,R,⟨dx,hx⟩,q⟩:=h;exists⟨_,(Ad (Bh (Dr Bm (Aa (pv 0) (Aa (Ag Jk (Aa (Bu Bq (pv 1)) Ac)) (Aa (BW (Aa (pv 1) Ac)) (Aa (BW (Aa Aj (Aa Aj Ac))) Ac))))))),?_⟩;obtain⟨C,dr,fs,m,hr,l1,_⟩:=R.mt;exists⟨r,C,dr,fs,_,m _,rfl,hr,l1,?_⟩;exists⟨je1,r,n,b,rfl,R,fun p hp=>?_⟩;exists⟨p,n,b,rfl,⟨hp,R.n0,R.n1,R.lt⟩,fun p2 c H1 s1 Rr=>?_⟩;refine⟨(by show 1<=sizeLine;decide),fun pm hpm=>?_⟩;exists fresh hpm fun H2 s2 t2=>?_;refine⟨Hz,fun pw hpw=>?_⟩;refine fresh hpw fun H3 s3 t3=>?_;have s3:=s2.trans s3;have hx3:=(s1.trans s3) _ _ hx;symm;exact⟨x,p2,pm,pw,Wt,dx,rfl,hx3,Wc,fun H' k e=>q _ H' (k.pre (s1.trans s3)) (GQ (zv (i:=4) rfl) Wc hx3 (s3 _ _ Rr.s) k e Rr.p Rr.l Rr.k) trivial⟩
theorem RK:CI0 6 "Both" U8 ["self","R","S"] (Mm K Ba CL U8):=by
 refine ci' ["self","R","S"] Qu fun nd H vs Q E hr h=>?_;obtain⟨x,r,t,n1,n2,b1,b2,rfl,R1,R2,lz,⟨dx,hx⟩,q⟩:=h;refine⟨_,(Ad (Bh (Dr Bm (Aa (pv 0) (Aa (Ag Kh (Aa (Bu Bq (pv 1)) (Aa (Bu Bq (pv 2)) Ac))) (Aa (BW (Aa (pv 1) (Aa (pv 2) Ac))) (Aa (BW (Aa Aj (Aa Aj (Aa Aj Ac)))) Ac))))))),?_⟩;have rc:=eG;revert R1 R2 lz hx q rc;walk_at"i2"
theorem Nv:CI0 6 "Either" Kp ["self","R","S"] (Mm K Ba CL Kp):=by
 refine ci' ["self","R","S"] Mu fun nd H vs Q E hr h=>?_;obtain⟨x,r,t,n1,n2,b1,b2,rfl,R1,R2,lz,⟨dx,hx⟩,q⟩:=h;refine⟨_,(Ad (Bh (Dr Bm (Aa (pv 0) (Aa (Ag Us (Aa (Bu Bq (pv 1)) (Aa (Bu Bq (pv 2)) Ac))) (Aa (BW (Aa (pv 1) (Aa (pv 2) Ac))) (Aa (BW (Aa Aj (Aa Aj (Aa Aj Ac)))) Ac))))))),?_⟩;have rc:=Ye;revert R1 R2 lz hx q rc;walk_at"i2"
theorem U7:CI0 7 "But" az ["self","R","S"] (Mm K Ba CL az):=by
 refine ci' ["self","R","S"] TQ fun nd H vs Q E hr h=>?_;obtain⟨x,r,t,n1,n2,b1,b2,rfl,R1,R2,lz,⟨dx,hx⟩,q⟩:=h;refine⟨_,(Ad (Bh (Dr Bm (Aa (pv 0) (Aa (Ag PQ (Aa (Bu Bq (pv 1)) (Aa (Bu Bq (pv 2)) Ac))) (Aa (BW (Aa (pv 1) (Aa (pv 2) Ac))) (Aa (BW (Aa Aj (Aa Aj (Aa Aj Ac)))) Ac))))))),?_⟩;have rc:=lB;revert R1 R2 lz hx q rc;walk_at"i2"
theorem Nq:CI0 6 "Unlike" Km ["self","R","S"] (Mm K Ba CL Km):=by
 refine ci' ["self","R","S"] Mr fun nd H vs Q E hr h=>?_;obtain⟨x,r,t,n1,n2,b1,b2,rfl,R1,R2,lz,⟨dx,hx⟩,q⟩:=h;refine⟨_,(Ad (Bh (Dr Bm (Aa (pv 0) (Aa (Ag aL (Aa (Bu Bq (pv 1)) (Aa (Bu Bq (pv 2)) Ac))) (Aa (BW (Aa (pv 1) (Aa (pv 2) Ac))) (Aa (BW (Aa Aj (Aa Aj (Aa Aj Ac)))) Ac))))))),?_⟩;have rc:=Yd;revert R1 R2 lz hx q rc;walk_at"i2"
theorem Q6:CI0 8 "Upon" Ux ["self","R","S"] (Mm K Ba CL Ux):=by
 refine ci' ["self","R","S"] Qn fun nd H vs Q E hr h=>?_;obtain⟨x,r,t,n1,n2,b1,b2,rfl,R1,R2,lz,⟨dx,hx⟩,q⟩:=h;refine⟨_,(Ad (Bh (Dr Bm (Aa (pv 0) (Aa (Ag fB (Aa (Bu Bq (pv 1)) (Aa (Bu Bq (pv 2)) Ac))) (Aa (BW (Aa (pv 1) (Aa (pv 2) Ac))) (Aa (BW (Aa Aj (Aa Aj (Aa Aj Ac)))) Ac))))))),?_⟩;have rc:=d9;revert R1 R2 lz hx q rc;walk_at"i2"
theorem Pa:CI0 8 "Until" Np ["self","R","S"] (Mm K Ba CL Np):=by
 refine ci' ["self","R","S"] Oi fun nd H vs Q E hr h=>?_;obtain⟨x,r,t,n1,n2,b1,b2,rfl,R1,R2,lz,⟨dx,hx⟩,q⟩:=h;refine⟨_,(Ad (Bh (Dr Bm (Aa (pv 0) (Aa (Ag Yi (Aa (Bu Bq (pv 1)) (Aa (Bu Bq (pv 2)) Ac))) (Aa (BW (Aa (pv 1) (Aa (pv 2) Ac))) (Aa (BW (Aa Aj (Aa Aj (Aa Aj Ac)))) Ac))))))),?_⟩;have rc:=aB;revert R1 R2 lz hx q rc;walk_at"i2"
theorem Q8:CI0 10 "Near" U3 ["self","R","S"] (Mm K Ba CL U3):=by
 refine ci' ["self","R","S"] Qp fun nd H vs Q E hr h=>?_;obtain⟨x,r,t,n1,n2,b1,b2,rfl,R1,R2,lz,⟨dx,hx⟩,q⟩:=h;refine⟨_,(Ad (Bh (Dr Bm (Aa (pv 0) (Aa (Ag ABN (Aa (Bu Bq (pv 1)) (Aa (Bu Bq (pv 2)) Ac))) (Aa (BW (Aa (pv 1) (Aa (pv 2) Ac))) (Aa (BW (Aa Aj (Aa Aj (Aa Aj Ac)))) Ac))))))),?_⟩;have rc:=eF;revert R1 R2 lz hx q rc;walk_at"i2"
theorem Q7:CI0 8 "Till" Uy ["self","R","S"] (Mm K Ba CL Uy):=by
 refine ci' ["self","R","S"] Qo fun nd H vs Q E hr h=>?_;obtain⟨x,r,t,n1,n2,b1,b2,rfl,R1,R2,lz,⟨dx,hx⟩,q⟩:=h;refine⟨_,(Ad (Bh (Dr Bm (Aa (pv 0) (Aa (Ag rH (Aa (Bu Bq (pv 1)) (Aa (Bu Bq (pv 2)) Ac))) (Aa (BW (Aa (pv 1) (Aa (pv 2) Ac))) (Aa (BW (Aa Aj (Aa Aj (Aa Aj Ac)))) Ac))))))),?_⟩;have rc:=eE;revert R1 R2 lz hx q rc;walk_at"i2"
theorem Pb:CI0 3 "Later" LK ["self","number","R"] (ACO K Ba CL LK):=by
 refine ci' ["self","number","R"] Oo fun nd H vs Q E hr h=>?_;obtain⟨x,r,num,n,b,rfl,lg,R,⟨dx,hx⟩,q⟩:=h;exists⟨_,(Ad (Bh (Dr Bm (Aa (pv 0) (Aa (Ag Il (Aa (Bu Bq (pv 2)) (Aa (pv 1) Ac))) (Aa (BW (Aa (pv 2) Ac)) (Aa (BW (Aa (K4 (DY Aj (DY (Jc hr.toN (pv 1)) (DY Aj Oz)))) (Aa Aj Ac))) Ac))))))),?_⟩;obtain⟨C,dr,fs,m,hr,l1,_⟩:=R.mt;exists⟨r,C,dr,fs,_,m _,rfl,hr,l1,?_⟩;exists⟨je1,r,n,b,rfl,R,fun p hp=>?_⟩;exists Rn.la ⟨hp,R.n0,R.n1,R.lt⟩ fun p2 c H1 s1 Rr=>?_;refine⟨(by show 1<=sizeLine;decide),fun pm hpm=>?_⟩;exists fresh hpm fun H2 s2 t2=>?_;refine Jy 0 (by decide) (by decide) fun l1=>Tc _ l1 (by decide) rfl lg fun l2=>Jy _ l2 (by decide) fun l3=>Kw (fits l3 (by decide)) ?_;generalize (Str.empty++Str.ofString "("++Ca num++Str.ofString " later ")=zt at*
 symm;refine⟨Hz,fun pw hpw=>?_⟩;refine fresh hpw fun H3 s3 t3=>?_;have s3:=s2.trans s3;have hx3:=(s1.trans s3) _ _ hx;symm;exact⟨x,p2,pm,pw,LK,dx,rfl,hx3,QD,fun H' k e=>q _ H' (k.pre (s1.trans s3)) (GQ (zv (i:=9) rfl) QD hx3 (s3 _ _ Rr.s) k e Rr.p Rr.l Rr.k) trivial⟩
theorem U6:CI0 9 "Kth" Wu ["self","number","R","S"] (ACP K Ba CL Wu):=by
 refine ci' ["self","number","R","S","kept"] TF fun nd H vs Q E hr h=>?_;obtain⟨x,r,t,num,n1,n2,b1,b2,rfl,k0,lg,R1,R2,lz,⟨dx,hx⟩,q⟩:=h;refine⟨_,(Ab (Ah 4 (Ag ADS (Aa (pv 1) (Aa (Bu Bq (pv 2)) (Aa (Bu Bq (pv 3)) Ac)))))
  (Ad (Bh (Dr Bm (Aa (pv 0) (Aa (pv 4) (Aa (BW (Aa (pv 2) (Aa (pv 3) Ac))) (Aa (BW (Aa (K4 (DY Aj (DY (Jc hr.toN (pv 1)) (DY Aj Oz)))) (Aa Aj (Aa Aj Ac)))) Ac)))))))),?_⟩
 symm;obtain⟨C,dr,fs,m,hr,l1,_⟩:=R1.mt;exists⟨r,C,dr,fs,_,m _,rfl,hr,l1,?_⟩;exists⟨je1,r,n1,b1,rfl,R1,fun p hp=>?_⟩;obtain⟨C',dr',fs',m',hr',l1',_⟩:=R2.mt;exists⟨t,C',dr',fs',_,m' _,rfl,hr',l1',?_⟩;exists⟨je1,t,n2,b2,rfl,R2,fun p' hp'=>?_⟩;exists⟨num,p,p',n1,n2,b1,b2,rfl,⟨hp,R1.n0,R1.n1,R1.lt⟩,⟨hp',R2.n0,R2.n1,R2.lt⟩,k0,lz,fun p2 c H1 s1 Rr=>?_⟩;refine⟨Hz,fun pm hpm=>?_⟩;exists fresh hpm fun H2 s2 t2=>?_;refine Jy 0 (by decide) (by decide) fun l1=>Tc _ l1 (by decide) rfl lg fun l2=>Jy _ l2 (by decide) fun l3=>Kw (fits l3 (by decide)) ?_;generalize (Str.empty++Str.ofString "("++Ca num++Str.ofString " of ")=zt at*
 symm;refine⟨(by show 3<=sizeLine;decide),fun pw hpw=>?_⟩;refine fresh hpw fun H3 s3 t3=>?_;have s3:=s2.trans s3;have hx3:=(s1.trans s3) _ _ hx;symm;exact⟨x,p2,pm,pw,Wu,dx,rfl,hx3,We,fun H' k e=>q _ H' (k.pre (s1.trans s3)) (GQ (zv (i:=14) rfl) We hx3 (s3 _ _ Rr.s) k e Rr.p Rr.l Rr.k) trivial⟩
theorem Pg:CI0 7 "Every" LQ ["self","number","R","day"] (ACN K Ba CL LQ):=by
 refine ci' ["self","number","R","day","kept"] Oq fun nd H vs Q E hr h=>?_;obtain⟨x,r,num,d0,n,b,rfl,k0,k1,nk,bd,R,⟨dx,hx⟩,q⟩:=h;have lg:num.natAbs.log2<1920:=AAj (by lia) (by lia);have lh:d0.natAbs.log2<1920:=rM bd (by decide) (by decide);refine⟨_,(Ab (Ah 4 (Ag wU (Aa (pv 1) (Aa (Bu Bq (pv 2)) (Aa (pv 3) Ac)))))
  (Ad (Bh (Dr Bm (Aa (pv 0) (Aa (pv 4) (Aa (BW (Aa (pv 2) Ac)) (Aa (BW (Aa (K4 (DY Aj (DY (Jc hr.toN (pv 1)) (DY Aj Oz)))) (Aa (K4 (DY Aj (DY (Jc hr.toN (pv 3)) (DY Aj Oz)))) Ac))) Ac)))))))),?_⟩
 symm;obtain⟨C,dr,fs,m,hr,l1,_⟩:=R.mt;exists⟨r,C,dr,fs,_,m _,rfl,hr,l1,?_⟩;exists⟨je1,r,n,b,rfl,R,fun p hp=>?_⟩;exists⟨num,d0,p,n,b,rfl,⟨hp,R.n0,R.n1,R.lt⟩,bd.mono (by decide),Bx (by lia) (by lia) (by decide),k0,nk,fun p2 c H1 s1 Rr=>?_⟩;refine⟨(by show 1<=sizeLine;decide),fun pm hpm=>?_⟩;exists fresh hpm fun H2 s2 t2=>?_;refine Jy 0 (by decide) (by decide) fun l1=>Tc _ l1 (by decide) rfl lg fun l2=>Jy _ l2 (by decide) fun l3=>Kw (fits l3 (by decide)) ?_;generalize (Str.empty++Str.ofString "(every "++Ca num++Str.ofString " of ")=zt at*
 symm;refine Jy 0 (by decide) (by decide) fun l1=>Tc _ l1 (by decide) rfl lh fun l2=>Jy _ l2 (by decide) fun l3=>Kw (fits l3 (by decide)) ?_;generalize (Str.empty++Str.ofString " from "++Ca d0++Str.ofString ")")=zu at*
 symm;refine⟨Hz,fun pw hpw=>?_⟩;refine fresh hpw fun H3 s3 t3=>?_;have s3:=s2.trans s3;have hx3:=(s1.trans s3) _ _ hx;symm;exact⟨x,p2,pm,pw,LQ,dx,rfl,hx3,QF,fun H' k e=>q _ H' (k.pre (s1.trans s3)) (GQ (zv (i:=15) rfl) QF hx3 (s3 _ _ Rr.s) k e Rr.p Rr.l Rr.k) trivial⟩
theorem Nu:CI0 1 "Reader" Be ["self","words"] (uU Be):=by
 refine ci' ["self","words"] Ms fun nd H vs Q E hr h=>?_;obtain⟨x,dx,l,ws,rfl,hx,hl,wl,wo,q⟩:=h;have lx:l≠x:=Ho hl hx (by intro z;cases z);refine⟨_,(Ab (Fd (pv 0) (BP Iw rfl W6 jl1 (Aa (pv 1) Ac)) (by rfl))
  (Ad (Fd (pv 0) Ae (by rfl)))),?_⟩
 symm;refine⟨l,_,rfl,.inl ⟨SqL.of hl,fun p hp=>?_⟩⟩;have px:x≠p:=Bp hx hp;exists fresh hp fun H1 s1 t1=>?_;refine⟨x,Be,dx,[],rfl,s1 _ _ hx,Bj,Gp,by decide,?_⟩;exists AAL fun H2 k2 x2=>?_;refine⟨x,Be,dx,_,rfl,x2,Bj,Eb,(by show 1<1000;decide),?_⟩;exists AAL fun H3 k3 x3=>?_;exact q H3 (fun y o hy e=>k3 y o hy (k2 y o hy (s1 _ _ e))) ⟨p,ws,0,⟨⟨dx,x3⟩,k3 _ _ (Ne.symm px) (k2 _ _ (Ne.symm px) t1),wl,wo⟩,rfl⟩
theorem Gj:CM0 1 Be "peek" ["self"] (zB Be):=by
 refine cm' ["self"] Vn fun nd H vs Q E hr h=>?_;obtain⟨x,_,rfl,⟨p,ws,k,R,rfl⟩,q⟩:=h;obtain⟨dx,hx⟩:=R.ex;exists⟨_,(Ad (Al (Ea (Ai FZ (Bf (pv 0) (by rfl)) (BX Bo rfl Eh xo (Aa (Bf (pv 0) (by rfl)) Ac)) (Am _)) (Dy MT (Bf (pv 0) (by rfl)) (Bf (pv 0) (by rfl)) (fun _ _=>rfl)) Aj))),?_⟩;exists⟨x,Be,dx,_,_,rfl,hx,Bj,Eb,rfl,?_⟩;exists⟨x,Be,dx,_,_,rfl,hx,Bj,Gp,rfl,?_⟩;refine⟨p,_,rfl,.inr (SqT.of R.tp),?_⟩;rw[js];symm;refine CK (fun c=>?_) (fun c=>?_)
 ·symm;exists⟨x,Be,dx,_,_,rfl,hx,Bj,Gp,rfl,?_⟩;exists⟨x,Be,dx,_,_,rfl,hx,Bj,Eb,rfl,?_⟩;have kl:k<ws.length:=by lia
  rw[Xs kl] at q;exact Ar (SqT.of R.tp) (Dm (by rw[zo,qo kl];rfl)) q
 ·rw[va (by lia)] at q;symm;exact q
theorem Cq:CM0 2 Be "take" ["self"] (yq Be):=by
 refine cm' ["self","word"] Vm fun nd H vs Q E hr h=>?_;obtain⟨x,r,rfl,R,q⟩:=h;obtain⟨p,ws,k,S,e⟩:=id R;obtain⟨dx,hx⟩:=S.ex;refine⟨_,(Ab (Ah 1 (Cu Gj Bj (pv 0)))
  (Ab (Fd (pv 0) (Af Bb (Bf (pv 0) (by rfl)) Ae) (by rfl))
  (Ad (Al (pv 1))))),?_⟩
 symm;exists⟨x,dx,_,rfl,hx,rfl,?_⟩;exists⟨x,r,rfl,R,?_⟩;exists⟨x,Be,dx,_,_,rfl,hx,Bj,Eb,rfl,?_⟩;refine⟨x,Be,dx,_,rfl,hx,Bj,Eb,(by show 2<1000;decide),?_⟩;exists AAL fun H2 k2 x2=>?_;exact q H2 k2 ⟨p,ws,k+1,⟨⟨dx,x2⟩,k2 _ _ (Ho S.tp hx (by intro z;cases z)) S.tp,S.ln,S.ok⟩,by rw[<-e,List.tail_drop]⟩
theorem Wq:C0 1 "is_name" ["text"] zQ:=by
 refine co' ["text"] je fun nd H vs Q E hr h=>?_;obtain⟨z,rfl,hz,q⟩:=h;refine⟨_,(Ad (Al (Jd (Mx JH JH Ae (BX Ep rfl Eh xo (Aa (pv 0) Ac)) (By rfl Tt (DG _ _))) (MJ (BX (Ul rfl) rfl mQ jm9 (Aa (El rfl (GK ["text"] rfl (by ac_rfl) rfl (by ac_rfl) rfl (by ac_rfl) (by ac_rfl)) (pH (pv 0)) (fun _ _ _ _=>Dq) (fun _ _ _ _=>(Ef WM (pv 0) (By rfl j6 (gQ _ _)) (by rfl)))) Ac)))))),?_⟩;have zl:(cpl z).length=z.length:=Eg _;symm;exists⟨z,rfl,hz.fit,?_⟩;have no:¬Ih (cpl z)->∀H',Av H H'->Q (.bl false) H':=fun n H' s'=>q false H' s' ⟨fun z=>(nomatch z),fun z=>absurd z n⟩;by_cases c1:1<=((z.length:Nat):Int)
 rotate_left
 ·refine CJ c1 ?_;refine⟨_,rfl,En ?_⟩;exact no (fun N=>by have:=N.lo;lia) _ (Av.refl _)
 exists Gg c1 ?_;by_cases c2:((z.length:Nat):Int)<=8
 rotate_left
 ·rw[decide_eq_false c2];refine En ?_;exact no (fun N=>by have:=N.hi;lia) _ (Av.refl _)
 rw[decide_eq_true c2];exists FT ?_;exists Fb (ou ?_);refine⟨_,rfl,hz.asc,?_⟩;refine Ni bL ?_ (fun _ _ _=>trivial) (fun _=>true) (fun v=>match v with | .str y=>.bl (decide (97<=(cpl y).headD 0/\(cpl y).headD 0<=122)) | _=>.non) (fun x hx D ys Q' hD h=>h) (fun x hx _ D ys Q' hD h=>?_) (fun D hD=>?_)
 ·rw[js];exact Cw (by have:z.cps.toList.length=z.length:=zl;lia)
 ·obtain⟨c,hc,rfl⟩:=ka.mp hx;symm;refine⟨_,_,rfl,rfl,?_⟩;rw[AAv];exact h
 have e:((z.cps.toList.map V8).filter fun _=>true).map (fun v=>match v with | .str y=>V.bl (decide (97<=(cpl y).headD 0/\(cpl y).headD 0<=122)) | _=>.non)=((cpl z).map fun c=>decide (97<=c/\c<=122)).map V.bl:=by
  rw[jh0.mpr (fun _ _=>rfl),kq,kq];rfl
 rw[e];exists fresh hD fun H1 s1 t1=>?_;refine⟨D,_,rfl,SqL.of t1,?_⟩;refine q _ _ s1 ?_;rw[List.all_map,jb4];exact⟨fun h=>⟨by lia,by lia,fun c hc=>by simpa using h c hc⟩,fun N c hc=>by simpa using N.ch c hc⟩
theorem Lq:C0 1 "is_readable" ["text"] XM:=by
 refine co' ["text"] Vh fun nd H vs Q E hr h=>?_;obtain⟨z,rfl,hz,zl,q⟩:=h;exists⟨_,(Ad (Al (Jd (BX Uk rfl JR ji3 (Aa (pv 0) (Aa (YB rfl Cr qg (cV _)) Ac))) (MJ (Ef JH (BX Ep rfl Eh xo (Aa (pv 0) Ac)) (By rfl YM (DG _ _)) (Am _)))))),?_⟩;exists cX (.txt z hz) ?_;exists FT ?_;exists⟨z,rfl,hz.fit,?_⟩;have:decide ((z.length:Int)<=4000)=true:=by
  rw[decide_eq_true_eq];lia
 rw[this];exact q
theorem Kg:C0 1 "is_number" ["text"] uT:=by
 refine co' ["text","figures"] Zi fun nd H vs Q E hr h=>?_;obtain⟨z,rfl,hz,q⟩:=h;refine⟨_,(Ab (Ah 1 (Ea (GD (Ge yy PySem.F.slot_str_startswith PySem.F.type_str_startswith Vr (pv 0) (Aa Aj Ac))) (Ck Xa (pv 0) (DN Ae) Ed) (pv 0)))
  (Ab (Ay (PW.pt (Gv (Ai FZ (BX Ep rfl Eh xo (Aa (pv 1) Ac)) Ae (Am _)) (Fp (Ai Fq (BX Ep rfl Eh xo (Aa (pv 1) Ac)) (By rfl Tu (DG _ _)) (Am _)))))
   (Ad (Al Jz))
   Ao)
  (Ab (Ay (Ai Bl (Dy dj (pv 1) Ae) Aj (Am _))
   (Ad (Al (Ef Bl (pv 0) Aj (Am _))))
   Ao)
  (Ad (Al (BX (Ul rfl) rfl mQ jm9 (Aa (El rfl (GK ["text","figures"] rfl (by ac_rfl) rfl (by ac_rfl) rfl (by ac_rfl) (by ac_rfl)) (pH (pv 1)) (fun _ _ _ _=>Dq) (fun _ _ _ _=>(Ef WM (pv 0) (By rfl j7 (gQ _ _)) (by rfl)))) Ac))))))),?_⟩
 symm;exists⟨rfl,?_⟩;refine⟨z,_,rfl,rfl,?_⟩;rw[XD (.inr trivial)];symm;refine CK (fun hm=>?_) (fun hm=>?_)
 ·symm;have l1:1<=z.length:=by
   rw[<-Eg];cases h:cpl z with
   | nil=>rw[h] at hm;cases hm
   | cons a r=>simp
  refine⟨z,rfl,hz.fit,?_⟩;have hy:TOk (Txt.slice z (some 1) none):=hz.slice _ _;have ey:cpl (Txt.slice z (some 1) none)=HQ (cpl z):=by
   rw[Pu l1];unfold HQ;rw[ya hm]
  generalize Txt.slice z (some 1) none=y at hy ey ⊢;symm;have fy:=hy.fit;have yl:(cpl y).length=y.length:=Eg _;exists⟨_,rfl,fy,?_⟩;refine CK (fun l1=>FT ?_) (fun l1=>?_)
  ·symm;refine q _ _ (Av.refl _) ⟨(fun e=>nomatch e),fun N=>?_⟩;have:=N.lo;rw[<-ey] at this;lia
  symm;exists⟨_,rfl,fy,?_⟩;refine CK (fun l2=>?_) (fun l2=>?_)
  ·symm;refine q _ _ (Av.refl _) ⟨(fun e=>nomatch e),fun N=>?_⟩;have:=N.hi;rw[<-ey] at this;lia
  symm;obtain⟨c0,r0,ec⟩:∃c r,cpl y=c::r:=by
   cases h:cpl y with
   | nil=>rw[h] at yl;simp at yl;lia
   | cons c r=>exact⟨c,r,rfl⟩
  refine⟨_,0,c0,rfl,rfl,fy,by rw[show y.cps.toList=c0::r0 from ec];exact Dm (j:=0) rfl,?_⟩;symm;refine CK (fun e0=>?_) (fun e0=>?_)
  ·symm;have c48:c0=48:=by
    have e1:(⟨#[c0]⟩:Str)=Str.ofString "0":=V.str.inj e0;have e2:cpl (⟨#[c0]⟩:Str)=cpl (Str.ofString "0"):=xk cpl e1;have e3:cpl (Str.ofString "0")=[48]:=by ac_rfl
    rw[e3] at e2;injection e2
   refine q _ _ (Av.refl _) ?_;rw[decide_eq_true_eq];have e3:cpl (Str.ofString "0")=[48]:=by ac_rfl
   constructor
   ·intro e;have ez:cpl z=[48]:=by rw[V.str.inj e,e3]
    refine⟨?_,?_,?_,?_⟩<;>rw[ez]<;>simp[HQ]
   ·intro N;have:=N.z0 (by rw[<-ey,ec,c48];rfl);exact xk V.str (Hr (by rw[this,e3]))
  symm;exists Fb (ou ?_);refine⟨_,rfl,hy.asc,?_⟩;refine Ni bL ?_ (fun _ _ _=>trivial) (fun _=>true) (fun v=>match v with | .str y=>.bl (decide (48<=(cpl y).headD 0/\(cpl y).headD 0<=57)) | _=>.non) (fun x hx D ys Q' hD h=>h) (fun x hx _ D ys Q' hD h=>?_) (fun D hD=>?_)
  ·rw[js];exact Cw (by have:y.cps.toList.length=y.length:=yl;lia)
  ·obtain⟨c,hc,rfl⟩:=ka.mp hx;symm;refine⟨_,_,rfl,rfl,?_⟩;rw[qW];exact h
  have e:((y.cps.toList.map V8).filter fun _=>true).map (fun v=>match v with | .str y=>V.bl (decide (48<=(cpl y).headD 0/\(cpl y).headD 0<=57)) | _=>.non)=((cpl y).map fun c=>decide (48<=c/\c<=57)).map V.bl:=by
   rw[jh0.mpr (fun _ _=>rfl),kq,kq];rfl
  rw[e];symm;refine⟨D,_,rfl,SqL.of An,?_⟩;refine q _ _ (Ax hD _) ?_;rw[List.all_map,jb4];constructor
  ·intro h;refine⟨by rw[<-ey];lia,by rw[<-ey];lia,fun c hc=>?_,fun h0=>?_⟩
   ·rw[<-ey] at hc;simpa using h c hc
   ·rw[<-ey,ec] at h0;injection h0 with h0;subst h0;exact absurd (by congr) e0
  ·intro N c hc;have:=N.dg c (by rw[<-ey];exact hc);simpa using this
 ·symm;have hy:=hz;have ey:cpl z=HQ (cpl z):=by
   unfold HQ;rw[ua hm]
  have fy:=hy.fit;have yl:(cpl z).length=z.length:=Eg _;exists⟨_,rfl,fy,?_⟩;refine CK (fun l1=>FT ?_) (fun l1=>?_)
  ·symm;refine q _ _ (Av.refl _) ⟨(fun e=>nomatch e),fun N=>?_⟩;have:=N.lo;rw[<-ey] at this;lia
  symm;exists⟨_,rfl,fy,?_⟩;refine CK (fun l2=>?_) (fun l2=>?_)
  ·symm;refine q _ _ (Av.refl _) ⟨(fun e=>nomatch e),fun N=>?_⟩;have:=N.hi;rw[<-ey] at this;lia
  symm;obtain⟨c0,r0,ec⟩:∃c r,cpl z=c::r:=by
   cases h:cpl z with
   | nil=>rw[h] at yl;simp at yl;lia
   | cons c r=>exact⟨c,r,rfl⟩
  refine⟨_,0,c0,rfl,rfl,fy,by rw[show z.cps.toList=c0::r0 from ec];exact Dm (j:=0) rfl,?_⟩;symm;refine CK (fun e0=>?_) (fun e0=>?_)
  ·symm;have c48:c0=48:=by
    have e1:(⟨#[c0]⟩:Str)=Str.ofString "0":=V.str.inj e0;have e2:cpl (⟨#[c0]⟩:Str)=cpl (Str.ofString "0"):=xk cpl e1;have e3:cpl (Str.ofString "0")=[48]:=by ac_rfl
    rw[e3] at e2;injection e2
   refine q _ _ (Av.refl _) ?_;rw[decide_eq_true_eq];have e3:cpl (Str.ofString "0")=[48]:=by ac_rfl
   constructor
   ·intro e;have ez:cpl z=[48]:=by rw[V.str.inj e,e3]
    refine⟨?_,?_,?_,?_⟩<;>rw[ez]<;>simp[HQ]
   ·intro N;have:=N.z0 (by rw[<-ey,ec,c48];rfl);exact xk V.str (Hr (by rw[this,e3]))
  symm;exists Fb (ou ?_);refine⟨_,rfl,hy.asc,?_⟩;refine Ni bL ?_ (fun _ _ _=>trivial) (fun _=>true) (fun v=>match v with | .str y=>.bl (decide (48<=(cpl y).headD 0/\(cpl y).headD 0<=57)) | _=>.non) (fun x hx D ys Q' hD h=>h) (fun x hx _ D ys Q' hD h=>?_) (fun D hD=>?_)
  ·rw[js];exact Cw (by have:z.cps.toList.length=z.length:=yl;lia)
  ·obtain⟨c,hc,rfl⟩:=ka.mp hx;symm;refine⟨_,_,rfl,rfl,?_⟩;rw[qW];exact h
  have e:((z.cps.toList.map V8).filter fun _=>true).map (fun v=>match v with | .str y=>V.bl (decide (48<=(cpl y).headD 0/\(cpl y).headD 0<=57)) | _=>.non)=((cpl z).map fun c=>decide (48<=c/\c<=57)).map V.bl:=by
   rw[jh0.mpr (fun _ _=>rfl),kq,kq];rfl
  rw[e];symm;refine⟨D,_,rfl,SqL.of An,?_⟩;refine q _ _ (Ax hD _) ?_;rw[List.all_map,jb4];constructor
  ·intro h;refine⟨by rw[<-ey];lia,by rw[<-ey];lia,fun c hc=>?_,fun h0=>?_⟩
   ·rw[<-ey] at hc;simpa using h c hc
   ·rw[<-ey,ec] at h0;injection h0 with h0;subst h0;exact absurd (by congr) e0
  ·intro N c hc;have:=N.dg c (by rw[<-ey];exact hc);simpa using this
theorem HR:C0 3 "take_word" ["reader","word"] (ym Be):=by
 refine co' ["reader","word"] ZR fun nd H vs Q E hr h=>?_;obtain⟨x,z,r,rfl,R,q⟩:=h;obtain⟨dx,fs,hx,l1,_⟩:=R.ob;refine⟨_,(Ad (Ay (Ai GJ (Cu Cq Bj (pv 0)) (pv 1) (Am _))
  (Ad Bc)
  Ao)),?_⟩
 symm;exists⟨x,dx,_,rfl,hx,l1,?_⟩;exists⟨x,_,rfl,R,fun H1 k1 R1=>?_⟩;exists Gf (xk V.str (Ip z)) ?_;exact q H1 k1 R1
theorem Fo:C0 3 "take_number" ["reader"] (zF Be):=by
 refine co' ["reader","word"] Va fun nd H vs Q E hr h=>?_;obtain⟨x,n,r,rfl,R,sn,q⟩:=h;obtain⟨dx,fs,hx,l1,_⟩:=R.ob;have N:=IW sn;refine⟨_,(Ab (Ah 1 (Cu Cq Bj (pv 0)))
  (Ab (Ay (Gw (GD (Ag Kg (Aa (pv 1) Ac))))
   (Ad Bc)
   Ao)
  (Ad (Al (BP Dz rfl Mh Zp (Aa (pv 1) Ac)))))),?_⟩
 symm;exists⟨x,dx,_,rfl,hx,l1,?_⟩;exists⟨x,_,rfl,R,fun H1 k1 R1=>?_⟩;refine⟨_,rfl,R.tk,fun v H2 s2 iv=>?_⟩;obtain rfl:=iv.mpr (show OJ (cpl (sW (nW n))) by rw[Bk];exact N.1);symm;exists En ?_;refine⟨_,_,rfl,?_,PL (show OJ (cpl (sW (nW n))) by rw[Bk];exact N.1),?_⟩
 ·show(sW (nW n)).length<=_;rw[Cp];have:=Ft sn;lia
 ·show Q (.int (KJ (cpl (sW (nW n))))) H2;rw[Bk,N.2];exact q H2 (k1.tr (.sm s2)) (R1.same s2)
theorem Lk:C0 4 "take_wanted" ["reader"] (uD Be):=by
 refine co' ["reader"] VV fun nd H vs Q E hr h=>?_;obtain⟨x,m,r,rfl,R,sm,q⟩:=h;obtain⟨dx,fs,hx,l1,l2⟩:=R.ob;refine⟨_,(Ab (Ay (Ai Bl (Cu Gj Bj (pv 0)) Aj (Am _))
  (Ab (Bh (Cu Cq Bj (pv 0)))
  (Ad (Al GF)))
   Ao)
  (Ad (Al (Ag Fo (Aa (pv 0) Ac))))),?_⟩
 symm;exists⟨x,dx,_,rfl,hx,l2,?_⟩;exists⟨x,_,rfl,R,?_⟩;cases m with
 | none=>
  walk_at"ew";exists⟨x,dx,_,rfl,hx,l1,?_⟩;exists⟨x,_,rfl,R,fun H1 k1 R1=>?_⟩;exact q H1 k1 R1
 | some n=>
  exists CJ (Tq (sm n rfl) ⟨_,_,rfl,by decide⟩) ?_;exact⟨x,n,r,rfl,R,sm n rfl,q⟩
theorem QM:C0 4 "take_each" ["reader"] (uV Be):=by
 refine co' ["reader","size"] ZS fun nd H vs Q E hr h=>?_;obtain⟨x,n,m,r,rfl,R,sn,sm,q⟩:=h;refine⟨_,(Ab (Ah 1 (Ag Fo (Aa (pv 0) Ac)))
  (Ab (Bh (Ag HR (Aa (pv 0) (Aa Aj Ac))))
  (Ad (Al (BW (Aa (pv 1) (Aa (Ag Fo (Aa (pv 0) Ac)) Ac))))))),?_⟩
 symm;exists⟨x,n,_,rfl,R,sn,fun H1 k1 R1=>?_⟩;exists⟨x,_,_,rfl,R1,fun H2 k2 R2=>?_⟩;exists⟨x,m,r,rfl,R2,sm,fun H3 k3 R3=>?_⟩;refine⟨Hz,fun a ha=>?_⟩;refine fresh ha fun H4 s4 t4=>?_;exact q a H4 (((k1.tr k2).tr k3).tr (.sm s4)) (R3.same s4) t4
theorem aP:C0 5 "take_date" ["reader"] (uc Be):=by
 refine co' ["reader","name","month","day","years"] ZV fun nd H vs Q E hr h=>?_;obtain⟨x,nm,m,d,y,r,rfl,R,⟨on,om,od,oy,_⟩,hh,q⟩:=h;obtain⟨dx,fs,hx,l1,_⟩:=R.ob;refine⟨_,(Ab (Ah 1 (Cu Cq Bj (pv 0)))
  (Ab (Ay (Gw (GD (Ag Wq (Aa (pv 1) Ac))))
   (Ad Bc)
   Ao)
  (Ab (Ah 2 (Ag Lk (Aa (pv 0) Ac)))
  (Ab (Ah 3 (Ag Lk (Aa (pv 0) Ac)))
  (Ab (Ah 4 (BW (Aa Ae (Aa Ae Ac))))
  (Ab (Ej (Ay (Ai Bl (Cu Gj Bj (pv 0)) Aj (Am _))
   (Ab (Bh (Cu Cq Bj (pv 0)))
  (Ad (Ah 4 (Ag QM (Aa (pv 0) Ac)))))
   Ao))
  (Ad (Al (BW (Aa Aj (Aa (pv 1) (Aa (pv 2) (Aa (pv 3) (Aa (pxT 4) (Aa (pxT 4) Ac))))))))))))))),?_⟩
 symm;exists⟨x,dx,_,rfl,hx,l1,?_⟩;exists⟨x,_,rfl,R,fun H1 k1 R1=>?_⟩;refine⟨_,rfl,R.tk,fun v H2 s2 iv=>?_⟩;obtain rfl:=iv.mpr (show Ih (cpl (sW nm)) by rw[Bk];exact on);have k2:=k1.tr (.sm s2);symm;exists En ?_;exists⟨x,m,_,rfl,R1.same s2,om,fun H3 k3 R3=>?_⟩;exists⟨x,d,_,rfl,R3,od,fun H4 k4 R4=>?_⟩;refine⟨Hz,fun q0 hq0=>?_⟩;refine fresh hq0 fun H5 s5 t5=>?_;have k5:=((k2.tr k3).tr k4).tr (.sm s5);have R5:=R4.same s5;symm;refine EY (fun Z' H'=>∃a:Addr,An4 (KB x H H') (Rd Be H' x r) (H' a=some (.tup [.int (yr y).1,.int (yr y).2])) (Z'=[some (.ref x),some (.str (sW nm)),some (oI m),some (oI d),some (.ref a)])) ?_ ?_
 ·symm;obtain⟨dx,fs,hx,l1,l2⟩:=R5.ob;exists⟨x,dx,_,rfl,hx,l2,?_⟩;exists⟨x,_,rfl,R5,?_⟩;cases y with
  | none=>
   exists CJ (fun z=>hh (xm.mp (z.trans (Gy "each").symm))) ?_;exact⟨q0,k5,R5,t5,rfl⟩
  | some y=>
   walk_at"ew";exists⟨x,dx,_,rfl,hx,l1,?_⟩;exists⟨x,_,rfl,R5,fun H6 k6 R6=>?_⟩;exists⟨x,y.1,y.2,r,rfl,R6,(oy y rfl).1,(oy y rfl).2.1,fun a H7 k7 R7 t7=>?_⟩;exact⟨a,(k5.tr k6).tr k7,R7,t7,rfl⟩
 rintro Z' H6 ⟨a,k6,R6,t6,rfl⟩;symm;exists Ar (SqT.of t6) at0 ?_;exists Ar (SqT.of t6) at1 ?_;refine⟨(by show 6<=sizeLine;decide),fun b hb=>?_⟩;refine fresh hb fun H7 s7 t7=>?_;exact q _ H7 (k6.tr (.sm s7)) (R6.same s7) ⟨b,rfl,t7⟩
theorem eZ:C0 1 "words_of" ["text"] uB:=by
 refine co' ["text","told","depth","whole","opened","word","opening","closing"] cB fun nd H vs Q E hr h=>?_;obtain⟨z,rfl,hz,zl,hc,ho,q⟩:=h;refine⟨_,(Ab (Ah 1 (FQ Ac))
  (Ab (Ah 2 Ae)
  (Ab (Ir PassesOwn.never rfl (Fe (Ge yy ja7 ja8 JK (pv 0) (Aa Aj Ac))) (Cm (i:=3) nd rfl (by walk_at"o"))
   (Ab (Ah 4 (Ge yy PySem.F.slot_str_lstrip PySem.F.type_str_lstrip jy (pv 3) (Aa Aj Ac)))
  (Ab (Ah 5 (Ge yy PySem.F.slot_str_rstrip PySem.F.type_str_rstrip jx (pv 4) (Aa Aj Ac)))
  (Ab (Ay (Ai Bl (pv 5) Aj (Am _))
   (Ad Bc)
   Ao)
  (Ab (Ah 6 (Af CG (BX Ep rfl Eh xo (Aa (pv 3) Ac)) (BX Ep rfl Eh xo (Aa (pv 4) Ac))))
  (Ab (Ah 7 (Af CG (BX Ep rfl Eh xo (Aa (pv 4) Ac)) (BX Ep rfl Eh xo (Aa (pv 5) Ac))))
  (Ab (Ah 2 (Af Bb (pv 2) (pv 6)))
  (Ab (Ay (Ai Fq (pv 2) (By rfl Qv (DG _ _)) (Am _))
   (Ad Bc)
   Ao)
  (Ab (Ah 2 (Af CG (pv 2) (pv 7)))
  (Ad (Bh (Ge Zs jc6 jc7 JL (pv 1) (Aa (Af YD (Af YD (Af dG (FQ (Aa Aj Ac)) (pv 6)) (FQ (Aa (pv 5) Ac))) (Af dG (FQ (Aa Aj Ac)) (pv 7))) Ac)))))))))))))
  (Ad (Al (pv 1)))))),?_⟩
 symm;refine⟨vj _,fun l hl=>?_⟩;exists fresh hl fun H1 s1 t1=>?_;exists Te (JF ?_);exists Ii ?_;exists⟨rfl,?_⟩;refine⟨z,32,rfl,by rw[show Str.ofString " "=⟨#[32]⟩ from by ac_rfl],by decide,hz.len,fun l2 hl2=>?_⟩;exists fresh hl2 fun H2 s2 t2=>?_;have ll:l2≠l:=fun z=>by rw[z,t1] at hl2;cases hl2
 have wt:=nU 32 (cpl z);generalize hps:spl 32 (cpl z)=ps at*
 unfold tks at q;have t2:H2 l2=some (.lst (ps.map fun w=>V.str (sW w))):=by rw[t2,bf,hps,kq];rfl
 have fl:=aA ps;have plen:∀(i:Nat) (w:Wd),ps[i]?=some w->w.length<=4000/\i<ps.length:=fun i w hw=>by
  have h1:(w.length+1)<=(ps.map fun w=>w.length+1).sum:=iC (ka.mpr ⟨w,zv hw,rfl⟩);exact⟨by lia,(zn.mp hw).1⟩
 refine⟨l2,rfl,⟨_,SqL.of t2⟩,JM (xs:=ps.map fun w=>V.str (sW w)) (fun i Z' H'=>An3 (Av H H') (H' l2=some (.lst (ps.map fun w=>V.str (sW w)))) (Ex6 fun(d:Int) (v3 v4 v5 v6 v7:Option V)=>An3 (H' l=some (.lst (((ps.take i).flatMap Hs).map fun w=>V.str (sW w)))) (Dok d (ps.drop i)) (Z'=[some (.str z),some (.ref l),some (.int d),v3,v4,v5,v6,v7]))) ⟨s1.trans s2,t2,0,none,none,none,none,none,s2 _ _ t1,by rw[ji1];exact ho,rfl⟩ ?_ ?_ ?_⟩
 ·rintro i Z' H' _ ⟨_,t,_⟩;exact SqL.of t
 ·rintro i x Z' H' hx ⟨sH,tp,d,v3,v4,v5,v6,v7,tl,ew,rfl⟩;rw[zo] at hx;obtain⟨w,hw,rfl⟩:=xz.mp hx;obtain⟨wl,il⟩:=plen i w hw;have ol:=O3 w;have cl:=Ri w;have ed:ps.drop i=w::ps.drop (i+1):=by
   rw[Xs il]
   congr 1
   rw[qo il] at hw;injection hw
  rw[ed] at ew;obtain⟨ew,ew2⟩:=ew;unfold opn at ew ew2;unfold cls at ew2;have cw:=hc w (zv hw);have fit:w.length<=sizeLine:=zw wl (by decide);symm;exists Ii ?_;exists⟨rfl,?_⟩;refine⟨sW w,_,rfl,rfl,by rw[Cp];exact fit,?_⟩;rw[show (if stripSame (Str.ofString "(").cps.contains true false (sW w) then sW w else stripped (Str.ofString "(").cps.contains true false (sW w))=sW (opd w) from ACw w];symm;exists Ii ?_;exists⟨rfl,?_⟩;refine⟨sW (opd w),_,rfl,rfl,by rw[Cp];lia,?_⟩;rw[show (if stripSame (Str.ofString ")").cps.contains false true (sW (opd w)) then sW (opd w) else stripped (Str.ofString ")").cps.contains false true (sW (opd w)))=sW (core w) from ACd w];symm;rw[oO];exists CJ (fun z=>cw (xm.mp z)) ?_;refine⟨_,rfl,by rw[Cp];exact fit,?_⟩;symm;refine⟨_,rfl,by rw[Cp];lia,?_⟩;symm;refine⟨_,rfl,by rw[Cp];lia,?_⟩;symm;refine⟨_,rfl,by rw[Cp];lia,?_⟩;rw[Cp,Cp,Cp];symm;exists CJ (by lia) ?_;exists Ov rfl tl ?_;have sz:∀n:Nat,n<=100000->n<=sizeLine:=fun n h=>zw h (by decide);refine⟨(by show 1<=sizeLine;decide),fun m1 hm1=>?_⟩;refine fresh hm1 fun H3 s3 t3=>?_;rw[ADo] at t3;symm;refine cW t3 (by lia) (by lia) (sz _ (by simp;lia)) fun m2 hm2=>?_;refine fresh hm2 fun H4 s4 t4=>?_;rw[TX] at t4;symm;refine⟨(by show 1<=sizeLine;decide),fun m3 hm3=>?_⟩;exists fresh hm3 fun H5 s5 t5=>?_;refine⟨m2,m3,_,_,rfl,rfl,s5 _ _ t4,t5,sz _ (by simp;lia),fun m4 hm4=>?_⟩;exists fresh hm4 fun H6 s6 t6=>?_;refine⟨(by show 1<=sizeLine;decide),fun m5 hm5=>?_⟩;refine fresh hm5 fun H7 s7 t7=>?_;rw[ADn] at t7;symm;refine cW t7 (by lia) (by lia) (sz _ (by simp;lia)) fun m6 hm6=>?_;refine fresh hm6 fun H8 s8 t8=>?_;rw[TX] at t8;symm;refine⟨m4,m6,_,_,rfl,rfl,(s7.trans s8) _ _ t6,t8,sz _ (by simp;lia),fun m7 hm7=>?_⟩;refine fresh hm7 fun H9 s9 t9=>?_;have sA:=s3.trans (s4.trans (s5.trans (s6.trans (s7.trans (s8.trans s9)))));rw[show ((w.length:Int)-((opd w).length:Int)).toNat=w.length-(opd w).length by lia,show(((opd w).length:Int)-((core w).length:Int)).toNat=(opd w).length-(core w).length by lia,<-AAP] at t9;have tk:(ps.take (i+1)).flatMap Hs=(ps.take i).flatMap Hs++Hs w:=by
   rw[vk,hw,kx,jh1,jd7,List.flatMap_nil,uj]
  have tle:=tZ (ps:=ps) i;have ple:=Zt w;refine Gb ?_;refine⟨l,m7,_,_,rfl,rfl,sA _ _ tl,t9,?_,?_⟩
  ·rw[js,js];have b1:((ps.take i).flatMap Hs).length<=4001:=zw tle (zw fl (by rw[wt];lia));exact sz _ (zw (Nat.add_le_add b1 ple) (by lia))
  ·rw[<-uk,<-tk];refine⟨fun r o ho=>?_,?_,_,_,_,_,_,_,An,?_,rfl⟩
   ·rw[BK fun z=>by rw[z,hl] at ho;cases ho];exact sA _ _ (sH _ _ ho)
   ·rw[BK ll];exact sA _ _ tp
   ·rwa [show d+((w.length:Int)-((opd w).length:Int))-(((opd w).length:Int)-((core w).length:Int))=d+((w.length-(opd w).length:Nat):Int)-(((opd w).length-(core w).length:Nat):Int) by lia]
 ·rintro Z' H' ⟨sH,_,d,v3,v4,v5,v6,v7,tl,ew,rfl⟩;rw[js,Qr] at tl;symm;exact q l H' sH tl
theorem Oe:DP ["reader","number","word","plan"] ["reader"] (BZ HX):=by walk_at"s"
theorem O5{k d:Nat}(F:Fun K "take_numbered" "take_numbered" HX f fd)(Cy:C0 k "take_plan" ["reader"] ((J8 Be) d))(hk:8<=k):F0 (k+1) f fd ["reader"] ((XQ Be) d):=by
 refine F.ok (k:=k+0) Oe (fun h=>?_) fun nd H vs Q E hr h=>?_
 ·obtain⟨x,p,r,rfl,_⟩:=h;rfl
 obtain⟨x,p,r,rfl,R,okp,cp,dp,hh,q⟩:=h;refine⟨_,(Ab (Ah 1 (Ag Fo (Aa (pv 0) Ac)))
  (Ab (Ah 2 (Cu Cq Bj (pv 0)))
  (Ab (Ay (Ai Bl (pv 2) Aj (Am _))
   (Ad (Al (BW (Aa (pv 2) (Aa (pv 1) (Aa (Ag Cy (Aa (pv 0) Ac)) Ac))))))
   Ao)
  (Ab (Ay (Ai GJ (pv 2) Aj (Am _))
   (Ad Bc)
   Ao)
  (Ab (Ah 3 (Ag Cy (Aa (pv 0) Ac)))
  (Ab (Bh (Ag HR (Aa (pv 0) (Aa Aj Ac))))
  (Ad (Al (BW (Aa (pv 2) (Aa (pv 1) (Aa (pv 3) (Aa (Ag Cy (Aa (pv 0) Ac)) Ac))))))))))))),?_⟩
 cases p with
 | la n p=>
  symm;exists⟨x,n,_,rfl,R,okp.1,fun H1 k1 R1=>?_⟩;obtain⟨dx,fs,hx,l1,_⟩:=R1.ob;exists⟨x,dx,_,rfl,hx,l1,?_⟩;exists⟨x,_,rfl,R1,fun H2 k2 R2=>?_⟩;walk_at"ew";exists⟨x,p,r,rfl,R2,okp.2,trivial,ja6 dp,hh,fun v H3 k3 R3 P3=>?_⟩;refine⟨(by show 3<=sizeLine;decide),fun a ha=>?_⟩;refine fresh ha fun H4 s4 t4=>?_;exact q _ H4 (((k1.tr k2).tr k3).tr (.sm s4)) (R3.same s4) ⟨a,v,rfl,by rw[t4];exact xk (fun z=>some (HO.tup [z,_,_])) (Gy _),P3.same s4⟩
 | nt n p p'=>
  have dp:max p.deep p'.deep+1<d+1:=dp;symm;exists⟨x,n,_,rfl,R,okp.1,fun H1 k1 R1=>?_⟩;obtain⟨dx,fs,hx,l1,_⟩:=R1.ob;exists⟨x,dx,_,rfl,hx,l1,?_⟩;exists⟨x,_,rfl,R1,fun H2 k2 R2=>?_⟩;walk_at"nw";exists Gf (Gy _) ?_;exists⟨x,p,_,rfl,R2,okp.2.1,trivial,by lia,hdn (by ac_rfl),fun v H3 k3 R3 P3=>?_⟩;exists⟨x,_,_,rfl,R3,fun H4 k4 R4=>?_⟩;exists⟨x,p',r,rfl,R4,okp.2.2.1,trivial,by lia,hh,fun u H5 k5 R5 P5=>?_⟩;refine⟨(by show 4<=sizeLine;decide),fun a ha=>?_⟩;refine fresh ha fun H6 s6 t6=>?_;exact q _ H6 (((((k1.tr k2).tr k3).tr k4).tr k5).tr (.sm s6)) (R5.same s6) ⟨a,v,u,rfl,by rw[t6];exact xk (fun z=>some (HO.tup [z,_,_,_])) (Gy _),(PlH.kb R4 k5 (PlH.kb R3 k4 P3)).same s6,P5.same s6⟩
 | _=>exact cp.elim
theorem VP:DP ["reader","number","plan"] ["reader"] (BZ JZ):=by walk_at"s"
theorem Vq{k d:Nat}(F:Fun K "take_every" "take_every" JZ f fd)(Cy:C0 k "take_plan" ["reader"] ((J8 Be) d))(hk:8<=k):F0 (k+1) f fd ["reader"] ((R9 Be) d):=by
 refine F.ok (k:=k+0) VP (fun h=>?_) fun nd H vs Q E hr h=>?_
 ·obtain⟨x,p,r,rfl,_⟩:=h;rfl
 obtain⟨x,p,r,rfl,R,okp,cp,dp,hh,q⟩:=h;refine⟨_,(Ab (Ah 1 (Ag Fo (Aa (pv 0) Ac)))
  (Ab (Bh (Ag HR (Aa (pv 0) (Aa Aj Ac))))
  (Ab (Ah 2 (Ag Cy (Aa (pv 0) Ac)))
  (Ab (Bh (Ag HR (Aa (pv 0) (Aa Aj Ac))))
  (Ad (Al (BW (Aa Aj (Aa (pv 1) (Aa (pv 2) (Aa (Ag Fo (Aa (pv 0) Ac)) Ac))))))))))),?_⟩
 cases p with
 | ev n p e=>
  symm;exists⟨x,n,_,rfl,R,okp.1,fun H1 k1 R1=>?_⟩;exists⟨x,_,_,rfl,R1,fun H2 k2 R2=>?_⟩;exists⟨x,p,_,rfl,R2,okp.2.2.1,trivial,ja6 dp,hdn (by ac_rfl),fun v H3 k3 R3 P3=>?_⟩;exists⟨x,_,_,rfl,R3,fun H4 k4 R4=>?_⟩;exists⟨x,e,r,rfl,R4,okp.2.1,fun H5 k5 R5=>?_⟩;refine⟨(by show 4<=sizeLine;decide),fun a ha=>?_⟩;refine fresh ha fun H6 s6 t6=>?_;exact q _ H6 (((((k1.tr k2).tr k3).tr k4).tr k5).tr (.sm s6)) (R5.same s6) ⟨a,v,rfl,t6,(PlH.kb R4 k5 (PlH.kb R3 k4 P3)).same s6⟩
 | _=>exact cp.elim
theorem Xc:DP ["reader","plan","word"] ["reader"] (BZ KC):=by walk_at"s"
theorem YG{k d:Nat}(F:Fun K "take_pair" "take_pair" KC f fd)(Cy:C0 k "take_plan" ["reader"] ((J8 Be) d))(hk:8<=k):F0 (k+1) f fd ["reader"] ((XN Be) d):=by
 refine F.ok (k:=k+0) Xc (fun h=>?_) fun nd H vs Q E hr h=>?_
 ·obtain⟨x,p,r,rfl,_⟩:=h;rfl
 obtain⟨x,p,r,rfl,R,okp,cp,dp,hh,q⟩:=h;refine⟨_,(Ab (Ah 1 (Ag Cy (Aa (pv 0) Ac)))
  (Ab (Ah 2 (Cu Cq Bj (pv 0)))
  (Ab (Ay (Ai M8 (pv 2) (By rfl YK (HD _)) (by rfl))
   (Ad Bc)
   Ao)
  (Ad (Al (BW (Aa (pv 2) (Aa (pv 1) (Aa (Ag Cy (Aa (pv 0) Ac)) Ac))))))))),?_⟩
 cases p with
 | pr w p p'=>
  have dp:max p.deep p'.deep+1<d+1:=dp;symm;refine⟨x,p,_,rfl,R,okp.1,trivial,by lia,hdn (by cases w<;>ac_rfl),fun v H1 k1 R1 P1=>?_⟩;symm;obtain⟨dx,fs,hx,l1,_⟩:=R1.ob;exists⟨x,dx,_,rfl,hx,l1,?_⟩;exists⟨x,_,rfl,R1,fun H2 k2 R2=>?_⟩;refine⟨HB,_,rfl,.inr (Xo _),rfl,rfl,?_⟩;have e:V.str (sW ((sg w.s::(p'.tok++r)).headD []))=V.str (Str.ofString w.s):=Gy _;rw[e,ACp w];symm;exists En ?_;exists⟨x,p',r,rfl,R2,okp.2,trivial,by lia,hh,fun u H3 k3 R3 P3=>?_⟩;refine⟨(by show 3<=sizeLine;decide),fun a ha=>?_⟩;refine fresh ha fun H4 s4 t4=>?_;exact q _ H4 (((k1.tr k2).tr k3).tr (.sm s4)) (R3.same s4) ⟨a,v,u,rfl,t4,(PlH.kb R2 k3 (PlH.kb R1 k2 P1)).same s4,P3.same s4⟩
 | _=>exact cp.elim
theorem SN:DP ["reader","word"] ["reader"] (BZ Io):=by walk_at"s"
theorem Tp{k d:Nat}(F:Fun K "take_within" "take_within" Io f fd)(Cy:C0 k "take_plan" ["reader"] ((J8 Be) d))(ab:C0 (k+1) "take_every" ["reader"] ((R9 Be) d))(ac:C0 (k+1) "take_numbered" ["reader"] ((XQ Be) d))(ad:C0 (k+1) "take_pair" ["reader"] ((XN Be) d))(hk:8<=k):F0 (k+2) f fd ["reader"] ((R0 Be) d):=by
 refine F.ok (k:=k+1) SN (fun h=>?_) fun nd H vs Q E hr h=>?_
 ·obtain⟨x,p,r,rfl,_⟩:=h;rfl
 obtain⟨x,p,r,rfl,R,okp,cp,dp,hh,q⟩:=h;obtain⟨dx,fs,hx,l1,l2⟩:=R.ob;refine⟨_,(Ab (Ah 1 (Cu Gj Bj (pv 0)))
  (Ab (Ay (Ai Bl (pv 1) Aj (Am _))
   (Ab (Bh (Cu Cq Bj (pv 0)))
  (Ad (Al (BW (Aa (pv 1) (Aa (Ag Cy (Aa (pv 0) Ac)) Ac))))))
   Ao)
  (Ab (Ay (Ai Bl (pv 1) Aj (Am _))
   (Ab (Bh (Cu Cq Bj (pv 0)))
  (Ad (Al (Ag ab (Aa (pv 0) Ac)))))
   Ao)
  (Ab (Ay (GD (Ag Kg (Aa (pv 1) Ac)))
   (Ad (Al (Ag ac (Aa (pv 0) Ac))))
   Ao)
  (Ad (Al (Ag ad (Aa (pv 0) Ac)))))))),?_⟩
 symm;exists⟨x,dx,_,rfl,hx,l2,?_⟩;exists⟨x,_,rfl,R,?_⟩;have num:∀n:Int,Sm n->(inn p r).headD []=nW n->cLN p->TOk (sW ((inn p r).headD [])):=fun n sn e _=>by
  rw[e];exact⟨Fv.mpr fun c hc=>by rw[Bk] at hc;have:=G3 sn c hc;lia,by rw[Cp];have:=Ft sn;lia⟩
 cases p with
 | no p=>
  walk_at"ew";exists⟨x,dx,_,rfl,hx,l1,?_⟩;exists⟨x,_,rfl,R,fun H1 k1 R1=>?_⟩;exists⟨x,p,r,rfl,R1,okp,trivial,ja6 dp,hh,fun v H2 k2 R2 P2=>?_⟩;refine⟨Hz,fun a ha=>?_⟩;refine fresh ha fun H4 s4 t4=>?_;exact q _ H4 ((k1.tr k2).tr (.sm s4)) (R2.same s4) ⟨a,v,rfl,by rw[t4];exact xk (fun z=>some (HO.tup [z,_])) (Gy _),P2.same s4⟩
 | ev n p e=>
  walk_at"nw";walk_at"ew";exists⟨x,dx,_,rfl,hx,l1,?_⟩;exists⟨x,_,rfl,R,fun H1 k1 R1=>?_⟩;exact⟨x,.ev n p e,r,rfl,R1,okp,trivial,dp,hh,q.on k1⟩
 | la n p=>
  exists CJ (Tq okp.1 ⟨_,_,rfl,by decide⟩) ?_;exists CJ (Tq okp.1 ⟨_,_,rfl,by decide⟩) ?_;refine⟨_,rfl,R.tk,fun v H2 s2 iv=>?_⟩;obtain rfl:=iv.mpr (show OJ (cpl (sW (nW n))) by rw[Bk];exact(IW okp.1).1);symm;exists FT ?_;exact⟨x,.la n p,r,rfl,R.same s2,okp,trivial,dp,hh,q.on (.sm s2)⟩
 | nt n p p'=>
  exists CJ (Tq okp.1 ⟨_,_,rfl,by decide⟩) ?_;exists CJ (Tq okp.1 ⟨_,_,rfl,by decide⟩) ?_;refine⟨_,rfl,R.tk,fun v H2 s2 iv=>?_⟩;obtain rfl:=iv.mpr (show OJ (cpl (sW (nW n))) by rw[Bk];exact(IW okp.1).1);symm;exists FT ?_;exact⟨x,.nt n p p',r,rfl,R.same s2,okp,trivial,dp,hh,q.on (.sm s2)⟩
 | pr w p p'=>
  obtain⟨z,t,e,hz⟩:=p.hd;have e1:inn (.pr w p p') r=z::(t++sg w.s::(p'.tok++r)):=by
   show p.tok++_=_;rw[e];rfl
  have R':=R;rw[e1] at R' ⊢;obtain⟨n1,n2,n3⟩:V.str (sW z)≠V.str (Str.ofString "not")/\V.str (sW z)≠V.str (Str.ofString "every")/\∃c u,z=c::u/\¬(c=45\/48<=c/\c<=57):=by
   have g:∀{y:String} {c:Nat} {u:Wd},z=sg y->sg y=c::u->¬(c=45\/48<=c/\c<=57)->Str.ofString y≠Str.ofString "not"->Str.ofString y≠Str.ofString "every"->V.str (sW z)≠V.str (Str.ofString "not")/\V.str (sW z)≠V.str (Str.ofString "every")/\∃c u,z=c::u/\¬(c=45\/48<=c/\c<=57):=fun a b c d e=>by
    rw[a];exact⟨Pk d,Pk e,_,_,b,c⟩
   rcases qv.mp hz with h | hz
   ·exact g h rfl (by decide) (by ac_rfl) (by ac_rfl)
   rcases qv.mp hz with h | hz
   ·exact g h rfl (by decide) (by ac_rfl) (by ac_rfl)
   rcases qv.mp hz with h | hz
   ·exact g h rfl (by decide) (by ac_rfl) (by ac_rfl)
   rcases qv.mp hz with h | hz
   ·exact g h rfl (by decide) (by ac_rfl) (by ac_rfl)
   ·exact g (y:="(") ((vb.mp hz).trans (by ac_rfl)) rfl (by decide) (by ac_rfl) (by ac_rfl)
  exists CJ n1 ?_;exists CJ n2 ?_;refine⟨_,rfl,R'.tk,fun v H2 s2 iv=>?_⟩;obtain rfl:v=false:=by
   cases v with
   | false=>rfl
   | true=>
    have:=iv.mp rfl;rw[show (z::(t++sg w.s::(p'.tok++r))).headD []=z from rfl,Bk] at this;obtain⟨c,u,rfl,n⟩:=n3;exact absurd (qT this) n
  symm;exists En ?_;exact⟨x,.pr w p p',r,rfl,R.same s2,okp,trivial,dp,hh,q.on (.sm s2)⟩
 | _=>exact(cp.elim id fun z=>z.elim id id).elim
theorem Xb:DP ["reader","word","plan","numbers"] ["reader"] (BZ J9):=by walk_at"s"
theorem YF{k d:Nat}(F:Fun K "take_plan" "take_plan" J9 f fd)(ab:C0 (k+2) "take_within" ["reader"] ((R0 Be) d))(hk:8<=k):F0 (k+3) f fd ["reader"] ((J8 Be) (d+1)):=by
 refine F.ok (k:=k+2) Xb (fun h=>?_) fun nd H vs Q E hr h=>?_
 ·obtain⟨x,p,r,rfl,_⟩:=h;rfl
 obtain⟨x,p,r,rfl,R,okp,_,dp,hh,q⟩:=h;obtain⟨dx,fs,hx,l1,_⟩:=R.ob;refine⟨_,(Ab (Ah 1 (Cu Cq Bj (pv 0)))
  (Ab (Ay (PW.pt (Gv (Ai Bl (pv 1) Aj (Am _)) (Fp (Ai Bl (pv 1) Aj (Am _)))))
   (Ad (Al (BW (Aa (pv 1) Ac))))
   Ao)
  (Ab (Ay (Ai Bl (pv 1) Aj (Am _))
   (Ab (Ah 3 (Ag QM (Aa (pv 0) Ac)))
  (Ad (Al (BW (Aa (pv 1) (Aa (pxT 3) (Aa (pxT 3) Ac)))))))
   Ao)
  (Ab (Ay (Ai Bl (pv 1) Aj (Am _))
   (Ad (Al (Ag aP (Aa (pv 0) Ac))))
   Ao)
  (Ab (Ay (Ai GJ (pv 1) Aj (Am _))
   (Ad Bc)
   Ao)
  (Ab (Ah 2 (Ag ab (Aa (pv 0) Ac)))
  (Ab (Bh (Ag HR (Aa (pv 0) (Aa Aj Ac))))
  (Ad (Al (pv 2)))))))))),?_⟩
 symm;exists⟨x,dx,_,rfl,hx,l1,?_⟩;exists⟨x,_,rfl,R,fun H1 k1 R1=>?_⟩;cases p with
 | lf b=>
  cases b with
  | true=>
   refine Gg (Gy "all") ?_;exists FT ?_;refine⟨(by show 1<=sizeLine;decide),fun a ha=>?_⟩;refine fresh ha fun H4 s4 t4=>?_;exact q _ H4 (k1.tr (.sm s4)) (R1.same s4) ⟨a,rfl,by rw[t4];exact xk (fun z=>some (HO.tup [z])) (Gy "all")⟩
  | false=>
   walk_at"nw";exists Gg (Gy "none") ?_;refine⟨(by show 1<=sizeLine;decide),fun a ha=>?_⟩;refine fresh ha fun H4 s4 t4=>?_;exact q _ H4 (k1.tr (.sm s4)) (R1.same s4) ⟨a,rfl,by rw[t4];exact xk (fun z=>some (HO.tup [z])) (Gy "none")⟩
 | each n m=>
  walk_at"nw";walk_at"nw";walk_at"ew";exists⟨x,n,m,r,rfl,R1,okp.1,okp.2.1,fun a H2 k2 R2 t2=>?_⟩;exists Ar (SqT.of t2) at0 ?_;exists Ar (SqT.of t2) at1 ?_;refine⟨(by show 3<=sizeLine;decide),fun b hb=>?_⟩;refine fresh hb fun H4 s4 t4=>?_;exact q _ H4 ((k1.tr k2).tr (.sm s4)) (R2.same s4) ⟨b,rfl,by rw[t4];exact xk (fun z=>some (HO.tup [z,_,_])) (Gy _)⟩
 | date nm m e y=>
  walk_at"nw";walk_at"nw";walk_at"nw";walk_at"ew";exact⟨x,nm,m,e,y,r,rfl,R1,okp,hh,q.on k1⟩
 | _=>
  walk_at"nw";walk_at"nw";walk_at"nw";walk_at"nw";refine Gf (by show V.str (sW kL)=_;rw[yG];exact Gy _) ?_;symm;refine⟨x,_,kR::r,rfl,by simp only[PT.tok,jh7,ke,ji8] at R1;exact R1,okp,by first | exact trivial | exact .inl trivial | exact .inr (.inl trivial) | exact .inr (.inr trivial),dp,(show kR≠sg "each" by ac_rfl),fun v H2 k2 R2 P2=>?_⟩
  symm;refine⟨x,_,r,rfl,by rw[show cpl (Str.ofString ")")=kR by ac_rfl];exact R2,fun H3 k3 R3=>?_⟩;symm;exact q _ H3 ((k1.tr k2).tr k3) R3 (PlH.kb R2 k3 P2)
theorem Cy:C0 131 "take_plan" ["reader"] ((J8 Be) 41):=Xv (k0:=8) (J:=3) (sp:=(J8 Be)) (st:=J9) gX gG (by walk_at"g") (by walk_at"b") (fun _ _ _ _ h=>ZG h) (fun d _ _ R F=>by
 have hk:8<=8+3*d:=jb6 _ _;have ab:C0 ((8+3*d)+1) "take_numbered" ["reader"] ((XQ Be) d):=co (st:=HX) (by walk_at"g") (by walk_at"b") fun F=>O5 F R hk;have ac:C0 ((8+3*d)+1) "take_every" ["reader"] ((R9 Be) d):=co (st:=JZ) (by walk_at"g") (by walk_at"b") fun F=>Vq F R hk;have ad:C0 ((8+3*d)+1) "take_pair" ["reader"] ((XN Be) d):=co (st:=KC) (by walk_at"g") (by walk_at"b") fun F=>YG F R hk;have ae:C0 ((8+3*d)+2) "take_within" ["reader"] ((R0 Be) d):=co (st:=Io) (by walk_at"g") (by walk_at"b") fun F=>Tp F R ac ab ad hk;exact YF F ae hk) 41
theorem aZ:C0 8 "made_date" ["plan","calendars"] (uP K Ba CL Bd BR Ak):=by
 refine co' ["plan","calendars","name"] Zf fun nd H vs Q E hr h=>?_;obtain⟨v,a,m,d,g,rfl,⟨q0,rfl,hq⟩,ok,sm,⟨kv,z,hk,ez,C⟩,q⟩:=h;have dg:V0 H a (.str (sW (sg "c"))) (some (.ref z)):=.inl ⟨_,.inr (sW (sg "c")),.inl hk,rfl,ez.symm⟩;refine⟨_,(Ab (Ah 2 (pxT 0))
  (Ab (Ay (Xz (WL (iJ hr) (pv 2) (pv 1)))
   (Ad Bc)
   Ao)
  (Ad (Al (Gd Pj (Aa (pv 2) (Aa (gj (iJ hr) (pv 1) (pv 2) (fun _ _=>rfl)) (Aa (pxT 0) (Aa (pxT 0) (Aa (pxT 0) (Aa (pxT 0) Ac))))))))))),?_⟩
 symm;exists Ar (SqT.of hq) JB ?_;unfold W7;symm;refine⟨a,some (.ref z),rfl,dg,?_⟩;refine⟨_,rfl,?_⟩;exists En ?_;unfold nG;symm;exists⟨a,.ref z,rfl,dg,?_⟩;exists Ar (SqT.of hq) N5 ?_;exists Ar (SqT.of hq) Yn ?_;exists Ar (SqT.of hq) AEM ?_;exists Ar (SqT.of hq) AEJ ?_;exact fun x dx hx hdx ne=>⟨x,z,_,g,m,d,rfl,(by ac_rfl),Dj.same C (Ht hx hdx ne),sm,ok.2.2.2.2.1,fun i e=>CQ (ok.2.1 i e),ok.2.2.2.2.2,fun i e=>CQ (ok.2.2.1 i e),.go hx hdx ne fun b H' s N r=>⟨rfl,q.go s N r⟩⟩
theorem aY:C0 12 "made_pair" ["word","one","other"] (uO K Ba CL):=by
 refine co' ["word","one","other"] Ze fun nd H vs Q E hr h=>?_;obtain⟨w,x,y,n1,n2,b1,b2,rfl,R1,R2,lz,q⟩:=h;refine⟨_,(Ab (Ay (Ai Bl (pv 0) Aj (Am _))
  (Ad (Al (Gd RK (Aa (pv 1) (Aa (pv 2) Ac)))))
  Ao)
  (Ab (Ay (Ai Bl (pv 0) Aj (Am _))
   (Ad (Al (Gd Nv (Aa (pv 1) (Aa (pv 2) Ac)))))
   Ao)
  (Ab (Ay (Ai Bl (pv 0) Aj (Am _))
   (Ad (Al (Gd U7 (Aa (pv 1) (Aa (pv 2) Ac)))))
   Ao)
  (Ab (Ay (Ai Bl (pv 0) Aj (Am _))
   (Ad (Al (Gd Nq (Aa (pv 1) (Aa (pv 2) Ac)))))
   Ao)
  (Ab (Ay (Ai Bl (pv 0) Aj (Am _))
   (Ad (Al (Gd Q6 (Aa (pv 1) (Aa (pv 2) Ac)))))
   Ao)
  (Ab (Ay (Ai Bl (pv 0) Aj (Am _))
   (Ad (Al (Gd Pa (Aa (pv 1) (Aa (pv 2) Ac)))))
   Ao)
  (Ab (Ay (Ai Bl (pv 0) Aj (Am _))
   (Ad (Al (Gd Q8 (Aa (pv 1) (Aa (pv 2) Ac)))))
   Ao)
  (Ad (Al (Gd Q7 (Aa (pv 1) (Aa (pv 2) Ac)))))))))))),?_⟩
 symm;cases w<;>(repeat walk_at"nw")<;>(try walk_at"ew")<;>exact fun y dy hy hdy ne=>ADt R1 R2 lz hy hdy ne fun b H' s N=>⟨rfl,q _ b H' s N⟩
theorem uh:DP ["plan","calendars","word","one"] ["plan","calendars"] (BZ cH):=by walk_at"s"
theorem vP{k d:Nat}(F:Fun K "made" "made" cH f fd)(Jl:C0 k "made" ["plan","calendars"] ((R8 K Ba CL Bd BR Ak) d))(hk:12<=k):F0 (k+1) f fd ["plan","calendars"] ((R8 K Ba CL Bd BR Ak) (d+1)):=by
 refine F.ok (k:=k+0) uh (fun h=>?_) fun nd H vs Q E hr h=>?_
 ·obtain⟨v,a,p,g,rfl,_⟩:=h;rfl
 obtain⟨v,a,p,g,rfl,P,ok,kn,dp,D0,Di,lz,q⟩:=h;refine⟨_,(Ab (Ah 2 (pxT 0))
  (Ab (Ay (Ai Bl (pv 2) Aj (Am _))
   (Ad (Al (dB U9 (hr.mono (by lia)) rfl)))
   Ao)
  (Ab (Ay (Ai Bl (pv 2) Aj (Am _))
   (Ad (Al (dB Vy (hr.mono (by lia)) rfl)))
   Ao)
  (Ab (Ay (Ai Bl (pv 2) Aj (Am _))
   (Ad (Al (Gd RG (Aa (pxT 0) (Aa (pxT 0) Ac)))))
   Ao)
  (Ab (Ay (Ai Bl (pv 2) Aj (Am _))
   (Ad (Al (Ag aZ (Aa (pv 0) (Aa (pv 1) Ac)))))
   Ao)
  (Ab (Ay (Ai Bl (pv 2) Aj (Am _))
   (Ad (Al (Gd U0 (Aa (Ag Jl (Aa (pxT 0) (Aa (pv 1) Ac))) Ac))))
   Ao)
  (Ab (Ay (Ai Bl (pv 2) Aj (Am _))
   (Ad (Al (Gd Pb (Aa (pxT 0) (Aa (Ag Jl (Aa (pxT 0) (Aa (pv 1) Ac))) Ac)))))
   Ao)
  (Ab (Ay (Ai Bl (pv 2) Aj (Am _))
   (Ad (Al (Gd Pg (Aa (pxT 0) (Aa (Ag Jl (Aa (pxT 0) (Aa (pv 1) Ac))) (Aa (pxT 0) Ac))))))
   Ao)
  (Ab (Ay (Ai Bl (pv 2) Aj (Am _))
   (Ab (Ah 3 (Ag Jl (Aa (pxT 0) (Aa (pv 1) Ac))))
  (Ad (Al (Gd U6 (Aa (pxT 0) (Aa (pv 3) (Aa (Ag Jl (Aa (pxT 0) (Aa (pv 1) Ac))) Ac)))))))
   Ao)
  (Ab (Ah 3 (Ag Jl (Aa (pxT 0) (Aa (pv 1) Ac))))
  (Ad (Al (Ag aY (Aa (pv 2) (Aa (pv 3) (Aa (Ag Jl (Aa (pxT 0) (Aa (pv 1) Ac))) Ac)))))))))))))))),?_⟩
 cases p with
 | lf b=>
  obtain⟨q0,rfl,hq⟩:=P;symm;exists Ar (SqT.of hq) DQ ?_;cases b with
  | true=>
   walk_at"ew";exact fun x dx hx hdx ne=>⟨x,rfl,.go hx hdx ne fun b H' s N eb=>⟨rfl,q.go s N eb⟩⟩
  | false=>
   walk_at"nw";walk_at"ew";exact fun x dx hx hdx ne=>⟨x,rfl,.go hx hdx ne fun b H' s N eb=>⟨rfl,q.go s N eb⟩⟩
 | each n r=>
  obtain⟨q0,rfl,hq⟩:=P;symm;exists Ar (SqT.of hq) DQ ?_;walk_at"nw";walk_at"nw";walk_at"ew";exists Ar (SqT.of hq) JB ?_;exists Ar (SqT.of hq) N5 ?_;exact fun x dx hx hdx ne=>⟨x,n,r,rfl,ok.2.2.1,by have:=ok.2.2.2;lia,.go hx hdx ne fun b H' s N B=>⟨rfl,q.go s N B⟩⟩
 | date nm m e y=>
  obtain⟨q0,rfl,hq⟩:=P;symm;exists Ar (SqT.of hq) DQ ?_;walk_at"nw";walk_at"nw";walk_at"nw";walk_at"ew";obtain⟨rfl,rfl⟩:=kn;exact⟨_,a,m,e,g,rfl,⟨q0,rfl,hq⟩,ok,D0,Di,q⟩
 | no p=>
  obtain⟨q0,u,rfl,hq,P⟩:=P;symm;exists Ar (SqT.of hq) DQ ?_;walk_at"nw";walk_at"nw";walk_at"nw";walk_at"nw";walk_at"ew";exists Ar (SqT.of hq) JB ?_;exists⟨u,a,p,g,rfl,P,ok,kn,ja6 dp,D0,Di,lz,fun t b1 H1 s1 T _=>?_⟩;exact fun x dx hx hdx ne=>⟨x,t,_,_,rfl,T.same (Ht hx hdx ne),.go hx hdx ne fun b H' s N r=>⟨rfl,q.go (s1.trans s) N r⟩⟩
 | la k p=>
  obtain⟨q0,u,rfl,hq,P⟩:=P;symm;exists Ar (SqT.of hq) DQ ?_;walk_at"nw";walk_at"nw";walk_at"nw";walk_at"nw";walk_at"nw";walk_at"ew";exists Ar (SqT.of hq) JB ?_;exists Ar (SqT.of hq) N5 ?_;exists⟨u,a,p,g,rfl,P,ok.2,kn,ja6 dp,D0,Di,lz,fun t b1 H1 s1 T _=>?_⟩;exact fun x dx hx hdx ne=>⟨x,t,k,_,_,rfl,CQ ok.1,T.same (Ht hx hdx ne),.go hx hdx ne fun b H' s N r=>⟨rfl,q.go (s1.trans s) N r⟩⟩
 | ev k p e=>
  obtain⟨q0,u,rfl,hq,P⟩:=P;have sp:=PT.sz_pos D0 ok.2.2.1;have lz:p.sz g*k<=150000:=lz;have l1:=vf sp (show 0<k by have:=ok.2.2.2.1;lia);symm;exists Ar (SqT.of hq) DQ ?_;walk_at"nw";walk_at"nw";walk_at"nw";walk_at"nw";walk_at"nw";walk_at"nw";walk_at"ew";exists Ar (SqT.of hq) JB ?_;exists Ar (SqT.of hq) N5 ?_;exists⟨u,a,p,g,rfl,P,ok.2.2.1,kn,ja6 dp,D0,Di,by lia,fun t b1 H1 s1 T _=>?_⟩;exists Ar (SqT.of (s1 _ _ hq)) Yn ?_;exact fun x dx hx hdx ne=>⟨x,t,k,e,_,_,rfl,ok.2.2.2.1,by have:=ok.2.2.2.2;lia,lz,ADT ok.2.1,T.same (Ht hx hdx ne),.go hx hdx ne fun b H' s N r=>⟨rfl,q.go (s1.trans s) N r⟩⟩
 | nt k p p'=>
  obtain⟨q0,u,u',rfl,hq,P,P'⟩:=P;have dp:max p.deep p'.deep+1<d+1:=dp;have lz:Ci (p.sz g) (p'.sz g)<=150000:=lz;have ll:=qK (PT.sz_pos D0 ok.2.1) (PT.sz_pos D0 ok.2.2.1);symm;exists Ar (SqT.of hq) DQ ?_;walk_at"nw";walk_at"nw";walk_at"nw";walk_at"nw";walk_at"nw";walk_at"nw";walk_at"nw";walk_at"ew";exists Ar (SqT.of hq) N5 ?_;exists⟨u,a,p,g,rfl,P,ok.2.1,kn.1,by lia,D0,Di,by lia,fun t b1 H1 s1 T _=>?_⟩;exists Ar (SqT.of (s1 _ _ hq)) JB ?_;exists Ar (SqT.of (s1 _ _ hq)) Yn ?_;exists⟨u',a,p',g,rfl,P'.same s1,ok.2.2.1,kn.2,by lia,D0,Di.same s1,by lia,fun t' b2 H2 s2 T' _=>?_⟩;exact fun x dx hx hdx ne=>⟨x,t,t',k,_,_,_,_,rfl,ok.2.2.2,CQ ok.1,(T.same s2).same (Ht hx hdx ne),T'.same (Ht hx hdx ne),lz,.go hx hdx ne fun b H' s N r=>⟨rfl,q.go ((s1.trans s2).trans s) N r⟩⟩
 | pr w p p'=>
  obtain⟨q0,u,u',rfl,hq,P,P'⟩:=P;have dp:max p.deep p'.deep+1<d+1:=dp;have lz:Ci (p.sz g) (p'.sz g)<=150000:=lz;have ll:=qK (PT.sz_pos D0 ok.1) (PT.sz_pos D0 ok.2);have no:∀{z:String},z∈["all","none","each","date","not","later","every","of"]->V.str (Str.ofString w.s)≠V.str (Str.ofString z):=fun h z=>ACo w _ h (V.str.inj z);symm;exists Ar (SqT.of hq) DQ ?_;exists CJ (no (by decide)) ?_;exists CJ (no (by decide)) ?_;exists CJ (no (by decide)) ?_;exists CJ (no (by decide)) ?_;exists CJ (no (by decide)) ?_;exists CJ (no (by decide)) ?_;exists CJ (no (by decide)) ?_;exists CJ (no (by decide)) ?_;exists Ar (SqT.of hq) JB ?_;exists⟨u,a,p,g,rfl,P,ok.1,kn.1,by lia,D0,Di,by lia,fun t b1 H1 s1 T _=>?_⟩;exists Ar (SqT.of (s1 _ _ hq)) N5 ?_;exists⟨u',a,p',g,rfl,P'.same s1,ok.2,kn.2,by lia,D0,Di.same s1,by lia,fun t' b2 H2 s2 T' _=>?_⟩;refine⟨w,t,t',_,_,_,_,rfl,T.same s2,T',lz,fun z b H' s N=>q.go ((s1.trans s2).trans s) N trivial⟩
theorem Jl:C0 53 "made" ["plan","calendars"] ((R8 K Ba CL Bd BR Ak) 41):=Xv (k0:=12) (J:=1) (sp:=(R8 K Ba CL Bd BR Ak)) (st:=cH) gX gG (by walk_at"g") (by walk_at"b") (fun _ _ _ _ h=>ZJ h) (fun d _ _ R F=>by
 have hk:12<=12+1*d:=jb6 _ _;exact vP F R hk) 41
theorem aR:C0 132 "read_rule" ["text","calendars"] (zA K Ba CL Bd BR Ak):=by
 refine co' ["text","calendars","reader","plan"] ZZ fun nd H vs Q E hr h=>?_;obtain⟨a,p,g,rfl,ok,kn,tl,dl,mn,D0,Di,lz,q⟩:=h;obtain⟨es,tk,dk,co⟩:=PT.rdy ok tl dl;have W:=PT.wf ok;refine⟨_,(Ab (Ay (Gw (GD (Ag Lq (Aa (pv 0) Ac))))
  (Ad Bc)
  Ao)
  (Ab (Ah 2 (Gd Nu (Aa (Ag eZ (Aa (pv 0) Ac)) Ac)))
  (Ab (Ah 3 (Ag Cy (Aa (pv 2) Ac)))
  (Ab (Ay (Ai GJ (Cu Gj Bj (pv 2)) Aj (Am _))
   (Ad Bc)
   Ao)
  (Ad (Al (Ag Jl (Aa (pv 3) (Aa (pv 1) Ac))))))))),?_⟩
 symm;refine⟨_,rfl,tk,by rw[Cp];exact tl,?_⟩;symm;exists En ?_;refine⟨_,rfl,tk,by rw[Bk];exact tl,by rw[Bk,es];exact co,by rw[Bk,es];exact dk,fun l H1 s1 t1=>?_⟩;rw[Bk,es,W.tk] at t1;symm;refine fun x dx hx hdx ne=>⟨x,dx,l,p.tok,rfl,An,Ht hx hdx ne _ _ t1,?_,PT.tok_ok ok,fun H2 k2 R2=>⟨rfl,?_⟩⟩
 ·have:=PT.tok_len p;lia
 have s2:=WP hx hdx ne k2;have hxH:H x=none:=s1.free hx;have kbS:∀{H':Hp},KB x H2 H'->Av H H':=fun{H'} kb y o e=>kb y o (Bp e hxH) ((s1.trans s2) _ _ e);symm;refine⟨x,p,[],rfl,by show Rd _ _ _ (p.tok++[]);rw[uj];exact R2,ok,trivial,by lia,(by ac_rfl),fun v H3 k3 R3 P3=>?_⟩;symm;obtain⟨d3,fs,hx3,_,l3⟩:=R3.ob;exists⟨x,d3,_,rfl,hx3,l3,?_⟩;exists⟨x,_,rfl,R3,?_⟩;refine Gf (by rw[oO];rfl) ?_;symm;have s3:=kbS k3;exact⟨v,a,p,g,rfl,P3,ok,kn,by lia,D0,Di.same s3,lz,fun t b H' s T F=>q t b H' (s3.trans s) T F⟩
theorem fH:C0 3 "next_day" ["turn","day"] (zK K):=by
 refine co' ["turn","day","bits"] cG fun nd H vs Q E hr h=>?_;obtain⟨a,n,d,b,rfl,hS,h0,h1,hb,_,qN,q⟩:=h;refine⟨_,(Ab (Ah 2 (Dy MT (Ag Il (Aa (pv 0) (Aa (GZ Ei (pv 1)) Ac))) Ae (fun _ _=>rfl)))
  (Ab (Ay (Ai Bl (pv 2) Ae (Am _))
   (Ad (Al GF))
   Ao)
  (Ad (Al (Af CG (Af Bb (pv 1) (X8 ji2 je2 je3 RZ (Af IV (pv 2) (GZ Ei (pv 2))))) Ae))))),?_⟩
 symm;refine⟨a,n,-d,b,rfl,hS,h0,h1,hb,fun p hp=>?_⟩;have s1:=Ax hp (.tup [.int n,.int ((lat n.toNat b ((-d)%n).toNat:Nat):Int)]);generalize hc:lat n.toNat b ((-d)%n).toNat=c at*
 have bit:∀i:Nat,i<n.toNat->c.testBit i=On n b ((i:Int)+d):=fun i hi=>by
  have:=qM (num:= -d) (d:=(i:Int)) h0 hb;rw[hc] at this;rw[show (i:Int)+d=(i:Int)- -d by lia,<-this];unfold On;rw[jj2 (by lia) (by lia),xi]
 have cl:c<2^n.toNat:=by rw[<-hc];exact dX _ _ _
 symm;exists Ar (SqT.of An) at1 ?_;by_cases c0:c=0
 ·refine Gg (by rw[c0];rfl) ?_;symm;refine qN (fun e=>?_) _ s1;have e1:=zh (e-d) (show n≠0 by lia);have e2:=qk (e-d) h0;have:=bit ((e-d)%n).toNat (by lia);rw[c0,jf1,je0 e1] at this;rw[this];unfold On
  congr 2
  rw[Int.emod_add_emod]
  congr 1
  lia
 refine CJ (fun z=>c0 (by injection z with z;lia)) ?_;symm;obtain⟨k,hk,hlow⟩:=AAi c0;have kn:k<n.toNat:=by
  refine jb7 fun z=>?_;rw[high cl z] at hk;cases hk
 have la:=iD k c hk hlow;have eb:Builtin.bitAnd (c:Int) (-(c:Int))=((2^k:Nat):Int):=by
  rw[fO c0];lia
 rw[eb,Ik (by have:=ki k;lia),qJ];symm;refine q _ _ s1 (by lia) ?_ (fun e he1 he2=>?_)
 ·have:=bit k kn;rw[hk] at this;rw[this]
  congr 1
  lia
 ·have:=bit (e-d).toNat (by lia);rw[hlow (e-d).toNat (by lia),je0 (by lia)] at this;rw[this]
  congr 1
  lia
theorem fJ:C0 3 "last_day" ["turn","day"] (zN K):=by
 refine co' ["turn","day","bits"] cO fun nd H vs Q E hr h=>?_;obtain⟨a,n,d,b,rfl,hS,h0,h1,hb,_,qN,q⟩:=h;refine⟨_,(Ab (Ah 2 (Dy MT (Ag Il (Aa (pv 0) (Aa (Af CG (GZ Ei (pv 1)) Ae) Ac))) Ae (fun _ _=>rfl)))
  (Ab (Ay (Ai Bl (pv 2) Ae (Am _))
   (Ad (Al GF))
   Ao)
  (Ad (Al (Af CG (Af Bb (pv 1) (X8 ji2 je2 je3 RZ (pv 2))) (pxT 0)))))),?_⟩
 symm;refine⟨a,n,-d-1,b,rfl,hS,h0,h1,hb,fun p hp=>?_⟩;have s1:=Ax hp (.tup [.int n,.int ((lat n.toNat b ((-d-1)%n).toNat:Nat):Int)]);have hS1:=s1.tup hS;generalize hc:lat n.toNat b ((-d-1)%n).toNat=c at*
 have bit:∀i:Nat,i<n.toNat->c.testBit i=On n b ((i:Int)+d+1):=fun i hi=>by
  have:=qM (num:= -d-1) (d:=(i:Int)) h0 hb;rw[hc] at this;rw[show (i:Int)+d+1=(i:Int)-(-d-1) by lia,<-this];unfold On;rw[jj2 (by lia) (by lia),xi]
 have cl:c<2^n.toNat:=by rw[<-hc];exact dX _ _ _
 have per:∀e,On n b (e+n)=On n b e:=fun e=>by
  unfold On;rw[Int.add_emod_right]
 symm;exists Ar (SqT.of An) at1 ?_;by_cases c0:c=0
 ·refine Gg (by rw[c0];rfl) ?_;symm;refine qN (fun e=>?_) _ s1;have e1:=zh (e-d-1) (show n≠0 by lia);have e2:=qk (e-d-1) h0;have:=bit ((e-d-1)%n).toNat (by lia);rw[c0,jf1,je0 e1] at this;rw[this];unfold On
  congr 2
  rw[jn2,Int.emod_add_emod]
  congr 1
  lia
 refine CJ (fun z=>c0 (by injection z with z;lia)) ?_;symm;obtain⟨hk,hhigh⟩:=qX c0;have kn:c.log2<n.toNat:=by
  refine jb7 fun z=>?_;rw[high cl z] at hk;cases hk
 rw[Ik c0];symm;exists Ar hS1 at0 ?_;refine q _ _ s1 (by lia) ?_ (fun e he1 he2=>?_)
 ·have:=bit c.log2 kn;rw[hk] at this;rw[this,<-per]
  congr 1
  lia
 ·have:=bit (e-d-1+n).toNat (by lia);rw[hhigh (e-d-1+n).toNat (by lia),je0 (by lia)] at this;rw[this,<-per]
  congr 1
  lia
theorem Up:C0 4 "place_of_one" ["bits","number"] uJ:=by
 refine co' ["bits","number","left","sought","place","width","half","below","ones"] Sh fun nd H vs Q E hr h=>?_;obtain⟨b,k,n,rfl,hb,hn,hk,q⟩:=h;have b0:b≠0:=ir (k:=n) (by lia);have l1:b<2^(b.log2+1):=Nat.lt_log2_self;have l2:b.log2+1<=n:=by
  have:=Nat.log2_self_le b0;refine jb7 fun z=>?_;have:=vc (show 0<2 by decide) z;lia
 have hk':k<cnt b (b.log2+1):=by
  obtain⟨t,rfl⟩:∃t,n=b.log2+1+t:=⟨n-(b.log2+1),by lia⟩;rw[Rj,jj7 l1,Ug] at hk;exact hk
 refine⟨_,(Ab (Ah 2 (pv 0))
  (Ab (Ah 3 (pv 1))
  (Ab (Ah 4 Ae)
  (Ab (Ah 5 (X8 ji2 je2 je3 RZ (pv 0)))
  (Ab (HH PassesOwn.never (Ai Fq (pv 5) Ae (Am _))
   (Ab (Ah 6 (Af Bg (pv 5) Ae))
  (Ab (Ah 7 (Af IV (pv 2) (Ag GP (Aa (pv 6) Ac))))
  (Ab (Ah 8 (Ag LC (Aa (pv 7) Ac)))
  (Ad (Ej (Ay (Ai FZ (pv 3) (pv 8) (Am _))
   (Ab (Ah 2 (pv 7))
  (Ad (Ah 5 (pv 6))))
   (Ab (Ah 2 (Af MK (pv 2) (pv 6)))
  (Ab (Ah 3 (Af CG (pv 3) (pv 8)))
  (Ab (Ah 4 (Af Bb (pv 4) (pv 6)))
  (Ad (Ah 5 (Af CG (pv 5) (pv 6))))))))))))))
  (Ad (Al (pv 4)))))))),?_⟩
 symm;rw[Ik b0];symm;refine⟨fun m Z' H'=>Av H H'/\∃l s p w:Nat,∃x y z:Option V,Z'=[some (.int (b:Int)),some (.int (k:Int)),some (.int (l:Int)),some (.int (s:Int)),some (.int (p:Int)),some (.int (w:Int)),x,y,z]/\l<2^w/\w<=150000/\s<cnt l w/\Pl b k l s p/\m=w,
  ⟨_,Av.refl _,b,k,0,b.log2+1,none,none,none,rfl,l1,by lia,hk',fun j h1 h2=>⟨by rwa [jm8],by rwa [jm8]⟩,rfl⟩,?_⟩
 rintro m Z' H1 ⟨s1,l,s,p,w,x,y,z,rfl,hl,w1,hs,P,rfl⟩;symm;refine CK (fun cc=>?_) (fun cc=>?_)
 ·have w2:1<m:=by lia
  exists⟨_,fun Z' H' hh=>hh,?_⟩;have eh:(m:Int)/2=((m/2:Nat):Int):=by lia
  rw[eh];generalize hh:m/2=h;symm;exists⟨(h:Int),rfl,by lia,by lia,?_⟩;rw[xi,Ey];exists⟨_,h,rfl,HS _ _,by lia,fun H2 s2=>?_⟩;rw[Ke (c:=l) fun i hi=>Fi _ _ _ hi];refine EY (fun Z' H'=>∃i,An3 (i<m) (Av H H') (Ex4 fun(l s p w:Nat)=>Ex3 fun(x y z:Option V)=>An6 (Z'=[some (.int (b:Int)),some (.int (k:Int)),some (.int (l:Int)),some (.int (s:Int)),some (.int (p:Int)),some (.int (w:Int)),x,y,z]) (l<2^w) (w<=150000) (s<cnt l w) (Pl b k l s p) (i=w))) ?_ ?_
  ·symm;refine CK (fun c=>?_) (fun c=>?_)
   ·symm;refine⟨h,by lia,s1.trans s2,_,s,p,h,_,_,_,rfl,HS _ _,by lia,?_,P.low,rfl⟩;rw[Ke (c:=l) fun i hi=>Fi _ _ _ hi];lia
   ·symm;exists Ds (show (0:Int)<=(h:Int) by lia) ?_;rw[xi,JD,ve];have ca:=Rj l h (m-h);rw[show h+(m-h)=m by lia] at ca;refine⟨m-h,by lia,s1.trans s2,l/2^h,s-cnt l h,p+h,m-h,some (.int (h:Int)),some (.int ((l &&& (2^h-1):Nat):Int)),some (.int (cnt l h:Int)),?_,?_,by lia,by lia,P.up (by lia),rfl⟩
    ·rw[show ((s-cnt l h:Nat):Int)=(s:Int)-(cnt l h:Int) by lia,show((m-h:Nat):Int)=(m:Int)-(h:Int) by lia,jk5]
    ·rw[Nat.div_lt_iff_lt_mul (ki h),<-jl8,show m-h+h=m by lia];exact hl
  ·rintro Z' H3 hh;obtain⟨i,hi,a,l,s,p,w,x,y,z,b1,b2,b3,b4,b5,b6⟩:=hh;symm;exact⟨i,hi,a,l,s,p,w,x,y,z,b1,b2,b3,b4,b5,b6⟩
 ·have w2:m=1:=by
   rcases(by lia:m=0\/m=1) with z | z
   ·subst z;have:cnt l 0=0:=rfl;lia
   ·exact z
  subst w2;have le:l=1:=by
   have:=ir (b:=l) (k:=1) (by lia);lia
  subst le;have c1:cnt 1 1=1:=by decide
  obtain⟨r1,r2⟩:=P 0 (by decide) (show 0=s by lia);symm;exact q p _ s1 r1 r2
theorem lY:C0 5 "nth_day" ["turn","day","number"] (zJ K):=by
 refine co' ["turn","day","number","ones","index"] jY fun nd H vs Q E hr h=>?_;obtain⟨a,n,d,k,b,rfl,hS,h0,h1,hb,bd,bk,k0,qN,q⟩:=h;refine⟨_,(Ab (Ay (Ai Bl (pv 2) Ae (Am _))
  (Ad Bc)
  Ao)
  (Ab (Ay (Ai Bl (pxT 0) Ae (Am _))
   (Ad (Al GF))
   Ao)
  (Ab (Ej (Ay (Ai Fq (pv 2) Ae (Am _))
   (Ad (Ah 4 (Af CG (Af Bb (Ag Hv (Aa (pv 0) (Aa (pv 1) Ac))) (pv 2)) Ae)))
   (Ad (Ah 4 (Af Bb (Ag Hv (Aa (pv 0) (Aa (Af Bb (pv 1) Ae) Ac))) (pv 2))))))
  (Ab (Ah 3 (Ag LC (Aa (pxT 0) Ac)))
  (Ad (Al (Af Bb (Af CP (Af Bg (pv 4) (pv 3)) (pxT 0)) (Ag Up (Aa (pxT 0) (Aa (Af Br (pv 4) (pv 3)) Ac)))))))))),?_⟩
 symm;exists CJ (fun z=>k0 (V.int.inj z)) ?_;exists Ar hS at1 ?_;by_cases b0:b=0
 ·refine Gg (by rw[b0];rfl) ?_;symm;exact qN b0 _ (Av.refl _)
 refine CJ (fun z=>b0 (by injection z with z;lia)) ?_;symm;have m0:0<cnt b n.toNat:=rE hb b0;have m1:=Ui b n.toNat;have bn:Bt 18 n:=by
  have:=wY (k:=n.toNat) (by lia)
  rwa [je0 (by lia)] at this
 have fin:∀(x:Int) (H1:Hp) (r p:Nat),x%(cnt b n.toNat:Int)=(p:Int)->b.testBit r=true->cnt b r=p->r<n.toNat/\CC n b (x/(cnt b n.toNat:Int)*n+(r:Int))=x/\On n b (x/(cnt b n.toNat:Int)*n+(r:Int))=true:=fun x H1 r p e1 e2 e3=>by
  have rn:r<n.toNat:=jb7 fun z=>by
   rw[high hb z] at e2;cases e2
  refine⟨rn,?_,?_⟩
  ·rw[ADf h0 rn,e3,<-e1,ub];exact ji5 x _
  ·rw[ADY h0 rn];exact e2
 refine EY (fun Z' H'=>Av H H'/\∃x:Int,An4 (Z'=[some (.ref a),some (.int d),some (.int k),none,some (.int x)]) (Bt 221 x) (0<k->x=CC n b d+k-1) (k<0->x=CC n b (d+1)+k)) ?_ ?_
 ·symm;refine CK (fun c=>?_) (fun c=>?_)
  ·symm;exists⟨a,n,d,b,rfl,hS,h0,h1,hb,bd.mono (by decide),fun H1 s1=>?_⟩;exact⟨s1,_,rfl,(by rw[Int.sub_eq_add_neg];exact(((yU h0 h1 bd).add (bk.mono (by decide))).add (show Bt _ (-1) by unfold Bt;decide)).mono (by decide)),fun _=>rfl,fun z=>by lia⟩
  ·symm;have bd1:Bt 201 (d+1):=bd.add (by unfold Bt;decide);exists⟨a,n,d+1,b,rfl,hS,h0,h1,hb,bd1.mono (by decide),fun H1 s1=>?_⟩;exact⟨s1,_,rfl,((yU h0 h1 bd1).add (bk.mono (by decide))).mono (by decide),fun z=>by lia,fun _=>rfl⟩
 rintro Z' H1 ⟨s1,x,rfl,bx,x1,x2⟩;have hS1:=s1.tup hS;symm;exists Ar hS1 at1 ?_;refine⟨b,n.toNat,rfl,hb,by lia,fun H2 s2=>?_⟩;have hS2:=s2.tup hS1;symm;have mm:(0:Int)<(cnt b n.toNat:Int):=by lia
 exists Ds (Fg mm (by lia)) ?_;refine Ar hS2 at0 ?_;exists Ds ⟨221,18,Mg bx mm,bn,by decide⟩ ?_;exists Ar hS2 at1 ?_;have y0:=zh x (show (cnt b n.toNat:Int)≠0 by lia);have y1:=qk x mm;obtain⟨p,hp⟩:∃p:Nat,x%(cnt b n.toNat:Int)=(p:Int):=⟨(x%(cnt b n.toNat:Int)).toNat,by lia⟩;rw[hp];refine⟨b,p,n.toNat,rfl,hb,by lia,by lia,fun r H3 s3 r1 r2=>?_⟩;obtain⟨rn,f1,f2⟩:=fin x H3 r p hp r1 r2;symm;refine q b0 _ _ ((s1.trans s2).trans s3) ?_ ⟨f2,fun kp=>?_,fun kn=>?_⟩
 ·exact((Mg bx mm).mul bn).add ((wY (show r<=150000 by lia)).mono (by decide))
 ·generalize x/(cnt b n.toNat:Int)*n+(r:Int)=r' at f1 f2 ⊢;have:=x1 kp;refine⟨?_,by lia⟩;refine Int.not_lt.mp fun z=>?_;have e:=Jv (b:=b) h0 r';rw[f1,f2,ya rfl] at e;have:=Jw (b:=b) h0 (show r'+1<=d by lia);lia
 ·generalize x/(cnt b n.toNat:Int)*n+(r:Int)=r' at f1 f2 ⊢;have:=x2 kn;refine⟨?_,by lia⟩;refine Int.not_lt.mp fun z=>?_;have:=Jw (b:=b) h0 (show d+1<=r' by lia);lia
theorem Ew:C0 2 "read_number" ["text"] oA:=by
 refine co' ["text"] Vc fun nd H vs Q E hr h=>?_;obtain⟨i,rfl,hi,q⟩:=h;have N:=IW hi;have tk:=vV hi;refine⟨_,(Ab (Ay (PW.pt (Gv (Gw (GD (BX Uk rfl JR ji3 (Aa (pv 0) (Aa (YB rfl Cr qg (cV _)) Ac))))) (Fp (Gw (GD (Ag Kg (Aa (pv 0) Ac)))))))
  (Ad Bc)
  Ao)
  (Ad (Al (BP Dz rfl Mh Zp (Aa (pv 0) Ac))))),?_⟩
 symm;exists cX (.txt _ tk) ?_;exists En ?_;refine⟨_,rfl,tk,fun b H1 s1 hb=>?_⟩;have eb:b=true:=hb.mpr (by rw[Bk];exact N.1);subst eb;symm;exists En ?_;have r:=PL (z:=sW (nW i)) (by rw[Bk];exact N.1);rw[Bk,N.2] at r;refine⟨_,_,rfl,?_,r,q _ s1⟩;have:=Ft hi;rw[Cp];exact zw this (by decide)
theorem Kf:C0 3 "read_numbers" ["word"] jO:=by
 refine co' ["word"] Sg fun nd H vs Q E hr h=>?_;obtain⟨ns,rfl,hn,nl,sm,q⟩:=h;have sp:=dJ hn sm;have jl:=NT sm;exists⟨_,(Ad (Al (El rfl (GK ["word"] rfl (by ac_rfl) rfl (by ac_rfl) rfl (by ac_rfl) (by ac_rfl)) (Fe (Ge yy ja7 ja8 JK (pv 0) (Aa Aj Ac))) (fun _ _ _ _=>Dq) (fun _ _ _ _=>(Ag Ew (Aa (pv 0) Ac)))))),?_⟩;exists Fb (JF ?_);exists Ii ?_;exists⟨rfl,?_⟩;refine⟨_,44,rfl,by rw[show Str.ofString ","=⟨#[44]⟩ from by ac_rfl],by decide,by rw[Cp];lia,fun l hl=>?_⟩;rw[sp];refine fresh hl fun H1 s1 t1=>?_;refine⟨l,rfl,⟨_,SqL.of t1⟩,?_⟩;refine Gh JS (by rw[js];exact Cw (by lia)) (fun D i ys H2=>H2 D=some (.lst ys)/\Av H1 H2/\ys=(ns.take i).map V.int) (fun D hD=>⟨An,Ax hD _,rfl⟩)
  (fun D i ys H2 _ ⟨h1,h2,h3⟩=>⟨h1,by rw[h3,js];exact jc5 _ _,SqL.of (h2 _ _ t1)⟩) (fun D i x ys H2 hD hx ⟨h1,h2,h3⟩=>?_) (fun D ys H2 hD ⟨h1,h2,h3⟩=>?_)
 ·rw[zo] at hx;obtain⟨n,hn,rfl⟩:=xz.mp hx;exists Gu (FT ?_);refine⟨n,rfl,sm n (zv hn),fun H3 s3=>⟨s3 _ _ h1,An,Ek hD (h2.trans s3),?_⟩⟩;rw[vk,hn,kx,uk,h3];rfl
 ·rw[js,Qr] at h3;subst h3;exact q D H2 (s1.free hD) (s1.trans h2) h1
theorem Nm:C0 1 "place_text" ["number"] oF:=by
 refine co' ["number"] Xh fun nd H vs Q E hr h=>?_;obtain⟨n,rfl,hn,q⟩:=h;have tl:TL 1921 (Ca (n:Int)):=TL.int (yE hn);have dl:=rA hn;have id:=T9 n;have zl:=Eg (Ca (n:Int));exists⟨_,(Ad (Al (Ge yy PySem.F.slot_str_zfill PySem.F.type_str_zfill qF (BP Az rfl Cr qg (Aa (pv 0) Ac)) (Aa Ae Ac)))),?_⟩;exists Ii ?_;refine⟨_,rfl,yE hn,?_⟩;exists⟨rfl,?_⟩;have et:(Str.ofString (toString (n:Int)))=Ca (n:Int):=rfl;rw[et];by_cases s2:(2:Int)<=((Ca (n:Int)).length:Int)
 ·refine⟨_,2,rfl,rfl,by decide,by decide,fun z=>absurd s2 z,?_⟩;rw[ya s2];refine q _ ?_ ⟨tl.asc,by lia⟩;unfold J4;rw[ua (by lia)]
 ·obtain⟨d,hd⟩:∃d,cpl (Ca (n:Int))=[d]:=by
   match hh:cpl (Ca (n:Int)) with
   | []=>exact absurd hh id.2.1
   | [d]=>exact⟨d,rfl⟩
   | a::b::r=>rw[hh] at zl;simp at zl;lia
  have dd:=id.1 d (by rw[hd];exact vb.mpr rfl);have ei:Ca (n:Int)=⟨#[d]⟩:=Hr (by rw[hd];rfl);have zf:=jF d dd.1 dd.2;have zfl:(zfilled ⟨#[d]⟩ 1).length=2:=by rw[<-Eg,zf];rfl
  rw[ei];have s2':¬(2:Int)<=(((⟨#[d]⟩:Str).length:Nat):Int):=by show ¬(2:Int)<=((1:Nat):Int);decide
  refine⟨_,2,rfl,rfl,by decide,by decide,fun _=>by show(zfilled ⟨#[d]⟩ 1).length<=sizeLine;rw[zfl];decide,?_⟩;rw[ua s2'];refine q (zfilled ⟨#[d]⟩ 1) ?_ ⟨Fv.mpr fun c hc=>?_,by rw[zfl];decide⟩
  ·rw[zf];unfold J4;rw[hd];rfl
  ·rw[zf] at hc;rcases qv.mp hc with e | e
   ·rw[e];decide
   ·cases vb.mp e;lia
theorem aj:C0 2 "date_text" ["date"] (uZ K):=by
 refine co' ["date","year","month","day"] Zm fun nd H vs Q E hr h=>?_;obtain⟨p,y,m,r,rfl,hp,hy,hm,hr',q⟩:=h;refine⟨_,(Ab (Ah 1 (pxT 0))
  (Ab (Ah 2 (Ag Nm (Aa (pxT 0) Ac)))
  (Ab (Ah 3 (Ag Nm (Aa (pxT 0) Ac)))
  (Ad (Al (K4 (DY (Jc hr.toN (pv 1)) (DY Aj (DY (Jc hr.toN (pv 2)) (DY Aj (DY (Jc hr.toN (pv 3)) Oz))))))))))),?_⟩
 symm;exists Ar hp (v:=.int y) rfl ?_;exists Ar hp (v:=.int (m:Int)) rfl ?_;exists⟨m,rfl,hm,fun z1 e1 t1=>?_⟩;exists Ar hp (v:=.int (r:Int)) rfl ?_;exists⟨r,rfl,hr',fun z2 e2 t2=>?_⟩;refine Tc 0 (by decide) (by decide) rfl hy fun l1=>Jy _ l1 (by decide) fun l2=>xq _ 61 l2 t1.len (by decide) rfl fun l3=>Jy _ l3 (by decide) fun l4=>xq _ 61 l4 t2.len (by decide) rfl fun l5=>Kw (fits l5 (by decide)) ?_;refine q _ ?_;rw[K8,K8,K8,K8,K8,e1,e2,e47];have e0:cpl Str.empty=[]:=rfl;rw[e0,ji8,ke,ke,ke];rfl
theorem aQ:C0 4 "read_term" ["word"] n8:=by
 refine co' ["word","numbers","sign"] ZX fun nd H vs Q E hr h=>?_;obtain⟨a,b,n,rfl,sm,q⟩:=h;have jl:=NT sm;have tl:(tW (1,a,b,n)).length<=200:=by show(Fj 44 ([a,b,n].map nW)).length+1<=_;simp only[qm,ji7] at jl;lia
 have l0:1<=(sW (tW (1,a,b,n))).length:=by rw[Cp];show 1<=_+1;lia
 have eP:Str.ofString "+"=sW [43]:=by ac_rfl
 have e1:Txt.slice (sW (tW (1,a,b,n))) none (some 1)=Str.ofString "+":=by rw[eP];exact Hr (by rw[jQ,Bk,Bk];rfl)
 have e2:Txt.slice (sW (tW (1,a,b,n))) (some 1) none=sW (Fj 44 ([a,b,n].map nW)):=Hr (by rw[Pu l0,Bk,Bk];rfl);have fit:(sW (tW (1,a,b,n))).length<=sizeLine:=by rw[Cp];exact zw tl (by decide)
 refine⟨_,(Ab (Ay (PW.pt (Ow (Ai GJ (Ck Xa (pv 0) Ed (DN Ae)) Aj (Am _)) (Ky (Ai GJ (Ck Xa (pv 0) Ed (DN Ae)) Aj (Am _)))))
  (Ad Bc)
  Ao)
  (Ab (Ah 1 (Ag Kf (Aa (Ck Xa (pv 0) (DN Ae) Ed) Ac)))
  (Ab (Ay (Ai GJ (BX Bo rfl Eh xo (Aa (pv 1) Ac)) Ae (Am _))
   (Ad Bc)
   Ao)
  (Ab (Ah 2 (Ea (Ai Bl (Dy dj (pv 0) Ae) Aj (Am _)) Ae (GZ Ei Ae)))
  (Ad (Al (BW (Aa (pv 2) (Aa (pxL 1) (Aa (pxL 1) (Aa (pxL 1) Ac))))))))))),?_⟩
 symm;refine⟨_,rfl,fit,?_⟩;rw[e1];symm;refine Gf rfl ?_;exists En ?_;refine⟨_,rfl,fit,?_⟩;rw[e2];refine Gb ?_;refine⟨[a,b,n],rfl,(fun z=>nomatch z),(by show 3<=3;decide),sm,fun l H1 hl u1 t1=>?_⟩;symm;exists⟨l,_,rfl,.inl (SqL.of t1),?_⟩;exists Gf rfl ?_
 try refine Ou ?_
 symm;refine⟨_,0,43,rfl,rfl,fit,(by show atI (cpl (sW (tW (1,a,b,n)))) 0=some 43;rw[Bk];exact Dm (j:=0) rfl),?_⟩;symm;refine Gg (by rw[eP];rfl) ?_;symm;exists BL (SqL.of t1) DQ ?_;exists BL (SqL.of t1) JB ?_;exists BL (SqL.of t1) N5 ?_;refine⟨(by show 4<=sizeLine;decide),fun p hp=>?_⟩;exact q p _ (u1.trans (Ax hp _)) An
theorem Jj:C0 5 "read_terms" ["words"] jN:=by
 refine co' ["words"] Xg fun nd H vs Q E hr h=>?_;obtain⟨l,a,b,n,rfl,hl,sm,q⟩:=h;exists⟨_,(Ad (Al (El rfl (GK ["words"] rfl (by ac_rfl) rfl (by ac_rfl) rfl (by ac_rfl) (by ac_rfl)) (Fe (pv 0)) (fun _ _ _ _=>Dq) (fun _ _ _ _=>(Ag aQ (Aa (pv 0) Ac)))))),?_⟩;exists Fb (JF ?_);refine⟨l,rfl,⟨_,SqL.of hl⟩,?_⟩;refine Gh JS (Cw (by show 1<=1000;decide)) (fun D i ys H2=>H2 D=some (.lst ys)/\Av H H2/\ys.length<=i/\(i=1->∃p,ys=[.ref p]/\H2 p=some (.tup (tmV (1,a,b,n))))) (fun D hD=>⟨An,Ax hD _,qq _,fun z=>nomatch z⟩)
  (fun D i ys H2 _ ⟨h1,h2,h3,_⟩=>⟨h1,h3,SqL.of (h2 _ _ hl)⟩) (fun D i x ys H2 hD hx ⟨h1,h2,h3,_⟩=>?_) (fun D ys H2 hD ⟨h1,h2,h3,h4⟩=>?_)
 ·obtain rfl:i=0:=by
   have:=(zn.mp hx).1;simpa [wvS] using this
  obtain rfl:V.str (sW (tW (1,a,b,n)))=x:=by simpa [wvS] using hx
  obtain rfl:ys=[]:=jc2.mp (Nat.le_zero.mp h3);exists Gu (FT ?_);refine⟨a,b,n,rfl,sm,fun p H3 s3 hp=>⟨s3 _ _ h1,An,Ek hD (h2.trans s3),qq _,fun _=>⟨p,rfl,?_⟩⟩⟩;rw[BK fun z=>by rw[z,s3 _ _ h1] at hp;cases hp];exact hp
 ·obtain⟨p,rfl,hp⟩:=h4 rfl;exact q D p H2 h2 h1 hp
theorem fG:C0 9 "read_sun" ["words"] (ZD K Bd BR Ak "sun"):=by
 refine co' ["words","start","lengths","leap"] cF fun nd H vs Q E hr h=>?_;obtain⟨l,g,rfl,hl,hg,o,q⟩:=h;have gd:=o.good;have bs:=o.bs;cases o with
 | moon=>exact absurd hg (by show ¬"moon"="sun";decide)
 | sun hs l0 l1 hm p0 p1 o=>
 rename_i s' lp a b n ls
 have ms:∀n∈ls,Sm n:=fun n hn=>sm1 (by have:=hm n hn;lia) (by have:=hm n hn;lia);refine⟨_,(Ab (Ay (Ai FZ (BX Bo rfl Eh xo (Aa (pv 0) Ac)) Ae (Am _))
  (Ad Bc)
  Ao)
  (Ab (Ah 1 (Ag Ew (Aa (pxL 0) Ac)))
  (Ab (Ah 2 (Ag Kf (Aa (pxL 0) Ac)))
  (Ab (Ay (Ai Bl (BX Bo rfl Eh xo (Aa (pv 0) Ac)) Ae (Am _))
   (Ad (Al (AAX Nt (hr.mono (by decide)) rfl (Aa (pv 1) (Aa (pv 2) Ac)))))
   Ao)
  (Ab (Ay (PW.pt (Gv (Ai GJ (pxL 0) Aj (Am _)) (Fp (Ai FZ (BX Bo rfl Eh xo (Aa (pv 0) Ac)) Ae (Am _)))))
   (Ad Bc)
   Ao)
  (Ab (Ah 3 (Ag Ew (Aa (pxL 0) Ac)))
  (Ad (Al (Gd Uz (Aa (pv 1) (Aa (pv 2) (Aa (pv 3) (Aa (Ag Jj (Aa (Ck FJ (pv 0) (DN Ae) Ed) Ac)) Ac))))))))))))),?_⟩
 symm;exists⟨l,_,rfl,.inl (SqL.of hl),?_⟩;refine CJ (by show ¬(5:Int)<2;decide) ?_;symm;refine BL (SqL.of hl) DQ ?_;refine Gb ?_;refine⟨s',rfl,hs,fun H1 s1=>?_⟩;have h1:=s1 _ _ hl;symm;refine BL (SqL.of h1) JB ?_;refine Gb ?_;refine⟨ls,rfl,(fun z=>by rw[z] at l0;exact absurd l0 (by decide)),l1,ms,fun l2 H2 hl2 s2 t2=>?_⟩;have h2:=s2 _ _ h1;symm;exists⟨l,_,rfl,.inl (SqL.of h2),?_⟩;exists CJ (fun z=>nomatch V.int.inj z) ?_;exists BL (SqL.of h2) N5 ?_;exists Gf (Gy _) ?_;exists⟨l,_,rfl,.inl (SqL.of h2),?_⟩;refine CJ (by show ¬(5:Int)<5;decide) ?_;symm;refine BL (SqL.of h2) Yn ?_;refine Gb ?_;refine⟨lp,rfl,sm1 (by lia) (by lia),fun H3 s3=>?_⟩;have h3:=s3 _ _ h2;symm;refine Ga (SqL.of h3) fun u hu=>?_;rw[show Hu (wvS (wC (.sun s' ls lp [(1,a,b,n)]))) (some 4) none=wvS [tW (1,a,b,n)] from G6 _ 4];refine fresh hu fun H4 s4 t4=>?_;refine Gb ?_;exists⟨u,a,b,n,rfl,t4,o.sm,fun l5 p H5 s5 t5 hp=>?_⟩;refine fun x dx hx hdx ne=>qU hx hdx ne (s5 _ _ (s4 _ _ (s3 _ _ t2))) (.cons hp .nil) (.inr ⟨l5,rfl,t5⟩) gd bs fun H6 s6 S6=>⟨rfl,?_⟩;exact q x _ ((s1.trans s2).trans ((s3.trans s4).trans (s5.trans s6))) S6
theorem aU:C0 7 "read_moon" ["words"] (ZD K Bd BR Ak "moon"):=by
 refine co' ["words","place","days","many","start","days_base","days_terms","many_base","many_terms"] Za fun nd H vs Q E hr h=>?_;obtain⟨l,g,rfl,hl,hg,o,q⟩:=h;have gd:=o.good;have bs:=o.bs;cases o with
 | sun=>exact absurd hg (by show ¬"sun"="moon";decide)
 | moon hs d0 d1 o n2 m0 m1 o' y2=>
 rename_i s' bd a b n bm c e y
 have sbd:Sm bd:=sm1 (by lia) (by lia);have sbm:Sm bm:=sm1 (by lia) (by lia);have es:Str.ofString "/"=sW (sg "/"):=by ac_rfl
 have nn:∀{i:Int},Sm i->sW (nW i)≠Str.ofString "/":=fun{i} hi z=>by
  rw[es] at z;have z:=xk cpl z;rw[Bk,Bk] at z;have:=G3 hi 47 (by rw[z];ac_rfl);lia
 have nt:∀{t:Tm},sW (tW t)≠Str.ofString "/":=fun{t} z=>by
  rw[es] at z;have z:=xk cpl z;rw[Bk,Bk,show sg "/"=[47] by ac_rfl] at z;exact absurd (List.cons.inj z).1 (by decide)
 have eW:wvS (wC (.moon s' bd [(1,a,b,n)] bm [(1,c,e,y)]))=([sW (nW s'),sW (nW bd),sW (tW (1,a,b,n)),Str.ofString "/",sW (nW bm),sW (tW (1,c,e,y))]:List Str).map V.str:=by
  rw[es];rfl
 rw[eW] at hl;refine⟨_,(Ab (Ay (Ai GJ (Ge Zs PySem.F.slot_list_count PySem.F.type_list_count j4 (pv 0) (Aa Aj Ac)) Ae (Am _))
  (Ad Bc)
  Ao)
  (Ab (Ah 1 (Ge Zs PySem.F.slot_list_index PySem.F.type_list_index jz (pv 0) (Aa Aj Ac)))
  (Ab (Ah 2 (Ck FJ (pv 0) (DN Ae) (DN (pv 1))))
  (Ab (Ah 3 (Ck FJ (pv 0) (DN (Af Bb (pv 1) Ae)) Ed))
  (Ab (Ay (PW.pt (Gv (Ai FZ (BX Bo rfl Eh xo (Aa (pv 2) Ac)) Ae (Am _)) (Fp (Ai FZ (BX Bo rfl Eh xo (Aa (pv 3) Ac)) Ae (Am _)))))
   (Ad Bc)
   Ao)
  (Ab (Ah 4 (Ag Ew (Aa (pxL 0) Ac)))
  (Ab (Ah 5 (Ag Ew (Aa (pxL 2) Ac)))
  (Ab (Ah 6 (Ag Jj (Aa (Ck FJ (pv 2) (DN Ae) Ed) Ac)))
  (Ab (Ah 7 (Ag Ew (Aa (pxL 3) Ac)))
  (Ab (Ah 8 (Ag Jj (Aa (Ck FJ (pv 3) (DN Ae) Ed) Ac)))
  (Ad (Al (Gd RD (Aa (pv 4) (Aa (Gd Gq (Aa (pv 5) (Aa (pv 6) Ac))) (Aa (Gd Gq (Aa (pv 7) (Aa (pv 8) Ac))) Ac)))))))))))))))),?_⟩
 symm;exists Ii ?_;exists⟨.inl ⟨rfl,_,SqL.of hl⟩,?_⟩;refine⟨l,_,_,rfl,rfl,SqL.of hl,?_⟩;rw[jf5 (nn hs),jf5 (nn sbd),jf5 nt,List.count_cons_self,jf5 (nn sbm),jf5 nt,List.count_nil];symm;exists Gf rfl ?_;exists Ii ?_;exists⟨.inl ⟨rfl,_,SqL.of hl⟩,?_⟩;refine⟨l,_,Str.ofString "/",3,rfl,rfl,SqL.of hl,rfl,?_,?_⟩
 ·intro m hm z
  match m,hm,z with
  | 0,_,z=>exact nn hs (yv z)
  | 1,_,z=>exact nn sbd (yv z)
  | 2,_,z=>exact nt (yv z)
 symm;refine Ga (SqL.of hl) fun u1 hu1=>?_;refine fresh hu1 fun H1 s1 t1=>?_;have t1:H1 u1=some (.lst (wvS [nW bd,tW (1,a,b,n)])):=t1;have l1:=s1 _ _ hl;symm;refine Ga (SqL.of l1) fun u2 hu2=>?_;refine fresh hu2 fun H2 s2 t2=>?_;have t2:H2 u2=some (.lst (wvS [nW bm,tW (1,c,e,y)])):=t2;have l2:=s2 _ _ l1;have k2:=s2 _ _ t1;symm;exists⟨u1,_,rfl,.inl (SqL.of k2),?_⟩;refine CJ (by show ¬(2:Int)<1;decide) ?_;symm;exists⟨u2,_,rfl,.inl (SqL.of t2),?_⟩;refine CJ (by show ¬(2:Int)<1;decide) ?_;symm;refine BL (SqL.of l2) DQ ?_;refine Gb ?_;refine⟨s',rfl,hs,fun H3 s3=>?_⟩;have k3:=s3 _ _ k2;have t3:=s3 _ _ t2;symm;refine BL (SqL.of k3) DQ ?_;refine Gb ?_;refine⟨bd,rfl,sbd,fun H4 s4=>?_⟩;have k4:=s4 _ _ k3;have t4:=s4 _ _ t3;symm;refine Ga (SqL.of k4) fun u5 hu5=>?_;rw[show Hu (wvS [nW bd,tW (1,a,b,n)]) (some 1) none=wvS [tW (1,a,b,n)] from G6 _ 1];refine fresh hu5 fun H5 s5 t5=>?_;refine Gb ?_;refine⟨u5,a,b,n,rfl,t5,o.sm,fun ld pd H6 s6 D6 P6=>?_⟩;have t6:=s6 _ _ (s5 _ _ t4);symm;refine BL (SqL.of t6) DQ ?_;refine Gb ?_;refine⟨bm,rfl,sbm,fun H7 s7=>?_⟩;have t7:=s7 _ _ t6;symm;refine Ga (SqL.of t7) fun u8 hu8=>?_;rw[show Hu (wvS [nW bm,tW (1,c,e,y)]) (some 1) none=wvS [tW (1,c,e,y)] from G6 _ 1];refine fresh hu8 fun H8 s8 t8=>?_;refine Gb ?_;refine⟨u8,c,e,y,rfl,t8,o'.sm,fun lm pm H9 s9 M9 Q9=>?_⟩;have s69:=s7.trans (s8.trans s9);symm;refine fun y1 dy hy hdy ne=>YX hy hdy ne (.cons (s69 _ _ P6) .nil) (.inr ⟨ld,rfl,s69 _ _ D6⟩) o.tm (by show 1<=6;decide) (qZ gd.fd gd.gd) (Yq o.tm gd.fd (by rw[cg o.n0];have:=o.n0;lia)) fun H10 s10 N10=>⟨rfl,?_⟩;clear hy hdy ne;symm;refine fun y2 dy hy hdy ne=>YX hy hdy ne (.cons (s10 _ _ Q9) .nil) (.inr ⟨lm,rfl,s10 _ _ M9⟩) o'.tm (by show 1<=6;decide) (qZ gd.fm (by lia)) (Yq o'.tm gd.fm (by rw[cg o'.n0];have:=o'.n0;lia)) fun H11 s11 O11=>⟨rfl,?_⟩;have N11:=N10.same s11;clear hy hdy ne;symm;refine fun x dx hx hdx ne=>kW hx hdx ne N11 O11 gd bs fun H12 s12 S12=>⟨rfl,?_⟩;exact q x _ (((s1.trans s2).trans (s3.trans s4)).trans (((s5.trans s6).trans s69).trans ((s10.trans s11).trans s12))) S12
theorem Q0:C0 10 "read_calendar" ["text"] (oE K Bd BR Ak):=by
 refine co' ["text","words"] Ql fun nd H vs Q E hr h=>?_;obtain⟨g,rfl,o,q⟩:=h;obtain⟨sp,tl,tk⟩:=o.tx;refine⟨_,(Ab (Ay (Gw (GD (Ag Lq (Aa (pv 0) Ac))))
  (Ad Bc)
  Ao)
  (Ab (Ah 1 (Ge yy ja7 ja8 JK (pv 0) (Aa Aj Ac)))
  (Ab (Ay (Ai Bl (pxL 1) Aj (Am _))
   (Ad (Al (Ag fG (Aa (Ck FJ (pv 1) (DN Ae) Ed) Ac))))
   Ao)
  (Ab (Ay (Ai Bl (pxL 1) Aj (Am _))
   (Ad (Al (Ag aU (Aa (Ck FJ (pv 1) (DN Ae) Ed) Ac))))
   Ao)
  (Ad Bc))))),?_⟩
 symm;refine⟨_,rfl,tk,by rw[Cp];lia,?_⟩;symm;exists En ?_;exists Ii ?_;exists⟨rfl,?_⟩;refine⟨_,32,rfl,by rw[show Str.ofString " "=⟨#[32]⟩ from by ac_rfl],by decide,tk.len,fun l hl=>?_⟩;refine fresh hl fun H1 s1 t1=>?_;have t1:H1 l=some (.lst (wvS (wdC g))):=by rw[t1,bf,Bk,sp,kq];rfl
 symm;exists BL (SqL.of t1) DQ ?_;have ec:Hu (wvS (wdC g)) (some 1) none=wvS (wC g):=G6 _ 1;cases hg:yI g with
 | true=>
  have hh:hC g="sun":=by cases g with
   | sun=>rfl
   | moon=>cases hg
  rw[hh];exists Gg (Gy _) ?_;refine Ga (SqL.of t1) fun u hu=>?_;rw[ec];refine Gb ?_;exact⟨u,g,rfl,An,hh,o,fun x H3 s3 C=>q x _ ((s1.trans (Ax hu _)).trans s3) C⟩
 | false=>
  have hh:hC g="moon":=by cases g with
   | sun=>cases hg
   | moon=>rfl
  rw[hh];exists CJ (Pk (by ac_rfl)) ?_;exists BL (SqL.of t1) DQ ?_;rw[hh];exists Gg (Gy _) ?_;refine Ga (SqL.of t1) fun u hu=>?_;rw[ec];refine Gb ?_;exact⟨u,g,rfl,An,hh,o,fun x H3 s3 C=>q x _ ((s1.trans (Ax hu _)).trans s3) C⟩
theorem Uo:C0 1 "words_of_row" ["row"] yz:=by
 refine co' ["row","words","form","wanted"] Sd fun nd H vs Q E hr h=>?_;obtain⟨R,rfl,ok,q⟩:=h;have tok:=R.tok ok;obtain⟨rs,eh⟩:=R.head;have e32:Str.ofString " "=⟨#[32]⟩:=by ac_rfl
 refine⟨_,(Ab (Ay (Gw (GD (BX Uk rfl JR ji3 (Aa (pv 0) (Aa (YB rfl Cr qg (cV _)) Ac)))))
  (Ad Bc)
  Ao)
  (Ab (Ah 1 (Ge yy ja7 ja8 JK (pv 0) (Aa Aj Ac)))
  (Ab (Ay (Xz (dF (pxL 1) (By rfl Gk.m (HD _))))
   (Ad Bc)
   Ao)
  (Ab (Ah 2 (Ti (By rfl Gk.m (HD _)) (pxL 1) (fun _ _=>rfl)))
  (Ab (Ej (Ay (Ai Bl (Dy MT (pv 2) (GZ Ei Ae) (fun _ _=>rfl)) Aj (Am _))
   (Ad (Ah 1 (Ge yy ja7 ja8 ju (pv 0) (Aa Aj (Aa (BX Bo rfl Eh xo (Aa (pv 2) Ac)) Ac)))))
   Ao))
  (Ab (Ah 3 (Af Bb (BX Bo rfl Eh xo (Aa (pv 2) Ac)) Ae))
  (Ab (Ay (PW.pt (Gv (Ai FZ (BX Bo rfl Eh xo (Aa (pv 1) Ac)) (pv 3) (Am _)) (Fp (PW.pt (Ow (Ai Fq (BX Bo rfl Eh xo (Aa (pv 1) Ac)) (pv 3) (Am _)) (Ky (Ai GJ (pxL 1) Aj (Am _))))))))
   (Ad Bc)
   Ao)
  (Ad (Al (pv 1)))))))))),?_⟩
 symm;exists cX (.txt _ tok) ?_;exists En ?_;exists Ii ?_;exists⟨rfl,?_⟩;refine⟨_,32,rfl,by rw[e32],by decide,tok.len,fun l hl=>?_⟩;refine fresh hl fun H1 s1 t1=>?_;rw[bf,Bk,eh,zi,zi,Ip] at t1;symm;unfold f9;symm;exists BL (SqL.of t1) DQ ?_;refine⟨_,_,.inr R.hd,rfl,Gk.d,rfl,?_⟩;rw[UG];exists⟨_,rfl,En ?_⟩;unfold bY;symm;exists BL (SqL.of t1) DQ ?_;exists⟨_,_,.inr R.hd,_,rfl,Gk.d,rfl,UG _ R,?_⟩;refine EY (fun Z' H'=>Av H H'/\∃l',An3 (H l'=none) (Z'=[some (.str (sW R.T)),some (.ref l'),some (.ref (Z7 R.fi)),none]) (H' l'=some (.lst (.str R.hd::wkV R.ws)))) ?_ ?_
 ·symm;rcases R.kind ok with ⟨nm,w,hn,ew⟩ | ⟨e1,z,hz,e2⟩
  ·have fs:=Gk.s R;rw[ew] at fs;exists Ar (fs _) (show _=some (V.str "TEXT") from rfl) ?_;exists Gg rfl ?_;exists Ii ?_;exists⟨rfl,?_⟩;exists⟨_,_,rfl,.inr (fs _),?_⟩;refine⟨_,32,cpl R.hd,nm,w,rfl,by rw[e32];rfl,by decide,?_,fun y=>((Yb R).1 32 y).2 rfl,fun y=>by have:=(Ih.wc hn).2 32 y;unfold wch at this;lia,tok.len,fun l2 h2=>fresh h2 fun H2 s2 t2=>?_⟩
   ·show cpl (sW R.T)=_;rw[Bk];unfold Row.T;rw[ew];rfl
   symm;refine⟨s1.trans s2,l2,s1.free h2,rfl,?_⟩;rw[t2,ew];exact xk (fun z=>some (HO.lst (V.str z::_))) (Ip R.hd)
  ·exists Ar (Gk.s R _) e2 ?_;exists CJ (fun y=>hz (V.str.inj y)) ?_;refine⟨s1,l,hl,rfl,?_⟩;rw[eh] at e1;rw[t1,(List.cons.inj e1).2];unfold wkV;rw[kq,kq];rfl
 rintro Z' H2 ⟨s2,l',hl',rfl,t2⟩;have ln:((V.str R.hd::wkV R.ws).length:Int)=((R.ws.map fun w=>V.str w.k).length:Int)+1:=by unfold wkV;rw[qm,js,js];lia
 symm;exists⟨_,_,rfl,.inr (Gk.s R _),?_⟩;exists⟨_,_,rfl,.inl (SqL.of t2),?_⟩;rw[ln];exists CJ (by lia) ?_;exists⟨_,_,rfl,.inl (SqL.of t2),?_⟩;rw[ln];refine CJ (by lia) ?_;exists En ?_;exact q l' H2 hl' s2 t2
theorem Wo:C0 1 "kept_by" ["kept","name"] zO:=by
 refine co' ["kept","name"] jc fun nd H vs Q E hr h=>?_;obtain⟨a,kv,nm,v,rfl,ha,hv,q⟩:=h;have dg:V0 H a (.str (sW nm)) (some v):=by rw[<-hv];exact V0.k (k:=.inr (sW nm)) ha
 refine⟨_,(Ab (Ay (Xz (WL (iJ hr) (pv 1) (pv 0)))
  (Ad Bc)
  Ao)
  (Ad (Al (gj (iJ hr) (pv 0) (pv 1) (fun _ _=>rfl))))),?_⟩
 symm;unfold W7;symm;refine⟨a,_,rfl,dg,?_⟩;refine⟨_,rfl,?_⟩;exists En ?_;unfold nG;symm;exact⟨a,v,rfl,dg,q⟩
theorem aV:C0 1 "read_date" ["text"] ACJ:=co (st:=Zb) (by walk_at"g") (by walk_at"b") fun _=>⟨fun _ _ _ _ h=>h.elim,fun _ _ _ _ _ _ _ _ _ _ _ _ _ h=>h.elim⟩
theorem aa:C0 3 "looked_up" ["desk","kind","word"] (zM DX):=by
 refine co' ["desk","kind","word"] Zg fun nd H vs Q E hr h=>?_;obtain⟨x,kv,k,rfl,ok,⟨dx,a,r,hx,hr',ha'⟩,hn,hc',q⟩:=h;have ne:∀{a b:String},decide (Str.ofString a=Str.ofString b)=false->V.str (Str.ofString a)≠V.str (Str.ofString b):=fun h z=>of_decide_eq_false h (V.str.inj z);refine⟨_,(Ab (Ay (PW.pt (Ow (Ai Bl (pv 1) Aj (Am _)) (Ky (Gw (GD (Ag Wq (Aa (pv 2) Ac)))))))
  (Ad Bc)
  Ao)
  (Ab (Ay (Ai Bl (pv 1) Aj (Am _))
   (Ad (Al (Ag Wo (Aa (Bf (pv 0) (by rfl)) (Aa (pv 2) Ac)))))
   Ao)
  (Ab (Ay (Ai Bl (pv 1) Aj (Am _))
   (Ad (Al (Ag Wo (Aa (Bf (pv 0) (by rfl)) (Aa (pv 2) Ac)))))
   Ao)
  (Ab (Ay (Ai Bl (pv 1) Aj (Am _))
   (Ad (Al (Ag Ew (Aa (pv 2) Ac))))
   Ao)
  (Ab (Ay (Ai Bl (pv 1) Aj (Am _))
   (Ad (Al (Ag aV (Aa (pv 2) Ac))))
   Ao)
  (Ad (Al (pv 2)))))))),?_⟩
 symm;cases k with
 | nm n=>
  exists Gg rfl ?_;refine⟨_,rfl,⟨Fv.mpr (by rw[Bk];exact(Wk.box ok).1),by rw[Cp];have:=(Wk.box ok).2.1;lia⟩,fun v H1 s1 hv=>?_⟩;rw[hv.mpr (by rw[Bk];exact ok)];exists⟨_,rfl,En ?_⟩;exists CJ (ne (by ac_rfl)) ?_;exists CJ (ne (by ac_rfl)) ?_;exists CJ (ne (by ac_rfl)) ?_;exists CJ (ne (by ac_rfl)) ?_;exact q _ _ s1 rfl
 | tx d=>
  refine CJ (ne (by ac_rfl)) ?_;exists En ?_;exists CJ (ne (by ac_rfl)) ?_;exists CJ (ne (by ac_rfl)) ?_;exists CJ (ne (by ac_rfl)) ?_;exists CJ (ne (by ac_rfl)) ?_;exact q _ _ (Av.refl _) rfl
 | ru n=>
  obtain⟨v,hv⟩:=hn n rfl;refine CJ (ne (by ac_rfl)) ?_;exists En ?_;exists CJ (ne (by ac_rfl)) ?_;exists Gg rfl ?_;exists⟨x,DX,dx,_,_,rfl,hx,DR,G5,rfl,?_⟩;exact⟨r,kv.2,n,v,rfl,hr',hv,q v _ (Av.refl _) hv⟩
 | ca n=>
  obtain⟨v,hv⟩:=hc' n rfl;refine CJ (ne (by ac_rfl)) ?_;exists En ?_;exists Gg rfl ?_;exists⟨x,DX,dx,_,_,rfl,hx,DR,Eo,rfl,?_⟩;exact⟨a,kv.1,n,v,rfl,ha',hv,q v _ (Av.refl _) hv⟩
 | nu i=>
  refine CJ (ne (by ac_rfl)) ?_;exists En ?_;exists CJ (ne (by ac_rfl)) ?_;exists CJ (ne (by ac_rfl)) ?_;exists Gg rfl ?_;exact⟨i,rfl,ok,fun H1 s1=>q _ _ s1 rfl⟩
theorem Vt:C0 2 "named_rules" ["desk","names"] (uL DX):=by
 refine co' ["desk","names"] Vd fun nd H vs Q E hr h=>?_;obtain⟨x,l,rfl,hl,q⟩:=h;exists⟨_,(Ad (Al (El rfl (Dv ["desk","names"] ["desk","names"] rfl rfl (by with_unfolding_all rfl) (by ac_rfl) rfl (by ac_rfl) rfl (by ac_rfl) (by walk_at"fm") (by with_unfolding_all rfl) (by with_unfolding_all rfl)) (Fe (pv 1)) (fun _ _ _ _=>Dq) (fun _ _ _ _=>ACq)))),?_⟩;exists Fb (JF ?_);refine⟨l,rfl,⟨_,SqL.of hl⟩,?_⟩;refine Ni (JS (xs:=[])) (by show 0<sizeLine;decide) ?_ (fun _=>true) (fun _=>V.non) (fun x hx=>nomatch hx) (fun x hx=>nomatch hx) (fun D hD=>?_)
 ·exact fun D ys hD=>SqL.of (by rw[BK (Bp hl hD)];exact hl)
 ·refine fresh hD fun H1 s1 t1=>?_;exact q D H1 hD s1 t1
theorem lX:C0 20 "tell_on" ["given"] (ABy K Ba CL):=by
 refine co' ["given"] jW fun nd H vs Q E hr h=>?_;obtain⟨l,y,n,d,b,rfl,hl,R,q⟩:=h;exists⟨_,(Ad (Al (Ea (GD (Mw rJ (hr.mono (by decide)) (pxL 0) (Aa (pxL 0) Ac))) Aj Aj))),?_⟩
 try refine Ou ?_
 symm;exists BL (SqL.of hl) DQ ?_;obtain⟨C,dr,fs,m,hr,_,_,l3⟩:=R.mt;exists⟨y,C,dr,fs,_,m _,rfl,hr,l3,?_⟩;exists BL (SqL.of hl) JB ?_;exists⟨je1,y,n,d,b,rfl,R,?_⟩;cases hb:On n b d with
 | true=>
  rw[hb] at q;exists FT ?_;exact q
 | false=>
  rw[hb] at q;exists En ?_;exact q
theorem Ib:C0 1 "day_or_never" ["day"] uK:=by
 refine co' ["day"] Sw (len:=by intro _ _ _ _ h;obtain⟨r,rfl,_⟩:=h;cases r<;>rfl) fun nd H vs Q E hr h=>?_;obtain⟨r,rfl,o,q⟩:=h;exists⟨_,(Ad (Al (Ea (Ai IK (pv 0) GF (Am _)) Aj (BP Az rfl Cr qg (Aa (pv 0) Ac))))),?_⟩
 try refine Ou ?_
 symm;exists⟨rfl,?_⟩;cases r with
 | none=>
  exists FT ?_;exact q
 | some i=>
  exists En ?_;refine⟨_,rfl,o i rfl,?_⟩;have q:Q (.str (sW (nW i))) H:=q
  rwa [show sW (nW i)=Ca i from Ip _] at q
theorem aM:C0 20 "tell_next" ["given"] (nj K Ba CL mD):=by
 refine co' ["given"] ZM fun nd H vs Q E hr h=>?_;obtain⟨l,y,n,d,b,rfl,hl,R,sd,g⟩:=h;have n1:=R.n1;exists⟨_,(Ad (Al (Ag Ib (Aa (Ag fH (Aa (Bu Bq (pxL 0)) (Aa (pxL 0) Ac))) Ac)))),?_⟩;exists BL (SqL.of hl) DQ ?_;obtain⟨C,dr,fs,m,hr,l1,_⟩:=R.mt;exists⟨y,C,dr,fs,_,m _,rfl,hr,l1,?_⟩;exists⟨je1,y,n,b,rfl,R,fun p hp=>?_⟩;exists BL (SqL.of hl) JB ?_;refine⟨p,n,d,b,rfl,SqT.of hp,R.n0,R.n1,R.lt,SJ sd,fun no H1 s1=>?_,fun r H1 s1 r1 r2 r3=>?_⟩
 ·symm;exact⟨none,rfl,(fun _ z=>nomatch z),g.1 no H1 s1⟩
 ·have N:mD (On n b) d r:=⟨r1,r2,r3⟩;have:=O7 R.n0 N;symm;exact⟨some r,rfl,fun _ z=>by cases z;exact iG sd (by lia) (by lia),g.2 r H1 s1 N⟩
theorem aN:C0 20 "tell_last" ["given"] (nj K Ba CL mG):=by
 refine co' ["given"] ZP fun nd H vs Q E hr h=>?_;obtain⟨l,y,n,d,b,rfl,hl,R,sd,g⟩:=h;have n1:=R.n1;exists⟨_,(Ad (Al (Ag Ib (Aa (Ag fJ (Aa (Bu Bq (pxL 0)) (Aa (pxL 0) Ac))) Ac)))),?_⟩;exists BL (SqL.of hl) DQ ?_;obtain⟨C,dr,fs,m,hr,l1,_⟩:=R.mt;exists⟨y,C,dr,fs,_,m _,rfl,hr,l1,?_⟩;exists⟨je1,y,n,b,rfl,R,fun p hp=>?_⟩;exists BL (SqL.of hl) JB ?_;refine⟨p,n,d,b,rfl,SqT.of hp,R.n0,R.n1,R.lt,SJ sd,fun no H1 s1=>?_,fun r H1 s1 r1 r2 r3=>?_⟩
 ·symm;exact⟨none,rfl,(fun _ z=>nomatch z),g.1 no H1 s1⟩
 ·have N:mG (On n b) d r:=⟨r1,r2,r3⟩;have:=O8 R.n0 N;symm;exact⟨some r,rfl,fun _ z=>by cases z;exact iG sd (by lia) (by lia),g.2 r H1 s1 N⟩
theorem Yj:C0 20 "tell_count" ["given"] (yu K Ba CL):=by
 refine co' ["given"] Xe fun nd H vs Q E hr h=>?_;obtain⟨l,y,n,d,e,b,rfl,hl,R,sd,se,q⟩:=h;exists⟨_,(Ad (Al (BP Az rfl Cr qg (Aa (Ag Ur (Aa (Bu Bq (pxL 0)) (Aa (pxL 0) (Aa (pxL 0) Ac)))) Ac)))),?_⟩;exists BL (SqL.of hl) DQ ?_;obtain⟨C,dr,fs,m,hr,l1,_⟩:=R.mt;exists⟨y,C,dr,fs,_,m _,rfl,hr,l1,?_⟩;exists⟨je1,y,n,b,rfl,R,fun p hp=>?_⟩;exists BL (SqL.of hl) JB ?_;exists BL (SqL.of hl) N5 ?_;exists⟨p,n,d,e,b,rfl,SqT.of hp,R.n0,R.n1,R.lt,(SJ sd).mono (by decide),(SJ se).mono (by decide),fun H1 s1=>?_⟩;refine⟨_,rfl,ABL R.n0 sd se,?_⟩;have:=q H1 s1
 rwa [show sW (nW (CC n b e-CC n b d))=Ca (CC n b e-CC n b d) from Ip _] at this
theorem fD:C0 20 "tell_nth" ["given"] (yt K Ba CL):=by
 refine co' ["given"] cC fun nd H vs Q E hr h=>?_;obtain⟨l,y,n,d,k,b,rfl,hl,R,sd,sk,k0,g⟩:=h;exists⟨_,(Ad (Al (Ag Ib (Aa (Ag lY (Aa (Bu Bq (pxL 0)) (Aa (pxL 0) (Aa (pxL 0) Ac)))) Ac)))),?_⟩;exists BL (SqL.of hl) DQ ?_;obtain⟨C,dr,fs,m,hr,l1,_⟩:=R.mt;exists⟨y,C,dr,fs,_,m _,rfl,hr,l1,?_⟩;exists⟨je1,y,n,b,rfl,R,fun p hp=>?_⟩;exists BL (SqL.of hl) JB ?_;exists BL (SqL.of hl) N5 ?_;refine⟨p,n,d,k,b,rfl,SqT.of hp,R.n0,R.n1,R.lt,SJ sd,SJ sk,k0,fun b0 H1 s1=>?_,fun _ r H1 s1 br N=>?_⟩
 ·symm;exact⟨none,rfl,(fun _ z=>nomatch z),g.1 (fun e=>by rw[b0];exact jf1 _) H1 s1⟩
 ·symm;exact⟨some r,rfl,fun _ z=>by cases z;exact qI (br.mono (by decide)),g.2 r H1 s1 N⟩
theorem aO:C0 20 "tell_date" ["given"] (uF K Bd BR Ak):=by
 refine co' ["given"] ZQ fun nd H vs Q E hr h=>?_;obtain⟨l,z,d,g,rfl,hl,S,o,sd,q⟩:=h;exists⟨_,(Ad (Al (Ag aj (Aa (Mw (k:=5) (Hn.cons Bw Vx (by decide) (Hn.cons Bs U5 (by decide) Hn.nil)) (hr.mono (by decide)) (pxL 0) (Aa (pxL 0) Ac)) Ac)))),?_⟩;exists BL (SqL.of hl) DQ ?_;obtain⟨C,dx,fs,sp,hm,hx,l1,go⟩:=S.dt;exists⟨z,C,dx,fs,sp,hm,rfl,hx,l1,?_⟩;exists BL (SqL.of hl) JB ?_;refine go S ((SJ sd).mono (by decide)) fun p y m r H1 s1 hp I D by'=>?_
 have fw:=I.few o.good;have m0:=I.m0;have r0:=I.r0;have:=q y m r H1 s1 I D by'
 obtain⟨m',rfl⟩:∃m':Nat,m=(m':Int):=⟨m.toNat,by lia⟩;obtain⟨r',rfl⟩:∃r':Nat,r=(r':Int):=⟨r.toNat,by lia⟩;have e60:(10:Nat)^60=1000000000000000000000000000000000000000000000000000000000000:=by decide
 symm;refine⟨p,y,m',r',rfl,SqT.of hp,qI by',by lia,by lia,fun t et=>?_⟩;rw[xi,xi,<-(show cpl t=Nh y m' r' from et),Ip] at this;exact this
theorem RJ:CI0 1 "Desk" DX ["self"] (zT K ⟨DX,Bd,BR,Ak,Ba,CL⟩):=by
 refine ci' ["self"] Qt fun nd H vs Q E hr h=>?_;obtain⟨H0,x,dx,rfl,hx,hd,ne,rfl,q⟩:=h;refine⟨_,(Ab (Fd (pv 0) Zx (by rfl))
  (Ad (Fd (pv 0) Zx (by rfl)))),?_⟩
 symm;intro d1 n1;symm;have a1:d1≠x:=fun z=>by rw[z,An] at n1;cases n1
 have a2:d1≠dx:=fun z=>by rw[z,BK ne,An] at n1;cases n1
 have n1':H0 d1=none:=by rw[BK a1,BK a2] at n1;exact n1
 refine⟨x,DX,dx,[],rfl,by rw[BK a1.symm];exact An,DR,Eo,by decide,?_⟩;symm;intro d2 n2;symm;have b1:d2≠x:=fun z=>by rw[z,An] at n2;cases n2
 have b2:d2≠d1:=fun z=>by rw[z,BK a1,An] at n2;cases n2
 have b3:d2≠dx:=fun z=>by rw[z,BK ne,BK a2.symm,BK ne,An] at n2;cases n2
 have n2':H0 d2=none:=by rw[BK b1,BK b2,BK b1,BK b3] at n2;exact n2
 refine⟨x,DX,dx,_,rfl,by rw[BK b1.symm];exact An,DR,G5,(by show 1<1000;decide),?_⟩;refine q _ (fun y u e=>?_) ⟨dx,d1,d2,[],An,?_,?_,qq _,b2,fun _ _ _ z=>nomatch z⟩
 ·have c1:y≠x:=Bp e hx;rw[BK c1,BK (Bp e n2'),BK c1,BK (Bp e n1'),BK c1,BK (Bp e hd)];exact e
 ·show _=_;rw[BK a1,BK b2.symm,BK a1];exact An
 ·rw[BK b1];exact An
theorem Ny:CI0 1 "Change" rK ["self","old","new","day"] ACJ:=ci (st:=Mv) (by walk_at"k") (by walk_at"k") (by walk_at"k") (by walk_at"h") (by walk_at"b") fun _=>⟨fun _ _ _ _ h=>h.elim,fun _ _ _ _ _ _ _ _ _ _ _ _ _ h=>h.elim⟩
theorem ABO:C0 133 "keep" ["desk","word","given"] (zP K ⟨DX,Bd,BR,Ak,Ba,CL⟩):=by
 refine co' ["desk","word","given","name"] zm (len:=by intro _ _ _ _ h;obtain⟨x,l,c,j,m,D,lb,⟨g,rfl,_⟩ | ⟨nm,p,g,rfl,_⟩⟩:=h<;>rfl) fun nd H vs Q E hr h=>?_;obtain⟨x,l,c,j,m,DK,lb,h⟩:=h;obtain⟨dx,a,r,kv,hx,hc,hk,lk,na,hm⟩:=DK.ex;refine⟨_,(Ab (Ah 3 (pxL 2))
  (Ab (Ej (Ay (Ai Bl (pv 1) Aj (Am _))
   (Ad (X3 (yk (jk0 (by decide:1<=64) _) hr.units) (Bf (pv 0) (by rfl)) (pv 3) (Ag Q0 (Aa (pxL 2) Ac)) rfl))
   (Ad (Ej (Ay (Ai Bl (pv 1) Aj (Am _))
   (Ad (X3 (yk (jk0 (by decide:1<=64) _) hr.units) (Bf (pv 0) (by rfl)) (pv 3) (Gd Ny (Aa (pxL 2) (Aa (pxL 2) (Aa (pxL 2) Ac)))) rfl))
   (Ad (X3 (yk (jk0 (by decide:1<=64) _) hr.units) (Bf (pv 0) (by rfl)) (pv 3) (Ag aR (Aa (pxL 2) (Aa (Bf (pv 0) (by rfl)) Ac))) rfl)))))))
  (Ad (Al Aj)))),?_⟩
 rcases h with ⟨g,rfl,hl,o,rfl,q⟩ | ⟨nm,p,g,rfl,hl,rfl,D0,fi,q⟩
 ·symm;exists BL (SqL.of hl) DQ ?_;refine EY (fun _ H'=>Q (.str "ok") H') ?_ (fun Z' H' h=>by symm;exact h);symm;refine Gg rfl ?_;unfold oY;symm;exists BL (SqL.of hl) JB ?_;exists⟨g,rfl,o,fun y H1 s1 C1=>?_⟩;exists⟨x,DX,dx,_,_,rfl,s1 _ _ hx,DR,Eo,rfl,?_⟩;have h0:=s1 _ _ hc;have kd:=Kd.put h0 (kv':=putK [] (.inr (sW (sg "c"))) (.ref y));refine⟨a,_,rfl,mJ.k (k:=.inr (sW (sg "c"))) h0 (by decide),q _ ((Kd.of s1).trans kd) ⟨dx,a,r,kv,kd.ins (s1 _ _ hx),⟨_,y,An,rfl,Dj.kd kd C1⟩,by rw[BK na];exact s1 _ _ hk,lk,na,fun nm n b e=>?_⟩⟩;obtain⟨y',g1,g2⟩:=hm nm n b e;exact⟨y',g1,(g2.same s1).kd kd⟩
 ·symm;exists BL (SqL.of hl) DQ ?_;refine EY (fun _ H'=>Q (.str "ok") H') ?_ (fun Z' H' h=>by symm;exact h);symm;refine CJ (fun z=>absurd (V.str.inj z) (by ac_rfl)) ?_;exists EY (fun _ H'=>Q (.str "ok") H') ?_ (fun Z' H' h=>h);refine CJ (fun z=>absurd (V.str.inj z) (by ac_rfl)) ?_;unfold oY;symm;exists BL (SqL.of hl) JB ?_;exists⟨x,DX,dx,_,_,rfl,hx,DR,Eo,rfl,?_⟩;exists⟨a,p,g,rfl,fi.ok,fi.kn,fi.tl,fi.dp,fi.mn,D0,hc,fi.sz,fun y bt H1 s1 R E=>?_⟩;exists⟨x,DX,dx,_,_,rfl,s1 _ _ hx,DR,G5,rfl,?_⟩;have h0:=s1 _ _ hk;have kd:=Kd.put h0 (kv':=putK kv (.inr (sW nm)) (.ref y));have sp:=PT.sz_pos D0 fi.ok;refine⟨r,_,rfl,mJ.k (k:=.inr (sW nm)) h0 (yk lk (yk lb (by decide))),q bt _ ((Kd.of s1).trans kd) ⟨dx,a,r,_,kd.ins (s1 _ _ hx),?_,An,zw (KR _ _ _) (by lia),na,fun k n b' e=>?_⟩ E⟩
  ·obtain⟨kv',y',e1,e2,e3⟩:=hc;exact⟨kv',y',by rw[BK (Ne.symm na)];exact s1 _ _ e1,e2,Dj.kd kd (Dj.same e3 s1)⟩
  ·unfold setM at e;rw[mY];split at e
   ·rename_i z
    subst z;cases e;exact⟨y,ya rfl,by rw[je0 (by lia)];exact R.kd kd⟩
   ·rename_i z
    obtain⟨y',g1,g2⟩:=hm k n b' e;exact⟨y',by rw[ua fun w=>z (by have:=xk cpl (Sum.inr.inj w);rwa [Bk,Bk] at this)];exact g1,(g2.same s1).kd kd⟩
theorem G8:CM0 134 DX "say" ["self","row"] (xY K ⟨DX,Bd,BR,Ak,Ba,CL⟩):=by
 refine cm' ["self","row","words","form","given"] cU fun nd H vs Q E hr h=>?_;obtain⟨x,c,j,m,R,rfl,ok,DK,lb,SQ⟩:=h;obtain⟨dx,a,r,kv,hx,hc,hk,lk,na,hm⟩:=DK.ex;obtain⟨kc,hkc,hcg⟩:∃kc,H a=some (.dK kc)/\∀g,c=some g->∃z,Fy kc (.inr (sW (sg "c")))=some (.ref z)/\Dj K Bd BR Ak H z g:=by
  cases c with
  | none=>exact⟨_,hc,fun _ z=>nomatch z⟩
  | some g=>
   obtain⟨kc,z,h1,h2,h3⟩:=hc;exact⟨kc,h1,fun _ e=>by cases e;exact⟨z,h2,h3⟩⟩
 have nn:∀{nm n b},m nm=some (n,b)->∃v,Fy kv (.inr (sW nm))=some v:=fun e=>by
  obtain⟨y,h1,_⟩:=hm _ _ _ e;exact⟨_,h1⟩
 have en:∀n,.ru n∈R.ws->∃v,Fy kv (.inr (sW n))=some v:=fun n hn=>by
  cases R with
  | cal=>simp[Row.ws] at hn
  | rule=>simp[Row.ws] at hn
  | date=>simp[Row.ws] at hn
  | _=>
   obtain⟨_,_,e,_⟩:=SQ;simp[Row.ws] at hn;exact hn ▸ nn e
 have ec:∀n,.ca n∈R.ws->∃v,Fy kc (.inr (sW n))=some v:=fun n hn=>by
  cases R with
  | date d=>
   obtain⟨g,e,_⟩:=SQ;obtain⟨z,h1,_⟩:=hcg g e;simp[Row.ws] at hn;exact⟨_,hn ▸ h1⟩
  | _=>simp[Row.ws] at hn
 have dk:DkH DX H x (kc,kv):=⟨dx,a,r,hx,hk,hkc⟩;refine⟨_,(Ab (Ah 2 (Ag Uo (Aa (pv 1) Ac)))
  (Ab (Ah 3 (Ti (By rfl Gk.m (HD _)) (pxL 2) (fun _ _=>rfl)))
  (Ab (Px (i:=4) nd rfl (by walk_at"o") (xs:=["kind","word"]) rfl (Iv ["kind","word"] ["self","row","words","form","given"] ["self","row","words","form","given"] rfl rfl (by with_unfolding_all rfl) (by ac_rfl) rfl (by ac_rfl) (by ac_rfl) (by ac_rfl) (by walk_at"fm") (by with_unfolding_all rfl) (by with_unfolding_all rfl)) (gf (c:=true) rfl xM (Aa (pv 3) (Aa (Ck FJ (pv 2) (DN Ae) Ed) Ac))) (fun _ _ _ _=>Dq) (fun _ _ _ _=>(Zv (n:=2) rfl (FP (Cm (i:=0) (show (["kind","word","self","row","words","form","given"]:List Str).Nodup from by ac_rfl) rfl (by walk_at"o")) (FP (Cm (i:=1) (show (["kind","word","self","row","words","form","given"]:List Str).Nodup from by ac_rfl) rfl (by walk_at"o")) Kz)))) (fun _ _ _ _=>(Ag aa (Aa (pv 2) (Aa (pv 0) (Aa (pv 1) Ac))))))
  (Ab (Bh (Ge Zs jc6 jc7 JL (pv 4) (Aa (Ag Vt (Aa (pv 0) (Aa (Ck FJ (pv 2) (DN (Af Bb (BX Bo rfl Eh xo (Aa (pv 3) Ac)) Ae)) Ed) Ac))) Ac)))
  (Ab (Ay (Xz (vM (pxL 2) (By rfl DW.m (HD _))))
   (Ad (Al (pM (k:=20) (HW.cons lX (HW.cons aM (HW.cons aN (HW.cons Yj (HW.cons fD (HW.cons aO HW.nil)))))) (hr.mono (by decide)) (Ti (By rfl DW.m (HD _)) (pxL 2) (fun _ _=>rfl)) (Aa (pv 4) Ac))))
   Ao)
  (Ad (Al (Ag ABO (Aa (pv 0) (Aa (pxL 2) (Aa (pv 4) Ac))))))))))),?_⟩
 symm;exists⟨R,rfl,ok,fun l H1 hl s1 t1=>?_⟩;unfold bY;symm;exists BL (SqL.of t1) DQ ?_;exists⟨_,_,.inr R.hd,_,rfl,Gk.d,rfl,UG _ R,?_⟩;exists Zr (gR ?_);refine Ga (SqL.of t1) fun u hu=>?_;rw[show Hu (V.str R.hd::wkV R.ws) (some 1) none=wkV R.ws from G6 _ 1];exists fresh hu fun H2 s2 t2=>?_;have s02:=s1.trans s2;refine⟨_,u,rfl,⟨_,_,Gk.s R _,SqL.of t2⟩,?_⟩;refine lJ (kv:=(kc,kv)) (Gk.s R) t2 (yk R.few.2 (by decide)) (fun k hk' H3 Q3 s3 q3=>?_) (fun D H3 vs hD s3 t3 g=>?_)
 ·symm;exact⟨x,(kc,kv),k,rfl,ok k hk',dk.same (s02.trans s3),fun n e=>en n (e ▸ hk'),fun n e=>ec n (e ▸ hk'),q3⟩
 symm;have s03:=s02.trans s3;exists Ov rfl t3 ?_;exists⟨_,_,rfl,.inr (Gk.s R _),?_⟩;have t1':=s3 _ _ (s2 _ _ t1);refine Ga (SqL.of t1') fun u5 hu5=>?_;have e5:Hu (V.str R.hd::wkV R.ws) (some (((R.ws.map fun w=>V.str w.k).length:Int)+1)) none=[]:=by
  have:=G6 (V.str R.hd::wkV R.ws) ((R.ws.map fun w=>V.str w.k).length+1);rw[jk5,Int.natCast_one] at this;rw[this,va (by unfold wkV;simp)]
 rw[e5];exists fresh hu5 fun H5 s5 t5=>?_;have s05:=s03.trans s5;refine⟨x,u5,rfl,t5,fun l6 H6 hl6 s6 t6=>?_⟩;have s06:=s05.trans s6;have tD:=s6 _ _ (s5 _ _ t3);symm;refine⟨D,l6,vs,[],rfl,rfl,tD,t6,by rw[ji7,Nat.add_zero,g.1];exact zw R.few.2 (by decide),?_⟩;rw[uj,yX tD];have t16:=s6 _ _ (s5 _ _ t1');have DK6:=DK.same s06;have rl:∀{nm n b v},m nm=some (n,b)->Fy kv (.inr (sW nm))=some v->∃y,v=.ref y/\Dn K Ba CL H6 y (n:Int) b:=fun e e'=>by
  obtain⟨y,h1,h2⟩:=hm _ _ _ e;exact⟨y,yv (e'.symm.trans h1),h2.same s06⟩
 symm;unfold f9;symm;exists BL (SqL.of t16) DQ ?_;refine⟨_,_,.inr R.hd,rfl,DW.d,rfl,?_⟩;cases R with
 | cal g'=>
  exists⟨_,rfl,En ?_⟩;exists BL (SqL.of t16) DQ ?_;obtain⟨v0,ws0,rfl,e0,g1⟩:=GV.cons g;obtain⟨v1,rfl,e1⟩:=GV.one g1;cases e0;cases e1;obtain⟨o,ec,q⟩:=SQ;exact⟨x,D,c,j,m,DK6,lb,.inl ⟨g',rfl,tD,o,ec,fun H' k d=>q H' ((Kd.of s06).trans k) d⟩⟩
 | rule nm p=>
  exists⟨_,rfl,En ?_⟩;exists BL (SqL.of t16) DQ ?_;obtain⟨v0,ws0,rfl,e0,g1⟩:=GV.cons g;obtain⟨v1,rfl,e1⟩:=GV.one g1;cases e0;cases e1;obtain⟨D',ec,D0,fi,q⟩:=SQ;exact⟨x,D,c,j,m,DK6,lb,.inr ⟨nm,p,D',rfl,tD,ec,D0,fi,fun b H' k d=>q b H' ((Kd.of s06).trans k) d⟩⟩
 | on nm d=>
  exists⟨_,rfl,FT ?_⟩;unfold JV;dsimp only;symm;exists BL (SqL.of t16) DQ ?_;exists⟨_,_,.inr "on",_,rfl,DW.d,rfl,rfl,_,_,_,rfl,.head _,DW.g3,?_⟩;obtain⟨n,b,e,q⟩:=SQ;obtain⟨v0,ws0,rfl,e0,g1⟩:=GV.cons g;obtain⟨v1,rfl,e1⟩:=GV.one g1;cases e1;obtain⟨y,rfl,R⟩:=rl e e0;exact⟨D,y,n,d,b,rfl,tD,R,q H6 s06⟩
 | next nm d=>
  exists⟨_,rfl,FT ?_⟩;unfold JV;dsimp only;symm;exists BL (SqL.of t16) DQ ?_;exists⟨_,_,.inr "next",_,rfl,DW.d,rfl,rfl,_,_,_,rfl,.tail _ (.head _),DW.g4,?_⟩;obtain⟨n,b,e,q⟩:=SQ;obtain⟨v0,ws0,rfl,e0,g1⟩:=GV.cons g;obtain⟨v1,rfl,e1⟩:=GV.one g1;cases e1;obtain⟨y,rfl,R⟩:=rl e e0;exact⟨D,y,n,d,b,rfl,tD,R,ok (.nu d) (.tail _ (.head _)),q.later s06⟩
 | last nm d=>
  exists⟨_,rfl,FT ?_⟩;unfold JV;dsimp only;symm;exists BL (SqL.of t16) DQ ?_;exists⟨_,_,.inr "last",_,rfl,DW.d,rfl,rfl,_,_,_,rfl,.tail _ (.tail _ (.head _)),DW.g5,?_⟩;obtain⟨n,b,e,q⟩:=SQ;obtain⟨v0,ws0,rfl,e0,g1⟩:=GV.cons g;obtain⟨v1,rfl,e1⟩:=GV.one g1;cases e1;obtain⟨y,rfl,R⟩:=rl e e0;exact⟨D,y,n,d,b,rfl,tD,R,ok (.nu d) (.tail _ (.head _)),q.later s06⟩
 | count nm d d'=>
  exists⟨_,rfl,FT ?_⟩;unfold JV;dsimp only;symm;exists BL (SqL.of t16) DQ ?_;exists⟨_,_,.inr "count",_,rfl,DW.d,rfl,rfl,_,_,_,rfl,.tail _ (.tail _ (.tail _ (.head _))),DW.g7,?_⟩;obtain⟨n,b,e,q⟩:=SQ;obtain⟨v0,ws0,rfl,e0,g1⟩:=GV.cons g;obtain⟨v1,ws1,rfl,e1,g2⟩:=GV.cons g1;obtain⟨v2,rfl,e2⟩:=GV.one g2;cases e1;cases e2;obtain⟨y,rfl,R⟩:=rl e e0;exact⟨D,y,n,d,d',b,rfl,tD,R,ok (.nu d) (.tail _ (.head _)),ok (.nu d') (.tail _ (.tail _ (.head _))),fun H' s'=>q H' (s06.trans s')⟩
 | nth nm d d'=>
  exists⟨_,rfl,FT ?_⟩;unfold JV;dsimp only;symm;exists BL (SqL.of t16) DQ ?_;exists⟨_,_,.inr "nth",_,rfl,DW.d,rfl,rfl,_,_,_,rfl,.tail _ (.tail _ (.tail _ (.tail _ (.head _)))),DW.g6,?_⟩;obtain⟨n,b,e,k0,q⟩:=SQ;obtain⟨v0,ws0,rfl,e0,g1⟩:=GV.cons g;obtain⟨v1,ws1,rfl,e1,g2⟩:=GV.cons g1;obtain⟨v2,rfl,e2⟩:=GV.one g2;cases e1;cases e2;obtain⟨y,rfl,R⟩:=rl e e0;exact⟨D,y,n,d,d',b,rfl,tD,R,ok (.nu d) (.tail _ (.head _)),ok (.nu d') (.tail _ (.tail _ (.head _))),k0,q.later s06⟩
 | date d=>
  exists⟨_,rfl,FT ?_⟩;unfold JV;dsimp only;symm;exists BL (SqL.of t16) DQ ?_;exists⟨_,_,.inr "date",_,rfl,DW.d,rfl,rfl,_,_,_,rfl,.tail _ (.tail _ (.tail _ (.tail _ (.tail _ (.head _))))),DW.g0,?_⟩;obtain⟨g',e,o,q⟩:=SQ;obtain⟨v0,ws0,rfl,e0,g1⟩:=GV.cons g;obtain⟨v1,rfl,e1⟩:=GV.one g1;cases e1;obtain⟨z,h1,h2⟩:=hcg g' e;cases h1.symm.trans e0;exact⟨D,z,d,g',rfl,tD,h2.same s06,o,ok (.nu d) (.tail _ (.head _)),fun y m r H' s'=>q y m r H' (s06.trans s')⟩
theorem Cg:C0 1 "_law_cell_at" ["_law_script","_law_k"] (oN K):=by
 refine co' ["_law_script","_law_k"] Vf fun nd H vs Q E hr h=>?_;obtain⟨a,ns,k,rfl,hS,h0,hl,q⟩:=h;refine⟨_,(Ab (Ay (Ai FZ (pv 1) (BX Bo rfl Eh xo (Aa (pv 0) Ac)) (Am _))
  (Ad (Al (Dy GR (pv 0) (pv 1) (fun _ _=>rfl))))
  Ao)
  (Ad (Al Ae))),?_⟩
 symm;exists⟨a,_,rfl,.inl hS,?_⟩;rw[js];refine CK (fun c=>?_) (fun c=>?_)
 ·symm;refine BL hS (wu h0 c) ?_;exact q
 ·symm;have e:ns.getD k.toNat 0=0:=by
   simp[List.getD,jm4 (show ns.length<=k.toNat by lia)]
  rw[e] at q;exact q
theorem Vu:C0 1 "_law_common" ["_law_one","_law_other"] zV:=by
 refine co' ["_law_one","_law_other","_law_a","_law_b"] Xk fun nd H vs Q E hr h=>?_;obtain⟨x,y,rfl,x0,x1,y0,y1,q⟩:=h;refine⟨_,(Ab (Ah 2 (pv 0))
  (Ab (Ah 3 (pv 1))
  (Ab (HH PassesOwn.never (Ai GJ (pv 3) Ae (Am _))
   (Ad (AAR (i:=2) (j:=3) rfl nd rfl rfl (by decide) rfl rfl (Aa (pv 3) (Aa (Af Br (pv 2) (pv 3)) Ac)) (by with_unfolding_all rfl))))
  (Ad (Al (Af CP (Af Bg (pv 0) (pv 2)) (pv 1))))))),?_⟩
 symm;refine⟨fun m Z' H'=>H'=H/\∃u v:Int,Z'=[some (.int x),some (.int y),some (.int u),some (.int v)]/\0<u/\0<=v/\Int.gcd u v=Int.gcd x y/\v.toNat=m,⟨_,rfl,x,y,rfl,by lia,by lia,rfl,rfl⟩,?_⟩;rintro m Z' H' ⟨rfl,u,v,rfl,u0,v0,hg,rfl⟩;symm;by_cases hv:v=0
 ·subst hv;refine Gf rfl ?_;rw[Int.gcd_zero_right] at hg;obtain rfl:((Int.gcd x y:Nat):Int)=u:=by lia
  have gl:=dw (b:=y) (show 0<x by lia);have d0:=jg0 (show 0<=x by lia) (Jn u0);have d1:=je7 (Int.gcd x y:Int) (show 0<=x by lia);symm;exists Ds (Fg u0 (by lia)) ?_;exists Ja ?_;exact q
 ·refine Z8 (fun z=>hv (V.int.inj z)) ?_;exists⟨_,fun Z' H' hh=>hh,?_⟩;refine⟨_,_,rfl,?_⟩;have m0:=zh u hv;have m1:=qk u (show 0<v by lia);refine⟨(u%v).toNat,by lia,rfl,v,u%v,rfl,by lia,m0,?_,rfl⟩;rw[<-hg];exact ADz u v
theorem ao:C0 1 "_law_moon" ["_law_a","_law_start"] uN:=by
 refine co' ["_law_a","_law_start","_law_n","_law_part","_law_years","_law_more","_law_base","_law_many","_law_months","_law_words"] cJ fun nd H vs Q E hr h=>?_;obtain⟨a,s',rfl,ss,s30,q⟩:=h;have n0:=zh a (show (2:Int)≠0 by decide);have n1:=qk a (show (0:Int)<2 by decide);have y0:=zh (a/6) (show (2:Int)≠0 by decide);have y1:=qk (a/6) (show (0:Int)<2 by decide);have d0:=zh (a/36) (show (3:Int)≠0 by decide);have d1:=qk (a/36) (show (0:Int)<3 by decide);have m0:=zh (a/108) (show (3:Int)≠0 by decide);have m1:=qk (a/108) (show (0:Int)<3 by decide);have p0:=zh (a/2) (show 1+a%2+1≠0 by lia);have p1:=qk (a/2) (show 0<1+a%2+1 by lia);have c0:=zh (a/12) (show 1+a/6%2+1≠0 by lia);have c1:=qk (a/12) (show 0<1+a/6%2+1 by lia);have b0:=zh (a/324) (show 1+a%2≠0 by lia);have b1:=qk (a/324) (show 0<1+a%2 by lia);refine⟨_,(Ab (Ah 2 (Af Bb Ae (Af Br (pv 0) Ae)))
  (Ab (Ah 3 (Af Br (Af Bg (pv 0) Ae) (Af Bb (pv 2) Ae)))
  (Ab (Ah 4 (Af Bb Ae (Af Br (Af Bg (pv 0) Ae) Ae)))
  (Ab (Ah 5 (Af Br (Af Bg (pv 0) Ae) (Af Bb (pv 4) Ae)))
  (Ab (Ah 6 (Af Bb Ae (Af Br (Af Bg (pv 0) Ae) Ae)))
  (Ab (Ah 7 (Af Bb Ae (Af Br (Af Bg (pv 0) Ae) Ae)))
  (Ab (Ah 8 (Af CP (Af Bb (Af CP (pv 4) (pv 7)) (pv 5)) (pv 2)))
  (Ab (Ah 9 (Af BJ (Af BJ (Af BJ (Af BJ (Af BJ Aj (BP Az rfl Cr qg (Aa (pv 1) Ac))) Aj) (BP Az rfl Cr qg (Aa (pv 6) Ac))) Aj) (BP Az rfl Cr qg (Aa (pv 3) Ac))))
  (Ab (Ah 9 (Af BJ (Af BJ (Af BJ (Af BJ (Af BJ (Af BJ (pv 9) Aj) (BP Az rfl Cr qg (Aa (Af Br (Af Bg (pv 0) Ae) (pv 2)) Ac))) Aj) (BP Az rfl Cr qg (Aa (pv 2) Ac))) Aj) (BP Az rfl Cr qg (Aa (pv 7) Ac))))
  (Ab (Ah 9 (Af BJ (Af BJ (Af BJ (Af BJ (pv 9) Aj) (BP Az rfl Cr qg (Aa (pv 5) Ac))) Aj) (BP Az rfl Cr qg (Aa (pv 4) Ac))))
  (Ad (Al (BW (Aa (pv 9) (Aa (Af Bb (Af CP (pv 6) (pv 8)) (Af CP (pv 3) (Af Bg (pv 8) (pv 2)))) Ac))))))))))))))),?_⟩
 symm;refine Ja ?_;generalize hn:1+a%2=n at*
 generalize hp:a/2%(n+1)=p at*
 generalize hy:1+a/6%2=y at*
 generalize hc:a/12%(y+1)=c at*
 generalize hbd:1+a/36%3=bd at*
 generalize hbm:1+a/108%3=bm at*
 generalize hb:a/324%n=b at*
 have o:Ok1 p b n:=⟨by lia,by lia,by lia,by lia,by lia,by lia⟩;have o':Ok1 c 0 y:=⟨by lia,by lia,by lia,by lia,by lia,by lia⟩;have ok:OkC (.moon s' bd [(1,p,b,n)] bm [(1,c,0,y)]):=.moon ss (by lia) (by lia) o (by lia) (by lia) (by lia) o' (by lia);have h1:1*1<=y*bm:=vt (by lia) (by lia) (by decide) (by lia);have h2:y*bm<=2*3:=vt (by lia) (by lia) (by lia) (by decide);have sp:Sm p:=sm1 (by lia) (by lia);have sb:Sm b:=sm1 (by lia) (by lia);have sn:Sm n:=sm1 (by lia) (by lia);have sc:Sm c:=sm1 (by lia) (by lia);have sy:Sm y:=sm1 (by lia) (by lia);have sbd:Sm bd:=sm1 (by lia) (by lia);have sbm:Sm bm:=sm1 (by lia) (by lia);symm;exists Ja ?_;refine⟨_,rfl,CQ ss,?_⟩;have Z:=(Lg.s "moon ").ap (.n ss);exists Z.go fun zz Z=>?_;have Z:=Z.aps " ";exists Z.go fun zz Z=>?_;refine⟨_,rfl,CQ sbd,?_⟩;have Z:=Z.ap (.n sbd);exists Z.go fun zz Z=>?_;have Z:=Z.aps " +";exists Z.go fun zz Z=>?_;refine⟨_,rfl,CQ sp,?_⟩;have Z:=Z.ap (.n sp);exists Z.go fun zz Z=>?_;have Z:=Z.aps ",";exists Z.go fun zz Z=>?_;rw[hb];refine⟨_,rfl,CQ sb,?_⟩;have Z:=Z.ap (.n sb);exists Z.go fun zz Z=>?_;have Z:=Z.aps ",";exists Z.go fun zz Z=>?_;refine⟨_,rfl,CQ sn,?_⟩;have Z:=Z.ap (.n sn);exists Z.go fun zz Z=>?_;have Z:=Z.aps " / ";exists Z.go fun zz Z=>?_;refine⟨_,rfl,CQ sbm,?_⟩;have Z:=Z.ap (.n sbm);exists Z.go fun zz Z=>?_;have Z:=Z.aps " +";exists Z.go fun zz Z=>?_;refine⟨_,rfl,CQ sc,?_⟩;have Z:=Z.ap (.n sc);exists Z.go fun zz Z=>?_;have Z:=Z.aps ",0,";exists Z.go fun zz Z=>?_;refine⟨_,rfl,CQ sy,?_⟩;have Z:=Z.ap (.n sy);refine Z.go fun zz Z=>?_;have eR:=Z.eq (ABb s' bd p b n bm c y).symm;clear Z;have hM:(y*bm+c)*n/n=y*bm+c:=Int.mul_ediv_cancel _ (by lia);have h3:1*1<=(y*bm+c)*n:=vt (by lia) (by lia) (by decide) (by lia);have h4:(y*bm+c)*n<=8*2:=vt (by lia) (by lia) (by lia) (by decide);symm;exists Ja ?_;refine Ds (Fg (by lia) (by lia)) ?_;rw[hM];exists Ja ?_;have e:dyC (.moon s' bd [(1,p,b,n)] bm [(1,c,0,y)])=bd*((y*bm+c)*n)+p*(y*bm+c):=by
  show(bm*(y+0)+(c+0))*(bd*(n+0)+(p+0))=_;simp only[kz];rw[jd9,ub bm y,ub _ p,jd6]
 refine⟨Hz,fun t ht=>?_⟩;have:=q _ t (upd H t (.tup [.str (sW (Jh (.moon s' bd [(1,p,b,n)] bm [(1,c,0,y)]))),.int (dyC (.moon s' bd [(1,p,b,n)] bm [(1,c,0,y)]))])) (Ax ht _) ⟨ok,s30,An⟩;rw[e,<-eR] at this;exact this
theorem Q5:C0 2 "_law_calendar" ["_law_script"] (zX K):=by
 refine co' ["_law_script","_law_a","_law_start","_law_n","_law_part","_law_months","_law_words"] Su fun nd H vs Q E hr h=>?_;obtain⟨a,ns,rfl,hS,h63,q⟩:=h;refine⟨_,(Ab (Ah 1 (Af Bg (Ag Cg (Aa (pv 0) (Aa Ae Ac))) Ae))
  (Ab (Ah 2 (Af CG (Af Br (Ag Cg (Aa (pv 0) (Aa Ae Ac))) (Af O4 Ae Ae)) (Af O4 Ae Ae)))
  (Ab (Ay (Ai Bl (Af Br (Ag Cg (Aa (pv 0) (Aa Ae Ac))) Ae) Ae (Am _))
   (Ad (Al (Ag ao (Aa (pv 1) (Aa (pv 2) Ac)))))
   Ao)
  (Ab (Ah 3 (Af Bb Ae (Af Br (pv 1) Ae)))
  (Ab (Ah 4 (Af Br (Af Bg (pv 1) Ae) (Af Bb (pv 3) Ae)))
  (Ab (Ah 5 (Ck FJ (FQ (Aa (Af Bb Ae (Af Br (Af Bg (pv 1) Ae) Ae)) (Aa (Af Bb Ae (Af Br (Af Bg (pv 1) Ae) Ae)) (Aa (Af Bb Ae (Af Br (Af Bg (pv 1) Ae) Ae)) Ac)))) Ed (DN (Af Bb Ae (Af Br (Af Bg (pv 1) Ae) Ae)))))
  (Ab (Ah 6 (Af BJ (Af BJ (Af BJ Aj (BP Az rfl Cr qg (Aa (pv 2) Ac))) Aj) (Ge yy PySem.F.slot_str_join PySem.F.type_str_join iB Aj (Aa (El rfl (GK ["_law_script","_law_a","_law_start","_law_n","_law_part","_law_months","_law_words"] rfl (by ac_rfl) rfl (by ac_rfl) rfl (by ac_rfl) (by ac_rfl)) (Fe (pv 5)) (fun _ _ _ _=>Dq) (fun _ _ _ _=>(BP Az rfl Cr qg (Aa (pv 0) Ac)))) Ac))))
  (Ab (Ah 6 (Af BJ (Af BJ (pv 6) Aj) (BP Az rfl Cr qg (Aa (Af Bb Ae (Af Br (Af Bg (pv 1) Ae) Ae)) Ac))))
  (Ab (Ah 6 (Af BJ (Af BJ (Af BJ (Af BJ (Af BJ (Af BJ (pv 6) Aj) (BP Az rfl Cr qg (Aa (pv 4) Ac))) Aj) (BP Az rfl Cr qg (Aa (Af Br (Af Bg (pv 1) Ae) (pv 3)) Ac))) Aj) (BP Az rfl Cr qg (Aa (pv 3) Ac))))
  (Ad (Al (BW (Aa (pv 6) (Aa (Af Bb (Af CP (pv 3) (BX (Nj rfl) rfl fW jj1 (Aa (pv 5) Ac))) (pv 4)) Ac)))))))))))))),?_⟩
 symm;generalize ns.getD (1:Int).toNat 0=c1;generalize ns.getD (2:Int).toNat 0=c2;rw[p30,p29];have ss:Sm (c2%1000000000000000000000000000000-100000000000000000000000000000):=Jx (by lia) (by lia);have s30:(c2%1000000000000000000000000000000-100000000000000000000000000000).natAbs<=1000000000000000000000000000000:=by lia
 generalize c2%1000000000000000000000000000000-100000000000000000000000000000=s' at ss s30 ⊢;refine CK (fun c=>?_) (fun c=>?_)
 ·symm;exact⟨_,s',rfl,ss,s30,q⟩
 generalize c1/3=x;obtain⟨n,p,b,lp,j,en,ep,hb,hlp,hj,o,lp0,lp1,j0,j1⟩:=ADi x;obtain⟨m1,e1,u1,u1'⟩:=AAg (x/12);obtain⟨m2,e2,u2,u2'⟩:=AAg (x/48);obtain⟨m3,e3,u3,u3'⟩:=AAg (x/192);have n0:=o.n0;have n1:0<1+x%3+1:=by lia
 symm;rw[en,ep,e1,e2,e3];clear en ep e1 e2 e3 n1;refine⟨(by show 3<=sizeLine;decide),fun l hl=>?_⟩;refine fresh hl fun H1 s1 t1=>?_;have t1:H1 l=some (.lst ([m1,m2,m3].map V.int)):=t1;symm;rw[hj];refine Ga (SqL.of t1) fun u hu=>?_;rw[lG [m1,m2,m3] (by show j<=3;lia)];refine fresh hu fun H2 s2 t2=>?_;have lo:2<=([m1,m2,m3].take j).length/\([m1,m2,m3].take j).length<=3:=by rw[jf0];show 2<=min j 3/\min j 3<=3;lia
 have lm:∀i∈[m1,m2,m3].take j,1<=i/\i<=4:=fun i hi=>by
  have:=List.mem_of_mem_take hi;simp only[qv,yi,or_false] at this;lia
 generalize [m1,m2,m3].take j=ls at*
 have ok:OkC (.sun s' ls lp [(1,p,b,n)]):=.sun ss lo.1 lo.2 lm lp0 lp1 o;have ms:∀i∈ls,Sm i:=fun i hi=>sm1 (by have:=lm i hi;lia) (by have:=lm i hi;lia);have sp:Sm p:=o.sm p (.head _);have sb:Sm b:=o.sm b (.tail _ (.head _));have sn:Sm n:=o.sm n (.tail _ (.tail _ (.head _)));have sl:Sm lp:=sm1 (by lia) (by lia);symm;refine⟨_,rfl,CQ ss,?_⟩;have Z:=(Lg.s "sun ").ap (.n ss);exists Z.go fun zz Z=>?_;have Z:=Z.aps " ";exists Z.go fun zz Z=>?_;exists Ii ?_;exists⟨rfl,?_⟩;exists Fb (JF ?_);refine⟨u,rfl,⟨_,SqL.of t2⟩,?_⟩;refine Gh JS (by rw[js];exact Cw (by lia)) (fun D i ys H3=>H3 D=some (.lst ys)/\Av H2 H3/\ys=((ls.take i).map Ca).map V.str) (fun D hD=>⟨An,Ax hD _,rfl⟩)
  (fun D i ys H3 _ ⟨h1,h2,h3⟩=>⟨h1,by rw[h3,js,js];exact jc5 _ _,SqL.of (h2 _ _ t2)⟩) (fun D i v ys H3 hD hx ⟨h1,h2,h3⟩=>?_) (fun D ys H3 hD ⟨h1,h2,h3⟩=>?_)
 ·rw[zo] at hx;obtain⟨k,hk,rfl⟩:=xz.mp hx;exists Gu (FT ?_);refine⟨_,rfl,CQ (ms k (zv hk)),?_⟩;refine⟨h1,An,Ek hD h2,?_⟩;rw[vk,hk,kx,uk,uk,h3];rfl
 rw[js,Qr] at h3;subst h3;have jl:=NT ms;symm;refine⟨_,D,_,rfl,rfl,SqL.of h1,?_,?_⟩
 ·have h:((ls.map Ca).map (·.length)).sum<=(ls.map Ca).length*46:=gC fun w hw=>by
   obtain⟨i,hi,rfl⟩:=ka.mp hw;exact qC (ms i hi)
  rw[js] at h;clear hj hlp hb Z;rw[show (Str.ofString ",").length=1 by ac_rfl,js];lia
 rw[kI];have Z:=Z.ap (.w (n:=141) (Fj 44 (ls.map nW)) (by lia));exists Z.go fun zz Z=>?_;have Z:=Z.aps " leap ";exists Z.go fun zz Z=>?_;rw[hlp];refine⟨_,rfl,CQ sl,?_⟩;have Z:=Z.ap (.n sl);exists Z.go fun zz Z=>?_;have Z:=Z.aps " +";exists Z.go fun zz Z=>?_;refine⟨_,rfl,CQ sp,?_⟩;have Z:=Z.ap (.n sp);exists Z.go fun zz Z=>?_;have Z:=Z.aps ",";exists Z.go fun zz Z=>?_;rw[hb];refine⟨_,rfl,CQ sb,?_⟩;have Z:=Z.ap (.n sb);exists Z.go fun zz Z=>?_;have Z:=Z.aps ",";exists Z.go fun zz Z=>?_;refine⟨_,rfl,CQ sn,?_⟩;have Z:=Z.ap (.n sn);refine Z.go fun zz Z=>?_;have eR:=Z.eq (ADU s' lp p b n ls).symm;clear Z;have su:=nR lm lo.2;have n3:=o.n1;symm;refine⟨u,ls,rfl,SqL.of (h2 _ _ t2),?_⟩;exists Ja ?_;have e:dyC (.sun s' ls lp [(1,p,b,n)])=n*ls.sum+p:=by
  show ls.sum*(n+0)+(p+0)=_;rw[kz,kz,ub]
 refine⟨Hz,fun t ht=>?_⟩;have:=q _ t (upd H3 t (.tup [.str (sW (Jh (.sun s' ls lp [(1,p,b,n)]))),.int (dyC (.sun s' ls lp [(1,p,b,n)]))])) ((s1.trans s2).trans (h2.trans (Ax ht _))) ⟨ok,s30,An⟩;rw[e,<-eR] at this;exact this
theorem QR:C0 1 "_law_leaf" ["_law_cell","_law_days_here"] uR:=by
 refine co' ["_law_cell","_law_days_here","_law_way","_law_month","_law_day","_law_size"] cL fun nd H vs Q E hr h=>?_;obtain⟨x,g,rfl,og,q⟩:=h;have lf:∀(b:Bool) (z:Str) (a:Addr),H a=none->z=sW (PT.tx (.lf b))->Q (.ref a) (upd H a (.tup [.str z,.int 1])):=fun b z a ha e=>q a (.lf b) 1 _ (Ax ha _) (by subst e;exact⟨An,trivial,trivial,(by cases b<;>ac_rfl),(by show 1+0<=1;decide),jg6 _,by decide,by decide,trivial⟩);obtain⟨sm,dv,d1,d64⟩:=og.cy;refine⟨_,(Ab (Ah 2 (Af Br (pv 0) Ae))
  (Ab (Ay (Ai Bl (pv 2) Ae (Am _))
   (Ad (Al (BW (Aa Aj (Aa Ae Ac)))))
   Ao)
  (Ab (Ay (Ai Bl (pv 2) Ae (Am _))
   (Ad (Al (BW (Aa Aj (Aa Ae Ac)))))
   Ao)
  (Ab (Ay (Ai FZ (pv 2) Ae (Am _))
   (Ab (Ah 5 (Af Bb Ae (Af Br (Af Bg (pv 0) Ae) Ae)))
  (Ad (Al (BW (Aa (Af BJ (Af BJ (Af BJ Aj (BP Az rfl Cr qg (Aa (pv 5) Ac))) Aj) (BP Az rfl Cr qg (Aa (Af CG (Af Br (Af Bg (pv 0) Ae) Ae) Ae) Ac))) (Aa (pv 5) Ac))))))
   Ao)
  (Ab (Ah 3 (Dy GR (X7 (ss:=["*","1","2","3","1","2"]) rfl) (Af Br (Af Bg (pv 0) Ae) Ae) (fun _ _=>rfl)))
  (Ab (Ah 4 (Dy GR (X7 (ss:=["*","1","2","3","4","-1","-2","-4"]) rfl) (Af Br (Af Bg (pv 0) Ae) Ae) (fun _ _=>rfl)))
  (Ad (Al (BW (Aa (Af BJ (Af BJ (Af BJ Aj (pv 3)) Aj) (pv 4)) (Aa (pv 1) Ac))))))))))),?_⟩
 symm;refine CK (fun c=>?_) (fun c=>?_)
 ·symm;exact⟨Hz,fun a ha=>lf true _ a ha yZ.symm⟩
 symm;refine CK (fun c=>?_) (fun c=>?_)
 ·symm;exact⟨Hz,fun a ha=>lf false _ a ha tM.symm⟩
 symm;refine CK (fun c=>?_) (fun c=>?_)
 ·have s0:=zh (x/8) (show (6:Int)≠0 by decide);have s1:=qk (x/8) (show (0:Int)<6 by decide);have r0:=zh (x/48) (show (2003:Int)≠0 by decide);have r1:=qk (x/48) (show (0:Int)<2003 by decide);symm;have n0:1<=1+x/8%6:=by lia
  have n1:1+x/8%6<=6:=by lia
  generalize 1+x/8%6=n at n0 n1 ⊢;have sn:Sm n:=sm1 (by lia) (by lia);refine⟨_,rfl,CQ sn,?_⟩;have Z:=(Lg.s "each ").ap (.n sn);exists Z.go fun zz Z=>?_;have Z:=Z.aps " from ";exists Z.go fun zz Z=>?_;have sr:Sm (x/48%2003-1001):=Jx (by lia) (by lia);have rl:(nW (x/48%2003-1001)).length<=46:=Ft sr;generalize x/48%2003-1001=r at sr rl ⊢;refine⟨_,rfl,CQ sr,?_⟩;have Z:=Z.ap (.n sr);refine Z.go fun zz Z=>?_;have e:=Z.eq (PT.tx_each n r).symm;have l1:(sg "each ").length=5:=by ac_rfl
  have l2:(sg " from ").length=6:=by ac_rfl
  have nl:(nW n).length<=2:=by
   obtain rfl | rfl | rfl | rfl | rfl | rfl:n=1\/n=2\/n=3\/n=4\/n=5\/n=6:=by lia
   all_goals ac_rfl
  symm;refine⟨Hz,fun a ha=>?_⟩;have:=q a (.each n r) n (upd H a (.tup [.str (sW (PT.tx (.each n r))),.int n])) (Ax ha _) ⟨An,⟨sn,sr,n0,by lia⟩,trivial,(by rw[PT.tx_each];unfold qw;simp only[qr,PT.lv,PT.br];lia),(by show 1+0<=1;decide),jg6 _,n0,by lia,trivial⟩;rw[<-e] at this;exact this
 ·have m0:=zh (x/8) (show (6:Int)≠0 by decide);have m1:=qk (x/8) (show (0:Int)<6 by decide);have d0:=zh (x/48) (show (8:Int)≠0 by decide);have d1':=qk (x/48) (show (0:Int)<8 by decide);obtain⟨m,mm,em⟩:=rP (os:=moS) m0 m1;obtain⟨d,dm,ed⟩:=rP (os:=daS) d0 d1';obtain⟨mo,_,ml,_⟩:=pQ (jj4 daS mm);obtain⟨do',dz,dl,ds⟩:=pQ (vi moS dm);symm;refine Xw ?_;refine⟨(by show 6<=sizeLine;decide),fun l1 hl1=>?_⟩;refine fresh hl1 fun H1 s1 t1=>?_;rw[show ([Str.ofString "*",Str.ofString "1",Str.ofString "2",Str.ofString "3",Str.ofString "1",Str.ofString "2"]:List Str)=moS.map (fun o=>sW (Dw o)) by ac_rfl,kq] at t1;symm;exists BL (SqL.of t1) em ?_;refine Xw ?_;refine⟨(by show 8<=sizeLine;decide),fun l2 hl2=>?_⟩;refine fresh hl2 fun H2 s2 t2=>?_;rw[show ([Str.ofString "*",Str.ofString "1",Str.ofString "2",Str.ofString "3",Str.ofString "4",Str.ofString "-1",Str.ofString "-2",Str.ofString "-4"]:List Str)=daS.map (fun o=>sW (Dw o)) by ac_rfl,kq] at t2;symm;refine BL (SqL.of t2) ed ?_;have Z:=(Lg.s "date c ").ap (.w (Dw m) ml);symm;exists Z.go fun zz Z=>?_;have Z:=Z.aps " ";exists Z.go fun zz Z=>?_;have Z:=Z.ap (.w (Dw d) dl);refine Z.go fun zz Z=>?_;have e:=Z.eq (xN m d);have l1:(sg "date c ").length=7:=by ac_rfl
  have l2:(sg " ").length=1:=by ac_rfl
  symm;refine⟨Hz,fun a ha=>?_⟩;rw[e];exact q a (.date (sg "c") m d none) _ _ ((s1.trans s2).trans (Ax ha _)) ⟨An,⟨AAe,mo,do',(fun z hz=>nomatch hz),ACv mm,dz⟩,⟨rfl,rfl⟩,(by rw[<-xN];simp only[qr,PT.lv,PT.br];lia),(by show 1+0<=1;decide),dv,d1,by lia,by cases d with | none=>trivial | some i=>have:=ds i rfl;show -1000<i/\i<1000;lia⟩
theorem fL:C0 1 "_law_two" ["_law_word","_law_number_here","_law_one","_law_other"] yp:=by
 refine co' ["_law_word","_law_number_here","_law_one","_law_other","_law_some"] jZ fun nd H vs Q E hr h=>?_;obtain⟨i,k,p,r,rfl,W,pl,rl,q⟩:=h;have i1:=W.i1;have X:=Lg.w p.tx pl;have Y:=Lg.w r.tx rl;have K1:=Lg.n W.sk;have fin:∀{z:Str} {P:PT},J5 i k p r=P->z=sW P.tx->∀{H'},Av H H'->Q (.str z) H':=fun e f _ s=>by rw[f,<-e];exact q _ s
 refine ABR ⟨_,(Kq (bs (Ay (Ai Bl (pv 0) Ae (Am _))
  (Ad (Al (Af BJ (Af BJ Aj (pv 2)) Aj)))
  Ao))
  (Kq (bs (Ay (Ai Bl (pv 0) Ae (Am _))
   (Ad (Al (Af BJ (Af BJ (Af BJ (Af BJ Aj (BP Az rfl Cr qg (Aa (pv 1) Ac))) Aj) (pv 2)) Aj)))
   Ao))
  (Kq (bs (Ay (Ai Bl (pv 0) Ae (Am _))
   (Ad (Al (Af BJ (Af BJ (Af BJ (Af BJ (Af BJ (Af BJ Aj (BP Az rfl Cr qg (Aa (pv 1) Ac))) Aj) (pv 2)) Aj) (pv 3)) Aj)))
   Ao))
  (Kq (bs (Ay (Ai Bl (pv 0) Ae (Am _))
   (Ad (Al (Af BJ (Af BJ (Af BJ (Af BJ (Af BJ (Af BJ Aj (BP Az rfl Cr qg (Aa (BX Nk rfl fX jj0 (Aa (pv 1) Ac)) Ac))) Aj) (pv 2)) Aj) (BP Az rfl Cr qg (Aa (pv 1) Ac))) Aj)))
   Ao))
  (Kq (ABS (i:=4) nd rfl (by walk_at"o") (wg (ss:=["","and","or","but","unlike","","upon","until","near","till"]) (by rfl)))
  (wZ (bs (Al (Af BJ (Af BJ (Af BJ (Af BJ (Af BJ (Af BJ Aj (pv 2)) Aj) (Dy GR (pv 4) (pv 0) (fun _ _=>rfl))) Aj) (pv 3)) Aj))))))))),?_⟩
 symm;refine CK (fun c=>?_) (fun c=>?_)
 ·obtain rfl:i=0:=by have:=V.int.inj c;lia
  symm;have Z:=(Lg.s "(not ").ap X;exists Z.go fun zz Z=>?_;have Z:=Z.aps ")";refine Z.go fun zz Z=>?_;exact fin rfl (Z.eq (PT.tx_no _).symm) (Av.refl _)
 symm;refine CK (fun c5=>?_) (fun c5=>?_)
 ·obtain rfl:i=5:=by have:=V.int.inj c5;lia
  symm;refine⟨_,rfl,CQ W.sk,?_⟩;have Z:=(Lg.s "(").ap K1;exists Z.go fun zz Z=>?_;have Z:=Z.aps " later ";exists Z.go fun zz Z=>?_;have Z:=Z.ap X;exists Z.go fun zz Z=>?_;have Z:=Z.aps ")";refine Z.go fun zz Z=>?_;exact fin rfl (Z.eq (PT.tx_la _ _).symm) (Av.refl _)
 symm;refine CK (fun c10=>?_) (fun c10=>?_)
 ·obtain rfl:i=10:=by have:=V.int.inj c10;lia
  symm;refine⟨_,rfl,CQ W.sk,?_⟩;have Z:=(Lg.s "(").ap K1;exists Z.go fun zz Z=>?_;have Z:=Z.aps " of ";exists Z.go fun zz Z=>?_;have Z:=Z.ap X;exists Z.go fun zz Z=>?_;have Z:=Z.aps " from ";exists Z.go fun zz Z=>?_;have Z:=Z.ap Y;exists Z.go fun zz Z=>?_;have Z:=Z.aps ")";refine Z.go fun zz Z=>?_;exact fin rfl (Z.eq (PT.tx_nt _ _ _).symm) (Av.refl _)
 symm;refine CK (fun c11=>?_) (fun c11=>?_)
 ·obtain rfl:i=11:=by have:=V.int.inj c11;lia
  have k3:=W.k3 (by decide) (by decide);have sk:Sm (k.natAbs:Int):=Jx (by lia) (by lia);symm;refine⟨_,rfl,?_⟩;rw[show (if k<0 then -k else k)=(k.natAbs:Int) by split<;>lia];symm;refine⟨_,rfl,CQ sk,?_⟩;have Z:=(Lg.s "(every ").ap (.n sk);exists Z.go fun zz Z=>?_;have Z:=Z.aps " of ";exists Z.go fun zz Z=>?_;have Z:=Z.ap X;exists Z.go fun zz Z=>?_;have Z:=Z.aps " from ";exists Z.go fun zz Z=>?_;refine⟨_,rfl,CQ W.sk,?_⟩;have Z:=Z.ap K1;exists Z.go fun zz Z=>?_;have Z:=Z.aps ")";refine Z.go fun zz Z=>?_;exact fin rfl (Z.eq (mq _ _ _).symm) (Av.refl _)
 obtain⟨eP,ea⟩:=ACn (k:=k) (p:=p) (q:=r) i1 (fun z=>c (by rw[z];rfl)) (fun z=>c5 (by rw[z];rfl)) (fun z=>c10 (by rw[z];rfl)) (fun z=>c11 (by rw[z];rfl));have wl:(sg (pkI i).s).length<=30:=by cases pkI i<;>ac_rfl
 symm;refine Xw ?_;refine⟨(by show 10<=sizeLine;decide),fun l hl=>?_⟩;refine fresh hl fun H1 s1 t1=>?_;have t1:H1 l=some (.lst (soS.map V.str)):=t1;symm;have Z:=(Lg.s "(").ap X;exists Z.go fun zz Z=>?_;have Z:=Z.aps " ";exists Z.go fun zz Z=>?_;refine BL (SqL.of t1) ea ?_;have Z:=Z.aps (pkI i).s wl;exists Z.go fun zz Z=>?_;have Z:=Z.aps " ";exists Z.go fun zz Z=>?_;have Z:=Z.ap Y;exists Z.go fun zz Z=>?_;have Z:=Z.aps ")";refine Z.go fun zz Z=>?_;exact fin eP (Z.eq (mj _ _ _).symm) s1
theorem ak:C0 2 "_law_rule" ["_law_cells","_law_days_here"] (jK K):=by
 refine co' ["_law_cells","_law_days_here","_law_found","_law_size","_law_cell","_law_word","_law_number_here","_law_other","_law_more","_law_whole"] cI fun nd H vs Q E hr h=>?_;obtain⟨l,c0,cs,g,rfl,hl,cl,og,q⟩:=h;obtain⟨sm,dv,d1,d64⟩:=og.cy;refine⟨_,(Ab (Ox (Ag QR (Aa (pxL 0) (Aa (pv 1) Ac))) (X5 rfl (FP (Cm (i:=2) nd rfl (by walk_at"o")) (FP (Cm (i:=3) nd rfl (by walk_at"o")) Kz))))
  (Ab (Ir PassesOwn.never rfl (Fe (Ck FJ (pv 0) (DN Ae) Ed)) (Cm (i:=4) nd rfl (by walk_at"o"))
   (Ab (Ah 5 (Af Br (pv 4) Ae))
  (Ab (Ah 6 (Dy GR (FQ (Aa (GZ Ei Ae) (Aa (GZ Ei Ae) (Aa (GZ Ei Ae) (Aa Ae (Aa Ae (Aa Ae Ac))))))) (Af Br (Af Bg (pv 4) Ae) Ae) (fun _ _=>rfl)))
  (Ab (Ox (Ag QR (Aa (Af Bg (pv 4) Ae) (Aa (pv 1) Ac))) (X5 rfl (FP (Cm (i:=7) nd rfl (by walk_at"o")) (FP (Cm (i:=8) nd rfl (by walk_at"o")) Kz))))
  (Ab (Ah 9 (Ag Vu (Aa (pv 3) (Aa (pv 8) Ac))))
  (Ab (Ej (Ay (Ai Bl (pv 5) Ae (Am _))
   (Ad (Ah 9 (Af CP (pv 3) (BX Nk rfl fX jj0 (Aa (pv 6) Ac)))))
   Ao))
  (Ad (Ej (Ay (Ai JH (pv 9) Ae (Am _))
   (Ab (Ah 2 (Ag fL (Aa (pv 5) (Aa (pv 6) (Aa (pv 2) (Aa (pv 7) Ac))))))
  (Ad (Ah 3 (pv 9))))
   Ao)))))))))
  (Ad (Al (pv 2))))),?_⟩
 symm;exists BL hl DQ ?_;refine⟨c0,g,rfl,og,fun a p z H2 s2 N=>?_⟩;exists Xy (SqT.of N.1) rfl ?_;exists Te (JF ?_);refine Ga (s2.seq hl) fun u hu=>?_;rw[show Hu ((c0::cs).map V.int) (some 1) none=cs.map V.int from G6 _ 1];refine fresh hu fun H3 s3 t3=>?_;refine⟨u,rfl,⟨_,SqL.of t3⟩,JM (xs:=cs.map V.int) (fun i Z' H'=>An3 (Av H3 H') (i<=cs.length) (Ex8 fun(p:PT) (z:Int) (v4 v5 v6 v7 v8 v9:Option V)=>NP g p z (1+2*i)/\Z'=[some (.ref l),some (.int (dyC g)),some (.str (sW p.tx)),some (.int z),v4,v5,v6,v7,v8,v9])) ⟨Av.refl _,vj _,p,z,_,_,_,_,_,_,N.2,rfl⟩ ?_ ?_ ?_⟩
 ·rintro i Z' H' _ ⟨s,_⟩;exact SqL.of (s _ _ t3)
 ·rintro i v Z' H' hv ⟨sH,il,p,z,v4,v5,v6,v7,v8,v9,N,rfl⟩;rw[zo] at hv;obtain⟨c,hc,rfl⟩:=xz.mp hv;have ilt:=(zn.mp hc).1;have w0:=zh c (show (12:Int)≠0 by decide);have w1:=qk c (show (0:Int)<12 by decide);obtain⟨k,k3,ek⟩:=ABU (c/12);symm;obtain⟨w,hw⟩:∃w:Nat,c%12=(w:Int):=⟨(c%12).toNat,by lia⟩;rw[hw];refine⟨(by show 6<=sizeLine;decide),fun ll hll=>?_⟩;refine fresh hll fun H4 s4 t4=>?_;have t4:H4 ll=some (.lst (k6.map V.int)):=t4;symm;exists BL (SqL.of t4) ek ?_;refine⟨c/72,g,rfl,og,fun a' p' z' H5 s5 N'=>?_⟩;refine Xy (SqT.of N'.1) rfl ?_;have M':=N'.2;have sk:Sm k:=Jx (by lia) (by lia);have W:WdK w k:=⟨by lia,sk,fun _ _=>k3⟩;have zb:=N.z1;have s45:=s4.trans s5;symm;exists⟨z,z',rfl,N.z0,N.z1,M'.z0,M'.z1,?_⟩;refine EY (fun Z' H'=>H'=H5/\∃y:Int,An3 (w≠11->y=Ci z z') (w=11->y=z*(k.natAbs:Int)) (Z'=[some (.ref l),some (.int (dyC g)),some (.str (sW p.tx)),some (.int z),some (.int c),some (.int (w:Int)),some (.int k),some (.str (sW p'.tx)),some (.int z'),some (.int y)])) ?_ ?_
  ·symm;refine CK (fun e=>?_) (fun e=>?_)
   ·symm;refine⟨_,rfl,?_⟩;rw[show (if k<0 then -k else k)=(k.natAbs:Int) by split<;>lia];have z0:=N.z0;exists Ja ?_;exact⟨rfl,_,fun z=>absurd (by have:=V.int.inj e;lia) z,fun _=>rfl,rfl⟩
   ·symm;exact⟨rfl,_,fun _=>rfl,fun z=>absurd (by rw[z];rfl) e,rfl⟩
  rintro Z' H6 ⟨rfl,y,y1,y2,rfl⟩;have next:Av H3 H6:=sH.trans s45
  symm;exists EY (fun Z' H'=>An3 (Av H3 H') (i+1<=cs.length) (Ex8 fun(p:PT) (z:Int) (v4 v5 v6 v7 v8 v9:Option V)=>NP g p z (1+2*(i+1))/\Z'=[some (.ref l),some (.int (dyC g)),some (.str (sW p.tx)),some (.int z),v4,v5,v6,v7,v8,v9])) ?_ (fun _ _ h=>h);refine CK (fun e=>?_) (fun e=>?_)
  ·symm;have t1':=N.tl;have t2':=M'.tl;have m1':=N.mn;have m2':=M'.mn;have cl':cs.length<=3:=cl;exists⟨w,k,p,p',rfl,W,by lia,by lia,fun H7 s7=>?_⟩;refine⟨next.trans s7,by lia,_,y,_,_,_,_,_,_,?_,rfl⟩
   have:=NP.two sm N M' W y1 y2 e
   rwa [show 1+2*i+1+1=1+2*(i+1) by lia] at this
  ·symm;exact⟨next,by lia,p,z,_,_,_,_,_,_,⟨N.ok,N.kn,N.tl,zw N.mn (by lia),N.sz,N.z0,N.z1,N.ds⟩,rfl⟩
 ·rintro Z' H' ⟨sH,_,p,z,v4,v5,v6,v7,v8,v9,N,rfl⟩;symm;refine q p z _ (s2.trans (s3.trans sH)) ⟨N.ok,N.kn,N.tl,zw N.mn ?_,N.sz,N.z0,N.z1,N.ds⟩;rw[js];lia
theorem HF:C0 135 "_law_number" ["_law_desk","_law_row"] (zG K ⟨DX,Bd,BR,Ak,Ba,CL⟩):=by
 refine co' ["_law_desk","_law_row","_law_found"] Xj fun nd H vs Q E hr h=>?_;obtain⟨x,R,g,n,b,rfl,A,ok,iR,sm,q⟩:=h;obtain⟨⟨j,m,dk,jl,em⟩,og,st,n0,n1⟩:=id A;obtain⟨dx,_,_,_,hx,_⟩:=id dk.ex;refine⟨_,(Ab (Ah 2 (CZ G8 DR (pv 0) (Aa (pv 1) Ac)))
  (Ab (Ay (Ai Bl (pv 2) Aj (Am _))
   (Ad (Al GF))
   Ao)
  (Ad (Al (BP Dz rfl Mh Zp (Aa (pv 2) Ac)))))),?_⟩
 symm;exists⟨x,dx,_,rfl,hx,rfl,?_⟩;have nv:∀{H1:Hp} {Q':VK},Av H H1->(∀o H',Av H H'->sE (n:Int) b R o->Q' (oI o) H')->True:=fun _ _=>trivial;have go:∀{vs:List V} {Q':VK} {E':XK},vs=[V.ref x,V.str (sW R.T)]->((∀e,On (n:Int) b e=false)->sE (n:Int) b R none->∀H',Av H H'->Q' (.str "never") H')->(∀r H',Av H H'->sE (n:Int) b R (some r)->Q' (.str (sW (nW r))) H')->xY K ⟨DX,Bd,BR,Ak,Ba,CL⟩ vs H Q' E':=fun ev h1 h2=>by
  cases iR with
  | next=>exact⟨x,some g,j,m,_,ev,ok,dk,jl,n,b,em,fun no=>h1 no no,h2⟩
  | last=>exact⟨x,some g,j,m,_,ev,ok,dk,jl,n,b,em,fun no=>h1 no no,h2⟩
  | nth k0=>exact⟨x,some g,j,m,_,ev,ok,dk,jl,n,b,em,k0,fun no=>h1 no ⟨k0,no⟩,fun r H' s' N=>h2 r H' s' ⟨k0,N⟩⟩
  | count=>exact⟨x,some g,j,m,_,ev,ok,dk,jl,n,b,em,fun H' s'=>h2 _ H' s' rfl⟩
 refine go rfl (fun _ no H1 s1=>?_) (fun r H1 s1 N=>?_)
 ·symm;exists Gg rfl ?_;exact q none _ s1 no
 ·have sr:=sm r N;symm;exists CJ (fun z=>vW sr (V.str.inj z)) ?_;exact⟨_,_,rfl,(KZ sr).1,(KZ sr).2,q (some r) _ s1 N⟩
theorem Et:C0 136 "_law_count" ["_law_desk","_law_first","_law_end"] (zW K ⟨DX,Bd,BR,Ak,Ba,CL⟩):=by
 refine co' ["_law_desk","_law_first","_law_end"] Zh fun nd H vs Q E hr h=>?_;obtain⟨x,d,e,g,n,b,rfl,A,sd,se,sx,q⟩:=h;have n0:=A.n0;exists⟨_,(Ad (Al (Ag HF (Aa (pv 0) (Aa (Af BJ (Af BJ (Af BJ Aj (BP Az rfl Cr qg (Aa (pv 1) Ac))) Aj) (BP Az rfl Cr qg (Aa (pv 2) Ac))) Ac))))),?_⟩;refine⟨_,rfl,CQ sd,?_⟩;have Z:=(Lg.s "count r ").ap (.n sd);exists Z.go fun zz Z=>?_;have Z:=Z.aps " ";exists Z.go fun zz Z=>?_;refine⟨_,rfl,CQ se,?_⟩;have Z:=Z.ap (.n se);exists Z.go fun zz Z=>?_;refine⟨x,_,g,n,b,xk (fun z=>[V.ref x,V.str z]) (Z.eq (AEe d e).symm),A,Xr dM sd se,.count,fun r h=>?_,fun o H1 s1 h=>?_⟩
 ·cases h;exact yk (tE (by lia) d e) sx
 ·cases h;exact q _ s1
theorem Hw:C0 135 "_law_on" ["_law_desk","_law_day"] (ACH K ⟨DX,Bd,BR,Ak,Ba,CL⟩):=by
 refine co' ["_law_desk","_law_day"] oV fun nd H vs Q E hr h=>?_;obtain⟨x,d,g,n,b,rfl,A,sd,q⟩:=h;obtain⟨⟨j,m,dk,jl,em⟩,og,st,n0,n1⟩:=id A;obtain⟨dx,_,_,_,hx,_⟩:=id dk.ex;exists⟨_,(Ad (Al (Ef Bl (CZ G8 DR (pv 0) (Aa (Af BJ Aj (BP Az rfl Cr qg (Aa (pv 1) Ac))) Ac)) Aj (Am _)))),?_⟩;exists⟨x,dx,_,rfl,hx,rfl,?_⟩;refine⟨_,rfl,CQ sd,?_⟩;have Z:=(Lg.s "on r ").ap (.n sd);refine Z.go fun zz Z=>?_;have e:=Z.eq (AEZ d).symm;clear Z;symm;exists⟨x,some g,j,m,_,xk (fun z=>[V.ref x,V.str z]) e,Xu dM sd,dk,jl,n,b,em,fun H1 s1=>?_⟩;cases hb:On (n:Int) b d with
 | true=>
  rw[hb] at q;exact q _ s1
 | false=>
  rw[hb] at q;exact q _ s1
theorem Kl:C0 135 "_law_date" ["_law_desk","_law_day"] (ud K ⟨DX,Bd,BR,Ak,Ba,CL⟩):=by
 refine co' ["_law_desk","_law_day"] cN fun nd H vs Q E hr h=>?_;obtain⟨x,d,g,n,b,rfl,A,zd,q⟩:=h;obtain⟨⟨j,m,dk,jl,em⟩,og,st,n0,n1⟩:=id A;obtain⟨dx,_,_,_,hx,_⟩:=id dk.ex;have sd:Sm d:=zd.sm (by lia) (by lia);exists⟨_,(Ad (Al (El rfl (GK ["_law_desk","_law_day"] rfl (by ac_rfl) rfl (by ac_rfl) rfl (by ac_rfl) (by ac_rfl)) (Fe (Ge yy ja7 ja8 JK (CZ G8 DR (pv 0) (Aa (Af BJ Aj (BP Az rfl Cr qg (Aa (pv 1) Ac))) Ac)) (Aa Aj Ac))) (fun _ _ _ _=>Dq) (fun _ _ _ _=>(BP Dz rfl Mh Zp (Aa (pv 0) Ac)))))),?_⟩;exists Fb (JF ?_);exists Ii ?_;exists⟨x,dx,_,rfl,hx,rfl,?_⟩;refine⟨_,rfl,CQ sd,?_⟩;have Z:=(Lg.s "date c ").ap (.n sd);refine Z.go fun zz Z=>?_;have e:=Z.eq (AEc d).symm;clear Z;symm;refine⟨x,some g,j,m,_,xk (fun z=>[V.ref x,V.str z]) e,wK sd,dk,jl,g,rfl,og,fun y mo r H1 s1 I D _=>?_⟩;have sy:=tH og.good st zd I D;have fw:=I.few og.good;have q:=fun l H' a b c=>q l y mo r H' a b c I D;have m0:=I.m0;have r0:=I.r0;clear I D;obtain⟨m',rfl⟩:∃m':Nat,mo=(m':Int):=⟨mo.toNat,by lia⟩;obtain⟨r',rfl⟩:∃r':Nat,r=(r':Int):=⟨r.toNat,by lia⟩;have tm:=RL m' (by lia);have tr:=RL r' (by lia);have yl:=Ft sy;exists⟨rfl,?_⟩;rw[xi,xi];refine⟨_,47,rfl,by rw[show Str.ofString "/"=⟨#[47]⟩ from by ac_rfl],by decide,by rw[Cp];unfold Nh;simp only[qr,qm];lia,fun l hl=>?_⟩;rw[eO sy (by lia) (by lia)];obtain⟨ps,hps⟩:∃ps,[(nW y,y),(J4 m',(m':Int)),(J4 r',(r':Int))]=ps:=⟨_,rfl⟩;have pk:∀p∈ps,(sW p.1).length<=640/\PySem.intText? (sW p.1)=some p.2:=fun p hp=>by
  rw[<-hps] at hp;simp only[qv,yi,or_false] at hp;rcases hp with rfl | rfl | rfl
  ·exact KZ sy
  ·exact⟨by show(sW (J4 m')).length<=640;rw[Cp];lia,tm.1⟩
  ·exact⟨by show(sW (J4 r')).length<=640;rw[Cp];lia,tr.1⟩
 have q:=fun l H' a b (c:H' l=some (.lst (ps.map fun p=>V.int p.2)))=>q l H' a b (by rw[<-hps] at c;exact c);have pl:ps.length=3:=by rw[<-hps];rfl
 rw[hps];refine fresh hl fun H2 s2 t2=>?_;refine⟨l,rfl,⟨_,SqL.of t2⟩,?_⟩;refine Gh JS (by rw[js];exact Cw (by lia)) (fun D i ys H3=>H3 D=some (.lst ys)/\Av H2 H3/\ys=(ps.take i).map fun p=>V.int p.2) (fun D hD=>⟨An,Ax hD _,rfl⟩)
  (fun D i ys H3 _ ⟨h1,h2,h3⟩=>⟨h1,by rw[h3,js];exact jc5 _ _,SqL.of (h2 _ _ t2)⟩) (fun D i v ys H3 hD hx ⟨h1,h2,h3⟩=>?_) (fun D ys H3 hD ⟨h1,h2,h3⟩=>?_)
 ·rw[zo] at hx;obtain⟨p,hp,rfl⟩:=xz.mp hx;have k:=pk p (zv hp);exists Gu (FT ?_);refine⟨_,_,rfl,k.1,k.2,h1,An,Ek hD h2,?_⟩;rw[vk,hp,kx,uk,h3];rfl
 ·rw[js,Qr] at h3;subst h3;exact q D H3 (s1.free (s2.free hD)) ((s1.trans s2).trans h2) h1
theorem Uw:C0 136 "_law_by_text" ["_law_desk","_law_words","_law_day"] (ACY K ⟨DX,Bd,BR,Ak,Ba,CL⟩):=by
 refine co' ["_law_desk","_law_words","_law_day","_law_date_here","_law_behind"] Vg fun nd H vs Q E hr h=>?_;obtain⟨x,l,p,d,g,bc,rfl,hl,br,ok,kn,ds,A,R,zd,q⟩:=h;have og:=A.og;obtain⟨sm,_⟩:=id og.cy;have sd:Sm d:=zd.sm (by lia) (by lia);refine⟨_,(Ab (Ay (Ai Bl (pxL 1) Aj (Am _))
  (Ad (Al (Ef Bl (Af Br (Af CG (pv 2) (BP Dz rfl Mh Zp (Aa (pxL 1) Ac))) (BP Dz rfl Mh Zp (Aa (pxL 1) Ac))) Ae (Am _))))
  Ao)
  (Ab (Ay (Ai GJ (pxL 1) Aj (Am _))
   (Ad (Al (Ef Bl (pxL 1) Aj (Am _))))
   Ao)
  (Ab (Ah 3 (Ag Kl (Aa (pv 0) (Aa (pv 2) Ac))))
  (Ab (Ay (Ai M8 (pxL 1) (FQ (Aa Aj (Aa (BP Az rfl Cr qg (Aa (pxL 3) Ac)) Ac))) (by rfl))
   (Ad (Al Jz))
   Ao)
  (Ab (Ay (PW.pt (Gv (Ai Bl (pxL 1) Aj (Am _)) (Fp (Ai Bl (pxL 1) (BP Az rfl Cr qg (Aa (pxL 3) Ac)) (Am _)))))
   (Ad (Al Jz))
   Ao)
  (Ab (Ay (Ai Fq (BP Dz rfl Mh Zp (Aa (pxL 1) Ac)) Ae (Am _))
   (Ad (Al Jz))
   Ao)
  (Ab (Ah 4 (Af CG (pv 2) (BP Dz rfl Mh Zp (Aa (pxL 1) Ac))))
  (Ad (Al (Jd (Ef (AAa hr.units) (Ck FJ (Ag Kl (Aa (pv 0) (Aa (Af CG (pv 4) Ae) Ac))) Ed (DN Ae)) (Ck FJ (pv 3) Ed (DN Ae)) (Am _)) (MJ (Ef Bl (Dy GR (Ag Kl (Aa (pv 0) (Aa (pv 4) Ac))) Ae (fun _ _=>rfl)) Ae (Am _))))))))))))),?_⟩
 symm;cases p with
 | lf b=>
  have e:bc=if b then 1 else 0:=R;have on:On (PT.sz g (.lf b)) bc d=b:=by
   rw[e,show PT.sz g (.lf b)=1 from rfl];unfold On;rw[Int.emod_one];cases b<;>rfl
  exists BL (SqL.of hl) DQ ?_;refine CJ (Pk (by cases b<;>ac_rfl)) ?_;symm;exists BL (SqL.of hl) DQ ?_;refine Z8 (Pk (by cases b<;>ac_rfl)) ?_;symm;exists BL (SqL.of hl) DQ ?_;refine q _ _ (Av.refl _) ?_;rw[on];cases b<;>ac_rfl
 | each n r=>
  have R:RB n [r] bc:=R;obtain⟨sn,sr,n0,_⟩:=ok;exists BL (SqL.of hl) DQ ?_;exists Gg (Gy _) ?_;exists BL (SqL.of hl) Yn ?_;exists⟨_,_,rfl,(KZ sr).1,(KZ sr).2,?_⟩;exists BL (SqL.of hl) JB ?_;exists⟨_,_,rfl,(KZ sn).1,(KZ sn).2,?_⟩;refine q _ _ (Av.refl _) ?_;rw[show PT.sz g (.each n r)=n from rfl,R.bit];unfold hit;rw[jf4,List.any_nil,jk4,decide_eq_true_eq,decide_eq_true_eq];exact⟨V.int.inj,xk V.int⟩
 | date nm m i y=>
  obtain⟨rfl,rfl⟩:nm=sg "c"/\y=none:=kn;obtain⟨_,om,oi,_,_,i0⟩:=ok;have R:RB g.cy.2 (dtL g m i g.cy.1.toNat) bc:=R;have hl:H l=some (.lst [.str (sW (sg "date")),.str (sW (sg "c")),.str (sW (Dw m)),.str (sW (Dw i))]):=hl;have q:∀{y mo r:Int},IsD g y mo r->Cz g y mo r=d->∀(v:Bool) H',Av H H'->(v=true<->Wan g m i y mo r)->Q (.bl v) H':=fun I D v H' s e=>q v H' s (e.trans (wX og.good sm.y0 R I D).symm);exists BL (SqL.of hl) DQ ?_;exists CJ (Pk (by ac_rfl)) ?_;exists BL (SqL.of hl) DQ ?_;exists Gf (Gy _) ?_;have zz:∀e:Int,d-2000<=e->e<=d+2000->Zd e:=fun e h1 h2=>by
   unfold Zw at zd;unfold Zd;lia
  refine⟨x,d,g,_,_,rfl,A,zz _ (by lia) (by lia),fun l1 y mo r H1 _ s1 t1 I D=>?_⟩;have q:=q I D;have fw:=I.few og.good;have m0:=I.m0;have r0:=I.r0;have smo:Sm mo:=Jx (by lia) (by lia);have srr:Sm r:=Jx (by lia) (by lia);have A:=A.same s1;have hl:=s1 _ _ hl;symm;exists BL (SqL.of hl) N5 ?_;exists BL (SqL.of t1) JB ?_;refine⟨_,rfl,CQ smo,?_⟩;refine⟨(by show 2<=sizeLine;decide),fun l2 hl2=>?_⟩;refine fresh hl2 fun H2 s2 t2=>?_;have A:=A.same s2;have hl:=s2 _ _ hl;have t1:=s2 _ _ t1;have s12:=s1.trans s2;refine⟨l2,_,rfl,.inl (SqL.of t2),rfl,rfl,?_⟩;have im:inV (V.str (sW (Dw m))) [V.str (Str.ofString "*"),V.str (Str.ofString (toString mo))]=true<->_:=vq om smo;generalize inV (V.str (sW (Dw m))) _=b at im ⊢;cases b with
  | false=>
   exists⟨true,rfl,FT ?_⟩;exact q _ _ s12 ⟨fun z=>(nomatch z),fun z=>im.mpr z.1⟩
  | true=>
  have im:=im.mp rfl;exists⟨_,rfl,En ?_⟩;exists BL (SqL.of hl) Yn ?_;refine CK (fun c=>FT ?_) (fun c=>?_)
  ·symm;exact q _ _ s12 ⟨fun _=>⟨im,.inl ((XF oi).mp c)⟩,fun _=>rfl⟩
  rw[XF oi] at c;symm;exists BL (SqL.of hl) Yn ?_;exists BL (SqL.of t1) N5 ?_;exists⟨_,rfl,CQ srr,?_⟩;refine CK (fun c=>?_) (fun c'=>?_)
  ·symm;exact q _ _ s12 ⟨fun _=>⟨im,.inr (.inl ((XH oi srr).mp c))⟩,fun _=>rfl⟩
  obtain⟨k,rfl⟩:=Option.ne_none_iff_exists'.mp c;have c':¬some k=some r:=fun z=>c' ((XH oi srr).mpr z);have sk:=oi k rfl;have ds: -1000<k/\k<1000:=ds;have kr:k≠r:=fun z=>c' (xk some z);have k0:k≠0:=fun z=>i0 (xk some z);have wan:Wan g m (some k) y mo r<->k=r-(g.L y).getD (mo-1).toNat 0-1:=⟨fun z=>(z.2.resolve_left (fun z=>nomatch z)).elim (fun z=>absurd z c') yv,fun z=>⟨im,.inr (.inr (xk some z))⟩⟩;symm;exists BL (SqL.of hl) Yn ?_;exists⟨_,_,rfl,(KZ sk).1,(KZ sk).2,?_⟩;refine CK (fun kp=>?_) (fun kp=>?_)
  ·symm;exact q _ _ s12 ⟨fun z=>(nomatch z),fun z=>by have:=wan.mp z;have:=I.r1;lia⟩
  symm;exists BL (SqL.of hl) Yn ?_;exists⟨_,_,rfl,(KZ sk).1,(KZ sk).2,?_⟩;refine⟨x,d-k-1,g,_,_,rfl,A,zz _ (by lia) (by lia),fun l3 y1 m1 r1 H3 _ s3 t3 I1 D1=>?_⟩;have t1:=s3 _ _ t1;symm;refine Ga (SqL.of t3) fun l4 hl4=>?_;refine fresh hl4 fun H4 s4 t4=>?_;have t1:=s4 _ _ t1;symm;refine Ga (SqL.of t1) fun l5 hl5=>?_;refine fresh hl5 fun H5 s5 t5=>?_;have s15:=s12.trans (s3.trans (s4.trans s5));have A:=A.same (s3.trans (s4.trans s5));have t4:H5 l4=some (.lst ([y1,m1].map V.int)):=s5 _ _ t4;have t5:H5 l5=some (.lst ([y,mo].map V.int)):=t5;symm;refine z9 (SqL.of t4) (SqL.of t5) ?_;by_cases c2:[y1,m1]=[y,mo]
  ·obtain rfl:=jk9 c2;obtain rfl:=jk9 (List.tail_eq_of_cons_eq c2);rw[decide_eq_true c2];symm;exists FT ?_;exists⟨x,d-k,g,_,_,rfl,A,zz _ (by lia) (by lia),fun l6 y2 m2 r2 H6 _ s6 t6 I2 D2=>?_⟩;exists BL (SqL.of t6) N5 ?_;refine q _ _ (s15.trans s6) ?_;rw[decide_eq_true_eq,wan,<-ABP og.good (k:=k) (by lia) I I1 I2 (by rw[D1,D]) (by rw[D2,D])];exact⟨V.int.inj,xk V.int⟩
  ·rw[decide_eq_false c2];symm;exists En ?_;refine q _ _ s15 ⟨fun z=>(nomatch z),fun z=>absurd ?_ c2⟩;obtain⟨e1,e2,_⟩:=wW og.good (k:=k) (by lia) I I1 (by rw[D1,D]) (wan.mp z);rw[e1,e2]
 | _=>exact absurd br (Nat.succ_ne_zero _)
theorem aq:C0 2 "_law_days" ["_law_script"] (uY K):=by
 refine co' ["_law_script","_law_days_here"] cM fun nd H vs Q E hr h=>?_;obtain⟨a,ns,rfl,hS,h63,q⟩:=h;refine⟨_,(Ab (Ah 1 (El rfl (Dv ["_law_script","_law_days_here"] ["_law_script","_law_days_here"] rfl rfl (by with_unfolding_all rfl) (by ac_rfl) rfl (by ac_rfl) rfl (by ac_rfl) (by walk_at"fm") (by with_unfolding_all rfl) (by with_unfolding_all rfl)) (Fe (FQ (Aa Ae (Aa Ae (Aa Ae Ac))))) (fun _ _ _ _=>Dq) (fun _ _ _ _=>(Af CG (Af Br (Ag Cg (Aa (pv 1) (Aa (pv 0) Ac))) (Af O4 Ae Ae)) (Af O4 Ae Ae)))))
  (Ab (Ej (Ay (Ai Bl (Af Br (Af Bg (Ag Cg (Aa (pv 0) (Aa Ae Ac))) Ae) Ae) Ae (Am _))
   (Ad (Ah 1 (FQ (Aa (pxL 1) (Aa (Af CG (Af Bb (pxL 1) (Af Br (pxL 1) Ae)) Ae) (Aa (Af CG (Af Bb (pxL 1) (Af Br (pxL 1) Ae)) Ae) Ac))))))
   Ao))
  (Ab (Ej (Ay (Ai Bl (Af Br (Af Bg (Ag Cg (Aa (pv 0) (Aa Ae Ac))) Ae) Ae) Ae (Am _))
   (Ad (Ah 1 (El rfl (Dv ["_law_script","_law_days_here"] ["_law_script","_law_days_here"] rfl rfl (by with_unfolding_all rfl) (by ac_rfl) rfl (by ac_rfl) rfl (by ac_rfl) (by walk_at"fm") (by with_unfolding_all rfl) (by with_unfolding_all rfl)) (Fe (pv 1)) (fun _ _ _ _=>Dq) (fun _ _ _ _=>(Af CG (Af Bb (Af CG (pv 0) (Dy PB (pv 2) Ae)) (Af Br (Dy PB (pv 2) Ae) Ae)) Ae)))))
   Ao))
  (Ad (Al (pv 1)))))),?_⟩
 symm;exists Fb (JF ?_);refine⟨(by show 3<=sizeLine;decide),fun l0 hl0=>?_⟩;refine fresh hl0 fun H1 s1 t1=>?_;have t1:H1 l0=some (.lst (([3,4,5]:List Int).map V.int)):=t1;refine⟨l0,rfl,⟨_,SqL.of t1⟩,?_⟩;refine Gh JS (by rw[js];exact Cw (by decide)) (fun D i ys H3=>H3 D=some (.lst ys)/\Av H1 H3/\ys=(([3,4,5]:List Int).take i).map fun k=>V.int (ns.getD k.toNat 0%10000000000000000000000000000000000000000-1000000000000000000000000000000000000000)) (fun D hD=>⟨An,Ax hD _,rfl⟩)
  (fun D i ys H3 _ ⟨h1,h2,h3⟩=>⟨h1,by rw[h3,js];exact jc5 _ _,SqL.of (h2 _ _ t1)⟩) (fun D i v ys H3 hD hx ⟨h1,h2,h3⟩=>?_) (fun D ys H3 hD ⟨h1,h2,h3⟩=>?_)
 ·rw[zo] at hx;obtain⟨k,hk,rfl⟩:=xz.mp hx;have hS3:=(s1.trans h2).seq hS;have k0:0<=k:=by
   have:=zv hk;simp only[qv,yi,or_false] at this;lia
  exists Gu (FT ?_);exists⟨a,ns,k,rfl,hS3,k0,h63,?_⟩;rw[p40,p39];refine⟨h1,An,Ek hD h2,?_⟩;rw[vk,hk,kx,uk,h3];rfl
 rw[js,Qr] at h3;subst h3;have big:∀k:Int,-1000000000000000000000000000000000001000<=ns.getD k.toNat 0%10000000000000000000000000000000000000000-1000000000000000000000000000000000000000/\ns.getD k.toNat 0%10000000000000000000000000000000000000000-1000000000000000000000000000000000000000<=9000000000000000000000000000000000001000:=fun k=>by lia
 have b3:=big 3;have b4:=big 4;have b5:=big 5;have h1:H3 D=some (.lst [.int (ns.getD (3:Int).toNat 0%10000000000000000000000000000000000000000-1000000000000000000000000000000000000000),.int (ns.getD (4:Int).toNat 0%10000000000000000000000000000000000000000-1000000000000000000000000000000000000000),.int (ns.getD (5:Int).toNat 0%10000000000000000000000000000000000000000-1000000000000000000000000000000000000000)]):=h1;have s03:=s1.trans h2;have hS3:=s03.seq hS;generalize ns.getD (3:Int).toNat 0%10000000000000000000000000000000000000000-1000000000000000000000000000000000000000=d at h1 b3;generalize ns.getD (4:Int).toNat 0%10000000000000000000000000000000000000000-1000000000000000000000000000000000000000=e at h1 b4;generalize ns.getD (5:Int).toNat 0%10000000000000000000000000000000000000000-1000000000000000000000000000000000000000=f at h1 b5;clear big;symm;refine EY (fun Z' H'=>Av H3 H'/\Ex3 fun(l:Addr) (e f:Int)=>An4 (H' l=some (.lst [.int d,.int e,.int f])) ( -1000000000000000000000000000000000002000<=e/\e<=9000000000000000000000000000000000002000) ( -1000000000000000000000000000000000002000<=f/\f<=9000000000000000000000000000000000002000) (Z'=[some (.ref a),some (.ref l)])) ?_ ?_
 ·symm;refine CK (fun _=>?_) (fun _=>?_)
  ·symm;exists BL (SqL.of h1) DQ ?_;exists BL (SqL.of h1) DQ ?_;exists BL (SqL.of h1) JB ?_;exists BL (SqL.of h1) DQ ?_;exists BL (SqL.of h1) N5 ?_;refine⟨(by show 3<=sizeLine;decide),fun l4 hl4=>?_⟩;exists fresh hl4 fun H4 s4 t4=>?_;exact⟨s4,l4,_,_,t4,by lia,by lia,rfl⟩
  ·symm;exact⟨Av.refl _,D,e,f,h1,by lia,by lia,rfl⟩
 clear b4 b5 h1;rintro Z' H4 ⟨s4,l,e,f,h1,b4,b5,rfl⟩;have s04:=s03.trans s4;have hS4:=s04.seq hS;symm;refine EY (fun Z' H'=>Av H4 H'/\Ex4 fun(l:Addr) (d e f:Int)=>An5 (H' l=some (.lst [.int d,.int e,.int f])) (Zw d) (Zw e) (Zw f) (Z'=[some (.ref a),some (.ref l)])) ?_ ?_
 ·symm;refine CK (fun _=>?_) (fun _=>?_)
  ·symm;exists Fb (JF ?_);have h1:H4 l=some (.lst ([d,e,f].map V.int)):=h1;refine⟨l,rfl,⟨_,SqL.of h1⟩,?_⟩;refine Gh JS (by rw[js];exact Cw (by show 3<=1000;decide)) (fun D i ys H3=>H3 D=some (.lst ys)/\Av H4 H3/\ys=([d,e,f].take i).map fun k=>V.int (k-d+d%801-400)) (fun D hD=>⟨An,Ax hD _,rfl⟩)
    (fun D i ys H3 _ ⟨h1',h2,h3⟩=>⟨h1',by rw[h3,js];exact jc5 _ _,SqL.of (h2 _ _ h1)⟩) (fun D i v ys H3 hD hx ⟨h1',h2,h3⟩=>?_) (fun D ys H3 hD ⟨h1',h2,h3⟩=>?_)
   ·rw[zo] at hx;obtain⟨k,hk,rfl⟩:=xz.mp hx;exists Gu (FT ?_);exists BL (SqL.of (h2 _ _ h1)) DQ ?_;exists BL (SqL.of (h2 _ _ h1)) DQ ?_;refine⟨h1',An,Ek hD h2,?_⟩;rw[vk,hk,kx,uk,h3];rfl
   rw[js,Qr] at h3;subst h3;symm;exact⟨h2,D,_,_,_,h1',by unfold Zw;lia,by unfold Zw;lia,by unfold Zw;lia,rfl⟩
  ·symm;exact⟨Av.refl _,l,d,e,f,h1,by unfold Zw;lia,by unfold Zw;lia,by unfold Zw;lia,rfl⟩
 rintro Z' H5 ⟨s5,l',d',e',f',h5,z1,z2,z3,rfl⟩;symm;exact q l' d' e' f' H5 (s04.trans s5) h5 z1 z2 z3
theorem Uv:C0 137 "_law_counted" ["_law_desk","_law_days_here"] (zU K ⟨DX,Bd,BR,Ak,Ba,CL⟩):=by
 refine co' ["_law_desk","_law_days_here","_law_first","_law_end","_law_third"] Ve fun nd H vs Q E hr h=>?_;obtain⟨x,l,d,e,f,g,n,b,rfl,hl,A,zd,ze,zf,q⟩:=h;have n0:=A.n0;have sd:=zd.sm (show d-1000<=d by lia) (by lia);have se:=ze.sm (show e-1000<=e by lia) (by lia);have sf:=zf.sm (show f-1000<=f by lia) (by lia);have se1:=ze.sm (show e-1000<=e+1 by lia) (by lia);refine⟨_,(Ab (Ox (pv 1) (AAT rfl (FP (Cm (i:=2) nd rfl (by walk_at"o")) (FP (Cm (i:=3) nd rfl (by walk_at"o")) (FP (Cm (i:=4) nd rfl (by walk_at"o")) Kz)))))
  (Ab (Ay (Ai GJ (Af Bb (Ag Et (Aa (pv 0) (Aa (pv 2) (Aa (pv 4) Ac)))) (Ag Et (Aa (pv 0) (Aa (pv 4) (Aa (pv 3) Ac))))) (Ag Et (Aa (pv 0) (Aa (pv 2) (Aa (pv 3) Ac)))) (Am _))
   (Ad (Al Jz))
   Ao)
  (Ad (Al (Ef Bl (Ag Et (Aa (pv 0) (Aa (pv 3) (Aa (Af Bb (pv 3) Ae) Ac)))) (BP lU rfl Mh Zp (Aa (Ag Hw (Aa (pv 0) (Aa (pv 3) Ac))) Ac)) (Am _)))))),?_⟩
 symm;exists⟨l,_,rfl,SqL.of hl,rfl,?_⟩;refine⟨x,d,f,g,n,b,rfl,A,sd,sf,zd.sub zf,fun H1 s1=>?_⟩;have A:=A.same s1;symm;refine⟨x,f,e,g,n,b,rfl,A,sf,se,zf.sub ze,fun H2 s2=>?_⟩;have A:=A.same s2;symm;refine⟨x,d,e,g,n,b,rfl,A,sd,se,zd.sub ze,fun H3 s3=>?_⟩;have A:=A.same s3;symm;exists Gf (by rw[show CC (n:Int) b f-CC (n:Int) b d+(CC (n:Int) b e-CC (n:Int) b f)=CC (n:Int) b e-CC (n:Int) b d by lia]) ?_;refine⟨x,e,e+1,g,n,b,rfl,A,se,se1,Jx (by lia) (by lia),fun H4 s4=>?_⟩;have A:=A.same s4;symm;exists⟨x,e,g,n,b,rfl,A,se,fun H5 s5=>?_⟩;exists .inr ⟨_,rfl,?_⟩;have c:=Jv (n:=(n:Int)) (b:=b) (by lia) e;rw[show CC (n:Int) b (e+1)-CC (n:Int) b e=(if On (n:Int) b e=true then 1 else 0) by lia];have:=q H5 (((s1.trans s2).trans (s3.trans s4)).trans s5);rw[decide_eq_true (Eq.refl (V.int (if On (n:Int) b e=true then (1:Int) else 0)))];exact this
theorem fM:C0 137 "_law_nth" ["_law_desk","_law_day","_law_number_here"] (zH K ⟨DX,Bd,BR,Ak,Ba,CL⟩):=by
 refine co' ["_law_desk","_law_day","_law_number_here","_law_found"] jb fun nd H vs Q E hr h=>?_;obtain⟨x,d,k,g,n,b,rfl,A,zd,k0,kb,⟨e0,he0⟩,q⟩:=h;have n0:=A.n0;have n1:=A.n1;have sd:=zd.sm (show d-1000<=d by lia) (by lia);have sd1:=zd.sm (show d-1000<=d+1 by lia) (by lia);have sk:Sm k:=by
  unfold Sm;have:(10:Nat)^45=1000000000000000000000000000000000000000000000:=by decide
  lia
 refine⟨_,(Ab (Ah 3 (Ag HF (Aa (pv 0) (Aa (Af BJ (Af BJ (Af BJ Aj (BP Az rfl Cr qg (Aa (pv 1) Ac))) Aj) (BP Az rfl Cr qg (Aa (pv 2) Ac))) Ac))))
  (Ab (Ay (PW.pt (Gv (Ai IK (pv 3) GF (Am _)) (Fp (Gw (GD (Ag Hw (Aa (pv 0) (Aa (pv 3) Ac))))))))
   (Ad (Al Jz))
   Ao)
  (Ab (Ay (Ai Fq (pv 2) Ae (Am _))
   (Ad (Al (Jd (Ef pW (pv 3) (pv 1) (Am _)) (MJ (Ef Bl (Ag Et (Aa (pv 0) (Aa (pv 1) (Aa (pv 3) Ac)))) (Af CG (pv 2) Ae) (Am _))))))
   Ao)
  (Ad (Al (Jd (Ef JH (pv 3) (pv 1) (Am _)) (MJ (Ef Bl (Ag Et (Aa (pv 0) (Aa (pv 3) (Aa (Af Bb (pv 1) Ae) Ac)))) (GZ Ei (pv 2)) (Am _))))))))),?_⟩
 symm;refine⟨_,rfl,CQ sd,?_⟩;have Z:=(Lg.s "nth r ").ap (.n sd);exists Z.go fun zz Z=>?_;have Z:=Z.aps " ";exists Z.go fun zz Z=>?_;refine⟨_,rfl,CQ sk,?_⟩;have Z:=Z.ap (.n sk);exists Z.go fun zz Z=>?_;have near:∀r,Nth (n:Int) b d k r->Zd r/\Sm (r-d)/\Sm (d+1-r):=fun r N=>by
  have h:=qD (by lia) k0 N;have m:(n:Int)*(k.natAbs:Int)<=400*1000000000000000000000000000000:=vt (by lia) (by lia) (by lia) (by decide);have:(10:Nat)^45=1000000000000000000000000000000000000000000000:=by decide
  generalize (n:Int)*(k.natAbs:Int)=z at h m;unfold Zw at zd;unfold Zd Sm;lia
 refine⟨x,_,g,n,b,xk (fun z=>[V.ref x,V.str z]) (Z.eq (ADV d k).symm),A,Xr dM sd sk,.nth k0,fun r N=>(near r N.2).1.sm (by lia) (by lia),fun o H1 s1 N=>?_⟩;obtain⟨r,rfl⟩:∃r,o=some r:=by
  cases o with
  | none=>exact absurd he0 (by rw[(show ∀e,On (n:Int) b e=false from N.2) e0];decide)
  | some r=>exact⟨r,rfl⟩
 have N:Nth (n:Int) b d k r:=N.2;obtain⟨zr,s4,s5⟩:=near r N;have A:=A.same s1;symm;exists⟨rfl,?_⟩;exists En ?_;refine⟨x,r,g,n,b,rfl,A,zr.sm (by lia) (by lia),fun H2 s2=>?_⟩;have A:=A.same s2;rw[N.1];symm;exists En ?_;rw[show oI (some r)=V.int r from rfl];have sr:Sm r:=zr.sm (by lia) (by lia);refine CK (fun kp=>?_) (fun kp=>?_)
 ·have P:=N.2.1 kp;symm;exists Gg P.1 ?_;exists⟨x,d,r,g,n,b,rfl,A,sd,sr,s4,fun H3 s3=>?_⟩;rw[P.2,decide_eq_true (Eq.refl (V.int (k-1)))];exact q _ (s1.trans (s2.trans s3))
 ·have P:=N.2.2 (by lia);symm;exists Gg P.1 ?_;exists⟨x,r,d+1,g,n,b,rfl,A,sr,sd1,s5,fun H3 s3=>?_⟩;rw[P.2,decide_eq_true (Eq.refl (V.int (-k)))];exact q _ (s1.trans (s2.trans s3))
theorem zZ:DP ["_law_script","_law_words","_law_days_here","_law_cells","_law_rule_here","_law_desk","_law_asked","_law_number_here","_law_coming","_law_passed","_law_never"] ["_law_script"] (BZ gP):=by walk_at"s"
theorem AAc(F:Fun K "law" "law" gP f fd):F0 138 f fd ["_law_script"] (gM K):=by
 refine F.ok (k:=137) zZ (fun h=>?_) fun nd H vs Q E hr h=>?_
 ·obtain⟨a,ns,rfl,_⟩:=h;rfl
 obtain⟨a,ns,rfl,hS,h63,hB,q⟩:=h;refine⟨_,(Ab (Ox (Ag Q5 (Aa (pv 0) Ac)) (X5 rfl (FP (Cm (i:=1) nd rfl (by walk_at"o")) (FP (Cm (i:=2) nd rfl (by walk_at"o")) Kz))))
  (Ab (Ah 3 (Af YD (FQ (Aa (Ag Cg (Aa (pv 0) (Aa Ae Ac))) Ac)) (Ck FJ (pv 0) (DN Ae) (DN (Af Bb Ae (Af Br (Ag Cg (Aa (pv 0) (Aa Ae Ac))) Ae))))))
  (Ab (Ah 4 (Ag ak (Aa (pv 3) (Aa (pv 2) Ac))))
  (Ab (Ah 5 (dB RJ (hr.mono (by decide)) rfl))
  (Ab (Ay (PW.pt (Gv (Ai GJ (CZ G8 DR (pv 5) (Aa (Af BJ Aj (pv 1)) Ac)) Aj (Am _)) (Fp (Ai GJ (CZ G8 DR (pv 5) (Aa (Af BJ Aj (pv 4)) Ac)) Aj (Am _)))))
   (Ad (Al Jz))
   Ao)
  (Ab (Ah 6 (Ag aq (Aa (pv 0) Ac)))
  (Ab (Ah 7 (Af CG (Af Br (Ag Cg (Aa (pv 0) (Aa Ae Ac))) (Af O4 Ae Ae)) (Af O4 Ae Ae)))
  (Ab (Ej (Ay (Ai Bl (Af Br (Ag Cg (Aa (pv 0) (Aa Ae Ac))) Ae) Ae (Am _))
   (Ad (Ah 7 (Dy GR (FQ (Aa (GZ Ei Ae) (Aa (GZ Ei Ae) (Aa (GZ Ei Ae) (Aa (GZ Ei Ae) (Aa Ae (Aa Ae (Aa Ae (Aa Ae Ac))))))))) (Af Br (Af Bg (pv 7) Ae) Ae) (fun _ _=>rfl))))
   Ao))
  (Ab (Ej (Ay (Ai Bl (pv 7) Ae (Am _))
   (Ad (Ah 7 Ae))
   Ao))
  (Ab (Ay (Gw (GD (Ag Uv (Aa (pv 5) (Aa (pv 6) Ac)))))
   (Ad (Al Jz))
   Ao)
  (Ab (Ej (Ay (PW.pt (Ow (Ai GJ (Dy dj (pv 4) Ae) Aj (Am _)) (Ky (Ai GJ (Ag Hw (Aa (pv 5) (Aa (pxL 6) Ac))) (Ag Uw (Aa (pv 5) (Aa (Ge yy ja7 ja8 JK (pv 4) (Aa Aj Ac)) (Aa (pxL 6) Ac)))) (Am _)))))
   (Ad (Al Jz))
   Ao))
  (Ab (Ah 8 (Ag HF (Aa (pv 5) (Aa (Af BJ Aj (BP Az rfl Cr qg (Aa (pxL 6) Ac))) Ac))))
  (Ab (Ah 9 (Ag HF (Aa (pv 5) (Aa (Af BJ Aj (BP Az rfl Cr qg (Aa (pxL 6) Ac))) Ac))))
  (Ab (Ay (PW.pt (Gv (Ai IK (pv 8) GF (Am _)) (Fp (Ai IK (pv 9) GF (Am _)))))
   (Ab (Ah 10 (Ef Bl (CZ G8 DR (pv 5) (Aa (Af BJ (Af BJ (Af BJ Aj (BP Az rfl Cr qg (Aa (pxL 6) Ac))) Aj) (BP Az rfl Cr qg (Aa (pv 7) Ac))) Ac)) Aj (Am _)))
  (Ad (Al (Jd (Ef Bl (pv 8) (pv 9) (Am _)) (Jd (pv 10) (MJ (AAV (Ag Hw (Aa (pv 5) (Aa (pxL 6) Ac))))))))))
   Ao)
  (Ab (Ay (PW.pt (Gv (Gw (pD JH JH (pv 9) (pxL 6) (pv 8))) (Gv (Gw (GD (Ag Hw (Aa (pv 5) (Aa (pv 8) Ac))))) (Fp (Gw (GD (Ag Hw (Aa (pv 5) (Aa (pv 9) Ac)))))))))
   (Ad (Al Jz))
   Ao)
  (Ab (Ay (PW.pt (Gv (Ai GJ (Ag Et (Aa (pv 5) (Aa (pxL 6) (Aa (pv 8) Ac)))) Ae (Am _)) (Fp (Ai GJ (Ag Et (Aa (pv 5) (Aa (Af Bb (pv 9) Ae) (Aa (Af Bb (pxL 6) Ae) Ac)))) Ae (Am _)))))
   (Ad (Al Jz))
   Ao)
  (Ad (Al (Ag fM (Aa (pv 5) (Aa (pxL 6) (Aa (pv 7) Ac)))))))))))))))))))))),?_⟩
 symm;refine⟨a,ns,rfl,hS,h63,fun g pc H1 s1 C=>?_⟩;obtain⟨og,st,tc⟩:=C;obtain⟨sm,dv,d1,d64⟩:=id og.cy;refine Xy (SqT.of tc) rfl ?_;have hS1:=s1.seq hS;symm;refine⟨(by show 1<=sizeLine;decide),fun u1 hu1=>?_⟩;refine fresh hu1 fun H2 s2 t2=>?_;have hS2:=s2.seq hS1;symm;generalize ns.getD (7:Int).toNat 0=c7 at t2;obtain⟨cut,hc⟩:∃cut:Nat,ns.getD (0:Int).toNat 0%4=(cut:Int):=⟨(ns.getD (0:Int).toNat 0%4).toNat,by lia⟩;have hc4:cut<=3:=by lia
 rw[hc];refine Ga hS2 fun u hu=>?_;obtain⟨cs1,e1,l1⟩:=ADQ ns (lo:=8) (hi:=8+(cut:Int)) (i:=8) (j:=8+cut) rfl (by lia) (by lia);rw[e1];exists fresh hu fun H3 s3 t3=>?_;refine o7 (s3 _ _ t2) t3 (by rw[js];exact zw (show 1+cs1.length<=4 by lia) (by decide)) fun u3 hu3=>?_;refine fresh hu3 fun H4 s4 t4=>?_;have t4:H4 u3=some (.lst ((c7::cs1).map V.int)):=t4;symm;refine⟨u3,c7,cs1,g,rfl,SqL.of t4,l1,og,fun p z H5 s5 N=>?_⟩;have hS5:=(s3.trans (s4.trans s5)).seq hS2;have f1:=N.fine sm;symm;intro x dx fx fd' ne';refine⟨H5,x,dx,rfl,fx,fd',ne',rfl,fun H6 s6 dk=>⟨rfl,?_⟩⟩;have hS6:=s6.seq hS5;obtain⟨dx0,_,_,_,hx0,_⟩:=id dk.ex;symm;exists⟨x,dx0,_,rfl,hx0,rfl,?_⟩;have Z1:=(Lg.s "calendar c ").ap (.w (Jh g) og.tx.2.1);exists Z1.go fun zz Z1=>?_;rw[Z1.eq (AEd g).symm];refine⟨x,none,0,_,.cal g,rfl,ABM og,dk,by decide,og,rfl,fun H7 k7 dk7=>?_⟩;have hS7:=SqL.kd k7 hS6;obtain⟨dx1,_,_,_,hx1,_⟩:=id dk7.ex;symm;exists Gf rfl ?_;exists⟨x,dx1,_,rfl,hx1,rfl,?_⟩;have Z2:=(Lg.s "rule r ").ap (.w p.tx f1.tl);exists Z2.go fun zz Z2=>?_;rw[Z2.eq (AEX p).symm];refine⟨x,some g,0,_,.rule (sg "r") p,rfl,ur dM f1,dk7,by decide,g,rfl,sm,f1,fun bc H8 kd8 dk8 rl=>?_⟩;have hS8:=SqL.kd kd8 hS7;symm;refine Gf rfl ?_;have sz:=N.s1 sm;have A:Aw K ⟨DX,Bd,BR,Ak,Ba,CL⟩ H8 x g (p.sz g).toNat bc:=⟨⟨_,_,dk8,by decide,ya rfl⟩,og,st,by lia,by lia⟩;clear dk8 dk7 dk Z1 Z2 hS1 hS2 hS5 hS6 hS7 t2 t3 t4;symm;refine⟨a,ns,rfl,hS8,h63,fun ld d e f H9 s9 t9 zd ze zf=>?_⟩;have A:=A.same s9;have hS9:=s9.seq hS8;symm;rw[p30,p29];have y0:=zh (ns.getD (6:Int).toNat 0) (show (1000000000000000000000000000000:Int)≠0 by decide);have y1:=qk (ns.getD (6:Int).toNat 0) (show (0:Int)<1000000000000000000000000000000 by decide);have kb:(ns.getD (6:Int).toNat 0%1000000000000000000000000000000-100000000000000000000000000000).natAbs<=1000000000000000000000000000000:=by lia
 generalize ns.getD (6:Int).toNat 0%1000000000000000000000000000000-100000000000000000000000000000=k at kb ⊢;clear y0 y1;refine EY (fun Z' H'=>Av H9 H'/\∃k:Int,k.natAbs<=1000000000000000000000000000000/\Z'=[some (.ref a),some (.str (sW (Jh g))),some (.int (dyC g)),some (.ref u3),some (.str (sW p.tx)),some (.ref x),some (.ref ld),some (.int k),none,none,none]) ?_ ?_
 ·symm;refine CK (fun _=>?_) (fun _=>?_)
  ·symm;refine⟨(by show 8<=sizeLine;decide),fun l8 hl8=>?_⟩;refine fresh hl8 fun Ha sa ta=>?_;have ta:Ha l8=some (.lst (k8.map V.int)):=ta;obtain⟨k',k3,ek⟩:=wk (k/2);symm;exists BL (SqL.of ta) ek ?_;exact⟨sa,k',by lia,rfl⟩
  ·symm;exact⟨Av.refl _,k,kb,rfl⟩
 clear kb;rintro Z' Ha ⟨sa,k,kb,rfl⟩;have A:=A.same sa;have t9:=sa _ _ t9;symm;refine EY (fun Z' H'=>H'=Ha/\∃k:Int,An3 (k.natAbs<=1000000000000000000000000000000) (k≠0) (Z'=[some (.ref a),some (.str (sW (Jh g))),some (.int (dyC g)),some (.ref u3),some (.str (sW p.tx)),some (.ref x),some (.ref ld),some (.int k),none,none,none])) ?_ ?_
 ·symm;refine CK (fun _=>?_) (fun c=>?_)
  ·symm;exact⟨rfl,1,by decide,by decide,rfl⟩
  ·symm;exact⟨rfl,k,kb,fun z=>c (xk V.int z),rfl⟩
 clear kb;rintro Z' Ha' ⟨rfl,k,kb,k0,rfl⟩;clear hS9 hS8 hS h63 hB;have sd:=zd.sm (show d-1000<=d by lia) (by lia);have se:=ze.sm (show e-1000<=e by lia) (by lia);have sk:Sm k:=by
  unfold Sm;have:(10:Nat)^45=1000000000000000000000000000000000000000000000:=by decide
  lia
 have cn:(((p.sz g).toNat:Nat):Int)=p.sz g:=by lia
 symm;refine⟨x,ld,d,e,f,g,_,_,rfl,t9,A,zd,ze,zf,fun Hb sb=>?_⟩;have A:=A.same sb;have t9:=sb _ _ t9;symm;exists En ?_;refine EY (fun Z' H'=>Av Hb H'/\Z'=[some (.ref a),some (.str (sW (Jh g))),some (.int (dyC g)),some (.ref u3),some (.str (sW p.tx)),some (.ref x),some (.ref ld),some (.int k),none,none,none]) ?_ ?_
 ·symm;obtain⟨c0,r0,et,hb⟩:=tO p;refine⟨sW p.tx,0,c0,rfl,rfl,by rw[Cp];exact zw f1.tl (by decide),by rw[show (sW p.tx).cps.toList=p.tx from Bk _,et];exact Dm (j:=0) rfl,?_⟩;symm;by_cases c:c0=40
  ·refine Gf (by rw[c];ac_rfl) (En ?_);symm;exact⟨Av.refl _,rfl⟩
  refine Z8 (fun z=>c ?_) ?_
  ·have z:=xk cpl (V.str.inj z);exact jk9 z
  symm;exists BL (SqL.of t9) DQ ?_;refine⟨x,d,g,_,_,rfl,A,sd,fun Hc sc=>?_⟩;have A:=A.same sc;have t9:=sc _ _ t9;symm;exists Ii ?_;exists⟨rfl,?_⟩;refine⟨_,32,rfl,by rw[show Str.ofString " "=⟨#[32]⟩ from by ac_rfl],by decide,by rw[Cp];exact zw f1.tl (by decide),fun lw hlw=>?_⟩;have ew:(JX 32 (sW p.tx)).map V.str=p.wd.map fun w=>V.str (sW w):=by
   rw[show JX 32 (sW p.tx)=(spl 32 (cpl (sW p.tx))).map sW from rfl,Bk,(PT.rdy f1.ok f1.tl f1.dp).1,kq];rfl
  rw[ew];refine fresh hlw fun Hd sd' td=>?_;have t9:=sd' _ _ t9;symm;exists BL (SqL.of t9) DQ ?_;refine⟨x,lw,p,d,g,bc,rfl,td,hb c,f1.ok,f1.kn,N.ds,A.same sd',rl,zd,fun v He se' hv=>?_⟩;rw[cn];symm;exists Gf (xk V.bl (ja1.mpr hv.symm)) ?_;exact⟨sc.trans (sd'.trans se'),rfl⟩
 rintro Z' Hc ⟨sc,rfl⟩;have A:=A.same sc;have t9:=sc _ _ t9;have n0:=A.n0;clear N f1 rl;symm;exists BL (SqL.of t9) DQ ?_;refine⟨_,rfl,CQ sd,?_⟩;have Z:=(Lg.s "next r ").ap (.n sd);exists Z.go fun zz Z=>?_;refine⟨x,_,g,_,_,xk (fun z=>[V.ref x,V.str z]) (Z.eq (AEa d).symm),A,Xu dM sd,.next,fun r N=>zd.sm (by have:=N.1;lia) (by have:=O7 (by lia) N;lia),fun o He se1 N=>?_⟩
 have A:=A.same se1;have t9:=se1 _ _ t9;symm;exists BL (SqL.of t9) DQ ?_;refine⟨_,rfl,CQ sd,?_⟩;have Z:=(Lg.s "last r ").ap (.n sd);exists Z.go fun zz Z=>?_;refine⟨x,_,g,_,_,xk (fun z=>[V.ref x,V.str z]) (Z.eq (AEb d).symm),A,Xu dM sd,.last,fun r N=>zd.sm (by have:=O8 (by lia) N;lia) (by have:=N.1;lia),fun o' Hf sf1 N'=>?_⟩;have A:=A.same sf1;have t9:=sf1 _ _ t9;clear Z;symm;refine⟨rfl,?_⟩;cases o with
 | none=>
  have off:∀e,On ((p.sz g).toNat:Int) bc e=false:=N;cases o' with
  | some r=>
   have:=N'.2.1;rw[off r] at this;cases this
  | none=>
  obtain⟨⟨j,m,dkj,jl,em⟩,_⟩:=id A;obtain⟨dxj,_,_,_,hxj,_⟩:=id dkj.ex;symm;exists Gg rfl (FT ?_);exists⟨x,dxj,_,rfl,hxj,rfl,?_⟩;exists BL (SqL.of t9) DQ ?_;refine⟨_,rfl,CQ sd,?_⟩;have Z:=(Lg.s "nth r ").ap (.n sd);exists Z.go fun zz Z=>?_;have Z:=Z.aps " ";exists Z.go fun zz Z=>?_;refine⟨_,rfl,CQ sk,?_⟩;have Z:=Z.ap (.n sk);exists Z.go fun zz Z=>?_;refine⟨x,some g,j,m,.nth (sg "r") d k,xk (fun z=>[V.ref x,V.str z]) (Z.eq (ADV d k).symm),Xr dM sd sk,dkj,jl,_,_,em,k0,fun _ Hg sg1=>?_,fun r Hg _ Nr=>absurd Nr.1 (by rw[off r];decide)⟩;have A:=A.same sg1;have t9:=sg1 _ _ t9;symm;exists Gg rfl ?_;exists Gg rfl ?_;exists BL (SqL.of t9) JB ?_;refine⟨x,e,g,_,_,rfl,A,se,fun Hh sh1=>?_⟩;rw[off e];symm;exact q _
 | some r=>
 have n1:=A.n1;have N:mD (On ((p.sz g).toNat:Int) bc) d r:=N;cases o' with
 | none=>
  have:=N.2.1;rw[(show ∀e,On ((p.sz g).toNat:Int) bc e=false from N') r] at this;cases this
 | some r'=>
 have N':mG (On ((p.sz g).toNat:Int) bc) d r':=N';have a1:=N.1;have a2:=O7 (by lia) N;have a3:=N'.1;have a4:=O8 (by lia) N';have sr:Sm r:=zd.sm (by lia) (by lia);have sr':Sm r':=zd.sm (by lia) (by lia);have sr1:Sm (r'+1):=zd.sm (by lia) (by lia);have sd1:Sm (d+1):=zd.sm (by lia) (by lia);symm;exists CJ (fun z=>nomatch z) ?_;exists⟨rfl,?_⟩;exists CJ (fun z=>nomatch z) ?_;rw[show oI (some r)=V.int r from rfl,show oI (some r')=V.int r' from rfl];exists BL (SqL.of t9) DQ ?_;exists Gg a3 ?_;rw[decide_eq_true a1];exists En ?_;refine⟨x,r,g,_,_,rfl,A,sr,fun Hg sg1=>?_⟩;have A:=A.same sg1;have t9:=sg1 _ _ t9;rw[N.2.1];symm;exists En ?_;refine⟨x,r',g,_,_,rfl,A,sr',fun Hh sh1=>?_⟩;have A:=A.same sh1;have t9:=sh1 _ _ t9;rw[N'.2.1];symm;exists En ?_;exists BL (SqL.of t9) DQ ?_;refine⟨x,d,r,g,_,_,rfl,A,sd,sr,Jx (by lia) (by lia),fun Hi si1=>?_⟩;have A:=A.same si1;have t9:=si1 _ _ t9;symm;exists Gf (xk V.int (jC (by lia) a1 N.2.2)) ?_;exists BL (SqL.of t9) DQ ?_;refine⟨x,r'+1,d+1,g,_,_,rfl,A,sr1,sd1,Jx (by lia) (by lia),fun Hj sj1=>?_⟩;have A:=A.same sj1;have t9:=sj1 _ _ t9;symm;exists Gf (xk V.int (jC (by lia) (by lia) fun e h1 h2=>N'.2.2 e (by lia) (by lia))) ?_;exists BL (SqL.of t9) DQ ?_;exact⟨x,d,k,g,_,_,rfl,A,zd,k0,kb,⟨r,N.2.1⟩,fun Hk _=>q _⟩
end
theorem ABY{w:World}{h:Heap}{mg:Str->Option Value}{fa:Addr}(X:(Hd.K w.params).In h)(G:h.Ns mainGlobals mg)(hfa:mg "law"=some (.ref fa))(Q:FnG (Hd.K w.params) "law" "law" "law" gP):
 ∃fd:FuncData,(∀(s:Shared) (v:Value),BindsTo s fd ⟨[v],[]⟩ [("_law_script",v)])/\∀base:Heap,(Hd.K w.params).In base->base.Ns mainGlobals mg->FW PySem.Challenge.rw_feastwheel_k92_whole_asked_of_texts.prog w (Hd.K w.params) mg base CX0 138 fa fd ["_law_script"] (gM (Hd.K w.params)):=by
 obtain⟨f,fd,a,F⟩:=Q;have e:=hfa.symm.trans (jh4 X G a);cases e;refine⟨fd,?_,fun base X2 G2=>?_⟩
 ·obtain⟨_,_,_,_,_,_,_,_,_,rfl,_,_⟩:=F.ex;exact fun s v=>.of_eq rfl
 exact Classical.byContradiction fun hn=>have z:=Classical.epsilon_spec (p:=fun d=>Gi d/\¬Ok d) ⟨⟨w,mg,base⟩,⟨X2,G2⟩,fun c=>hn (c F)⟩;z.2 fun F=>(haveI:Giv:=⟨z.1.X,z.1.G⟩;AAc F)
end Fw
open PySem PySem.W PyProof.Rows
set_option maxRecDepth 100000 in
set_option maxHeartbeats 0 in
theorem PySem.Challenge.cw_feastwheel_k92_whole_asked_of_texts_holds : PySem.Challenge.rw_feastwheel_k92_whole_asked_of_texts.Holds := by
 refine Hd.ws fun said=>Hd.op said ?_;delta Hd.hk;k_fill;refine L2.mX (l:=PySem.Challenge.rw_feastwheel_k92_whole_asked_of_texts) (k:=138) rfl rfl ⟨rfl,by decide,by decide,rfl⟩ (fun w h Y=>PySem.W.kIn_of Y) ?F
 case F=>
  intro w mg fa h KX G hmg;exact Fw.ABY KX G hmg (by refine' L2.ql ?_ ?_ ?_ ?_<;>first | k_is | skip)
#print axioms PySem.Challenge.cw_feastwheel_k92_whole_asked_of_texts_holds
