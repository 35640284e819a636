import PyProof.Rows.All
import Wide.All
import KE.KNestM
import KE.RegKIsAll
import OpenK.KOwn
import OpenK.KLine
import Wide.FinOn
import Open.Tops
import Lean
import PyProof.EqAt
import PyProof.EqKinds
import PyProof.TupleCall
import KE.KEqDict
import KE.KDictOf
import KE.KItem
import KE.IntBitsLaws
import KE.KEqSeq
import KE.KIntText
import KE.IntTextLaws
import PySem.Challenge.RW_feastwheel_k91_whole_what_a_text_says
set_option Elab.async false
set_option linter.all false
set_option compiler.extract_closed false
set_option bootstrap.genMatcherCode false
set_option genSizeOf false
open Lean in
local macro_rules | `(command| #print $s:str) => do
  let mut xs := #[]
  for g in s.getString.splitOn ";" do
    let l := g.splitOn " "
    let mut n := 0
    for d in l.tail! do
      n := n + d.toNat!
      xs := xs.push (mkIdent (.mkSimple s!"tw{hash (Name.mkStr2 "sh" s!"{l.head!}_{n}")}"))
  `(structure $(mkIdent `Fast) : Prop where ($xs* : True))
open Lean in
local macro_rules | `(tactic| walk_at $s:str) => do
  let k := s.getString
  unless k == "K" || k == "A" do Macro.throwUnsupported
  let mut r := #[]
  let mut e := 0
  let mut d : Int := 0
  for x in "3.1921 11.-1929 6.0.2 0.195 0.-195 2.4 6.0.3 2.4 6.0 1.0.2 1.0.5 2.4 6.0.3 2.4 6.0 1.0.2 1.0.5 2.4 6.0 1.0.2 1.0.5 2.4 6.0.3 2.4 6.0.3 2.4 6.0.3 2.4 6.0.3 2.4 6.0 1.0.2 1.0.5 2.4 6.0.3 2.0 2.0.3 1.0.2 1.0.3 2.0.3 1.0.2 1.0.2 7.3 1.0.2 1.0.2 29.0 1.0.2 1.0.3 1.0.2 1.0.3 1.0.2 1.0.3 1.0.2 1.0.2 14.3 1.0.2 1.0.3 1.0.2 1.0.3 2.0.3 1.0.2 1.0.3 1.0.2 1.0.3 1.0.2 1.0.3 1.0.2 1.0.2 21.3 1.0.2 1.0.3 1.0.2 1.0.3 1.0.2 1.0.3 1.0.2 1.0.3 1.0.2 1.0.3 1.0.2 1.0.3 1.0.2 1.0.2 7.0 1.0.2 1.0.3 1.0.2 1.0.3 1.0.2 1.0.3 1.0.2 1.0.2 0.3 1.0.2 1.0.2 14.0 1.0.2 1.0.3 2.0.3 1.0.2 1.0.3 2.0.3 2.0.3 1.0.2 1.0.2 7.3.2 1.0.2 1.0.3 2.0.3 1.0.2 1.0.3 1.0.2 1.0.3 1.0.2 1.0.7 9.3 1.0.2 1.0.3 1.0.2 1.0.4 0.189 0.-189.2 12.0 1.0.2 1.0.2 0.4 6.0.2 1.0.2 1.0.3 1.0.2 1.0.3 1.0.2 1.0.3 1.0.2 1.0.3 1.0.2 1.0.3 2.0.5 2.3 1.0.2 1.0.2 0.4 6.0 1.0.2 1.0.3 1.0.2 1.0.3 1.0.2 1.0.3 2.0.3 1.0.2 1.0.3 1.0.2 1.0.5 2.3 2.0.3 1.0.2 1.0.3 2.0.3 1.0.2 1.0.3 1.0.2 1.0.3 1.0.2 1.0.2 0.4 6.0 1.0.2 1.0.3 1.0.2 1.0.3 1.0.2 1.0.3 1.0.2 1.0.5 58.3 1.0.2 1.0.3 1.0.2 1.0.3 1.0.2 1.0.4 1.0.2 1.0.2 0.3 1.0.2 1.0.3 1.0.2 1.0.3 1.0.2 1.0.3 1.0.2 1.0.3 2.0.3 1.0.2 1.0.3 1.0.2 1.0.3 2.0.2 7.3.2 1.0.2 1.0.3 1.0.2 1.0.3 1.0.2 1.0.3 1.0.2 1.0.3 1.0.2 1.0.3 1.0.2 1.0.4 0.375 0.-375.2 2.4 6.0 1.0.2 1.0.5 2.4 6.0 1.0.2 1.0.5 2.0 1.0.2 1.0.2 0.4 6.0 1.0.2 1.0.5 2.0 1.0.2 1.0.3 1.0.2 1.0.2 0.4 6.0.2 1.0.2 1.0.5 2.4 6.0 1.0.2 1.0.5 2.4 6.0 1.0.2 1.0.5 2.4 6.0 1.0.2 1.0.5 2.4 6.0 1.0.2 1.0.5 2.4 6.0 1.0.2 1.0.5 2.4 6.0 1.0.2 1.0.5 2.4 6.0 1.0.2 1.0.5 2.4 6.0 1.0.2 1.0.5 2.4 6.0 1.0.2 1.0.5 2.4 6.0 1.0.2 1.0.5 2.4 6.0 1.0.2 1.0.5 2.4 6.0 1.0.2 1.0.5 2.0 7.3 1.0.2 1.0.3 1.0.2 1.0.3 1.0.2 1.0.7 2.0 1.0.2 1.0.3 1.0.2 1.0.3 1.0.2 1.0.2 0.3 1.0.2 1.0.3 1.0.2 1.0.3 1.0.2 1.0.3 1.0.2 1.0.3 1.0.2 1.0.3 1.0.2 1.0.3 1.0.2 1.0.3 1.0.2 1.0.3 1.0.2 1.0.3 1.0.2 1.0.3 1.0.2 1.0.3 1.0.2 1.0.2 19.6.18 1.0.2 1.0.2 1.0.2 0.5 1.0.2 1.0.3 1.0.2 1.0.3 1.0.2 1.0.3 1.0.2 1.0.3 1.0.2 1.0.3 1.0.2 1.0.3 1.0.2 1.0.3 1.0.2 1.0.3 1.0.2 1.0.3 1.0.2 1.0.2 7.0 1.0.2 1.0.3 1.0.2 1.0.2 0.3 1.0.2 1.0.3 1.0.2 1.0.3 1.0.2 1.0.4 1.0.2 1.0.3 1.0.2 1.0.2 0.5 1.0.2 1.0.3 2.0.3 1.0.2 1.0.2 7.0 1.0.2 1.0.3 2.0.7 2.0 1.0.2 1.0.2 0.3 1.0.2 1.0.3 1.0.2 1.0.3 2.0.3 1.0.2 1.0.3 1.0.2 1.0.3 1.0.2 1.0.3 1.0.2 1.0.3 1.0.2 1.0.3 1.0.2 1.0.3 1.0.2 1.0.3 1.0.2 1.0.2 0.3 1.0.2 1.0.2".splitOn " " do
    let y := (x.splitOn ".").map (·.toInt!)
    e := e + y[0]!.toNat
    d := d + y[1]!
    for _ in [0:(y.getD 2 1).toNat] do
      r := r.push (Syntax.mkNumLit (toString e), mkIdent (.mkSimple s!"o_{e + d}"))
      e := e + 1
  if k == "A" then `(tactic| exact [$(r.map (·.1)),*])
  else `(tactic| exact $(<- r.foldrM (fun p z => `((nat_lit $(p.1), $(p.2) $(mkIdent `P)) :: $z)) (<- `([]))))
namespace PySem.W
set_option genInjectivity false in
#print "tree 4 15 16 23 16 23 23 16 16 16 16 23 40 81 78 87 60 51 48 57 10 56 41 51 81 55 60 23 30 37 24 23 23 23 23 23 23 23 23 23 23 23 24 59 87 22 30 96 39 57 78 10;o 3 2 4 3 3 1 5 2 3 3 3 1 4 2 3 3 4 2 1 1 2 1 4 2 3 3 3 1 4 2 3 3 6 1 1 2 1 4 2 3 3 4 2 1 1 2 1 4 2 3 3 3 1 4 2 3 3 3 1 4 2 3 3 3 1 4 2 3 3 3 1 4 2 3 3 6 1 1 2 1 4 2 3 3 3 1 2 3 1 1 5 1 1 3 1 1 5 1 1 2 4 2 1 1 5 1 1 5 1 1 3 2 1 1 3 1 1 3 1 1 3 1 1 5 1 1 5 1 1 3 2 1 1 5 1 1 3 2 1 1 2 4 2 1 1 5 1 1 3 2 1 1 3 1 1 5 1 1 5 1 1 3 2 1 1 5 1 1 3 2 1 1 5 1 1 3 2 1 1 2 4 2 1 1 3 2 1 1 3 2 1 1 3 2 1 1 5 1 1 5 1 1 3 2 1 1 3 2 1 1 3 2 1 1 3 2 1 1 3 2 1 1 3 2 1 1 2 4 2 1 1 3 2 1 1 3 2 1 1 5 1 1 3 1 1 5 1 1 3 1 1 3 1 1 3 2 1 1 2 4 3 5 2 1 1 3 1 1 5 1 1 5 1 1 3 2 1 1 1 1 1 1 5 4 3 4 2 1 1 3 2 1 1 2 1 1 6 1 1 3 1 1 5 1 1 2 2 3 3 5 2 1 1 5 1 1 5 1 1 3 2 1 1 5 1 1 3 1 1 1 1 1 4 6 1 1 2 2 3 3 4 2 1 1 5 1 1 5 1 1 3 1 1 3 2 1 1 3 2 1 1 1 1 1 4 4 1 1 3 2 1 1 3 1 1 3 2 1 1 3 2 1 1 5 1 1 2 2 3 3 4 2 1 1 3 2 1 1 5 1 1 5 1 1 1 1 1 5 2 1 1 2 4 2 1 1 3 2 1 1 3 2 1 1 3 2 1 1 3 2 1 1 3 2 1 1 3 2 1 1 3 2 1 1 3 2 1 1 3 2 1 1 4 2 1 1 2 4 2 1 1 3 2 1 1 3 2 1 1 3 2 1 1 3 1 1 3 2 1 1 3 2 1 1 3 1 1 2 4 3 5 2 1 1 5 1 1 5 1 1 5 1 1 3 2 1 1 3 2 1 1 1 1 1 1 5 2 3 3 6 1 1 2 1 4 2 3 3 6 1 1 2 1 5 2 1 1 2 2 3 3 4 2 1 1 2 1 7 1 1 3 2 1 1 2 2 3 3 5 2 1 1 2 1 4 2 3 3 6 1 1 2 1 4 2 3 3 4 2 1 1 2 1 4 2 3 3 4 2 1 1 2 1 4 2 3 3 4 2 1 1 2 1 4 2 3 3 4 2 1 1 2 1 4 2 3 3 4 2 1 1 2 1 4 2 3 3 4 2 1 1 2 1 4 2 3 3 4 2 1 1 2 1 4 2 3 3 4 2 1 1 2 1 4 2 3 3 4 2 1 1 2 1 4 2 3 3 4 2 1 1 2 1 4 2 3 3 4 2 1 1 2 1 3 2 4 3 6 1 1 5 1 1 5 1 1 1 1 1 1 6 2 1 1 5 1 1 5 1 1 2 6 1 1 5 1 1 3 2 1 1 3 2 1 1 3 2 1 1 3 2 1 1 5 1 1 3 2 1 1 3 2 1 1 3 2 1 1 3 2 1 1 3 2 1 1 2 6 1 1 5 1 1 3 1 1 2 2 1 1 4 2 2 1 2 1 1 4 5 1 1 4 6 1 1 5 1 1 5 1 1 5 1 1 5 1 1 5 1 1 5 1 1 5 1 1 5 1 1 3 2 1 1 3 2 1 1 5 1 1 5 1 1 2 6 1 1 5 1 1 5 1 1 1 3 2 1 1 5 1 1 4 4 2 1 1 3 1 1 3 2 1 1 3 3 6 1 1 3 1 1 2 1 1 1 5 2 1 1 2 4 2 1 1 3 2 1 1 3 1 1 3 2 1 1 3 2 1 1 3 2 1 1 3 2 1 1 3 2 1 1 3 2 1 1 3 2 1 1 3 2 1 1 2 4 2 1 1;sts 4 33 23 16 23 87 23 40 81 78 87 60 51 48 57 10 56 41 51 81 55 60 23 30 37 24 23 23 23 23 23 23 23 23 23 23 23 24 59 87 22 32 94 41 55 78"
end PySem.W
namespace PySem.W.Fast
def tw11190070722645398925:PySem.Program:=PySem.Challenge.pw_feastwheel_k91_whole_what_a_text_says
theorem te11190070722645398925:PySem.Challenge.pw_feastwheel_k91_whole_what_a_text_says=tw11190070722645398925:=rfl
end PySem.W.Fast
open PySem PySem.W PyProof.Rows in
set_option maxRecDepth 100000 in
set_option maxHeartbeats 0 in
open_shared sh for PySem.Challenge.pw_feastwheel_k91_whole_what_a_text_says leaving 0
namespace Hd
open PySem PySem.W PySem.Calls PyProof.Rows sh
set_option maxRecDepth 100000
set_option maxHeartbeats 0
theorem ws(h:PySem.Challenge.rw_feastwheel_k91_whole_what_a_text_says.row.wellSaid=true->PySem.Challenge.rw_feastwheel_k91_whole_what_a_text_says.row.Holds):PySem.Challenge.rw_feastwheel_k91_whole_what_a_text_says.Holds:=by
  w_on; o_law; exact h (by assumption)
noncomputable abbrev pw:Program:=PySem.Challenge.pw_feastwheel_k91_whole_what_a_text_says
noncomputable def vw:Program:={pw with main:={pw.main with body:=pw.main.body.drop 206}}
noncomputable def lo:List Str:=(["FeastError","NoNumber","TooLong","NoMeasure","NoDate","InGap","NoChange","NoCycle","NoText","NoRule","NoName","NoRow","FIGURES","MOST_FIGURES","LETTERS","MOST_LETTERS","MOST_SIGNS","is_name","is_readable","is_number","read_number","read_place","read_date","place_text","date_text","MOST_ROWS","widest","names_on","almanac","refuse_below_one","divisor","equation","common","met","ahead","LONGEST","PIECE","refuse_too_long","round_by","days_in","on","on_rounds","full_bits","bits_by","stretched","primes_of","comes_again","least","common_size","both","either","unlike","without","other_days","later","folded","next_day","last_day","ones_in","days_ahead","how_many","place_of_one","nth_day","GREATEST_BASE","MOST_TERMS","GREATEST_N","term_on","signs_upto","is_term","least_length","refuse_measure","period_of","Measure","MOST_MONTHS","LONGEST_MONTH","Calendar","term_text","term_words","refuse_months","Sun","refuse_part","Moon","read_numbers","read_term","read_terms","read_sun","read_moon","read_calendar","Change","moved","MOST_PAIRS","first_parted","same","first_of_pairs","first_met","paper_of","meeting","within","refuse_wanted","days_of_month","days_of_year","dated","gathered","upon","until","till","nearer_ahead","near","kth","every","Rule","All","No","each_text","Each","wanted_text","dated_text","Dated","Not","Both","Either","But","Unlike","Later","Upon","Until","Near","Till","Kth","Every","MOST_BRACKETS","PAIR_WORDS","Reader","words_of","take_word","take_number","take_wanted","take_each","take_date","take_numbered","take_every","take_pair","take_within","take_plan","made_date","made_pair","made","read_rule","told_by_one","parts_in","shorter","FORMS","tell_date","tell_day","tell_move","tell_on","day_or_never","tell_next","tell_last","tell_nth","tell_count","tell_size","tell_same","paper_text","tell_meet","tell_within","tell_shorter","tell_show","tell_almanac","ANSWERS","words_of_row","kept_by","looked_up","named_rules","keep","Desk","_law_cell_at","_law_common","_law_moon","_law_calendar","_law_leaf","_law_two","_law_rule","_law_on","_law_day","_law_count","_law_by_days","_law_due"]:List String).map Str.ofString
noncomputable def bd:List Stmt:=behindTheImports pw
noncomputable def cd:Code:=.body bd sh.env_1
noncomputable def S0(w:World)(os:OsState):Shared:=⟨boot_heap w.params,Array.mk [],boot_drawn,boot_toks,os⟩
noncomputable def tB(w:World)(os:OsState):SharedT:=⟨sh.tree_4 w.params,15,{},Array.mk [],{},187,os⟩
noncomputable def tK(w:World)(os:OsState):SharedT:=⟨sh.tree_1932 w.params,1757,{},Array.mk [],{},2684,os⟩
noncomputable abbrev hK(w:World)(os:OsState):Shared:=(tK w os).abs
noncomputable def xt(s:Shared):Bool:=xlAt vw [] s&&recOk (RowW.records PySem.Challenge.rw_feastwheel_k91_whole_what_a_text_says.row.toRowW) s
section
variable(w:World)(os:OsState)
theorem pre:topGo treeTable pw w 11 (some (.ref 6)) 12 (S0 w os) (topStub pw)=some ((tB w os).abs,⟨denote treeTable cd,cd,⟨0,0,0,0⟩,[topFrame ⟨0,0,0,0⟩]⟩):=by kernel_rfl
theorem block:segRun treeTable pw w 11 (some (.ref 6)) 1 1 (tB w os).abs (blockOf bd sh.env_1 cd ⟨0,0,0,0⟩ [topFrame ⟨0,0,0,0⟩])=some (.next,(tB w os).abs,cd,⟨0,0,0,0⟩):=by kernel_rfl
theorem fin:topRun treeTable pw w 11 (some (.ref 6)) 2 (tK w os).abs (restOf [] sh.env_1 cd ⟨1139,0,1160,126⟩ [topFrame ⟨0,0,0,0⟩])=some (tK w os).abs:=by kernel_rfl
theorem run:topRun treeTable pw w 11 (some (.ref 6)) 14410 (S0 w os) (topStub pw)=some (tK w os).abs:=go_top (n:=12) (N:=14398) (pre w os) (piece_block (n:=1) (N:=14397) (block w os) (sh.chain pw bd w os [] 2 _ (fin w os)))
theorem siz:((boot_heap w.params).isNs mainGlobals&&(Array.mk []:Array GenState).size==0,(boot_heap w.params).objs.size,(boot_heap w.params).nsMap mainGlobals "__annotations__")=(true,11,some (.ref 6)):=by kernel_rfl
theorem l1:namesBound pw (hK w os).heap=true:=by kernel_rfl
theorem l2:gensDone (hK w os)=true:=by kernel_rfl
theorem l3:laidKept (boot_heap w.params) (hK w os).heap=true:=by kernel_rfl
theorem l0:staticsOk (importedModules pw.main.body) (boot_heap w.params) (hK w os).heap=true:=by kernel_rfl
theorem s1:seen ((recsOf vw).map (·.name)) (ownsOf vw) [] {hK w os with gens:=#[]}=expectedOf vw:=by kernel_rfl
theorem s2:(hK w os).heap.bltView=bltViewBooted:=by kernel_rfl
theorem s3:(hK w os).heap.keysOk (looseW vw lo) ((recsOf vw).map (·.name)) ((litsOf vw).map (·.1)) ((clssOf vw (looseW vw lo)).map (·.name))=true:=by kernel_rfl
theorem s4:(hK w os).heap.accountedOkI (importedModules pw.main.body)=true:=by kernel_rfl
theorem s5:(hK w os).heap.isNs mainGlobals=true:=by kernel_rfl
theorem s6:(hK w os).heap.isNs builtinsNs=true:=by kernel_rfl
theorem s7:tablesOk vw (hK w os).heap=true:=by kernel_rfl
theorem s8:xt (hK w os)=true:=by kernel_rfl
theorem s9:tabsOk vw (hK w os)=true:=by kernel_rfl
theorem t1:pinSeenD vw (drecsOf vw) (hK w os)=pinGoodD (drecsOf vw):=by kernel_rfl
theorem t2:plainSeenE vw (looseW vw lo) (hK w os)=plainGoodE vw (looseW vw lo):=by kernel_rfl
theorem t3:plainSeenD vw lo (hK w os)=plainGoodD vw lo:=by kernel_rfl
theorem t4:wideSeen vw (hK w os)=wideGood vw:=by kernel_rfl
theorem t5:clsSeenW vw lo (hK w os)=clsGoodW vw lo:=by kernel_rfl
end
noncomputable def K(P:Params):Frag:=(nat_lit 2,boot_o_2 P)::(by walk_at"K")
noncomputable def as:List Addr:=2::(by walk_at"A")
theorem mapT{t:BT}{n:Nat}{l:Life}{as:List Addr}(h:(as.all fun a=>Nat.blt a n&&(t.get a).isSome)=true):as.map (absHeap t n l).get?=as.map fun a=>(t.get a).bind alive:=
  List.map_congr_left fun a ha=>by
    have e:=Bool.and_eq_true_iff.mp (List.all_eq_true.mp h a ha);obtain ⟨o,ho⟩:=Option.isSome_iff_exists.mp e.2;rw [abs_get (of_decide_eq_true (by simpa [Nat.blt_eq] using e.1)) ho,ho]; rfl
theorem hy(w:World)(os:OsState):as.map (hK w os).heap.get?=(K w.params).map fun p=>some p.2:=(mapT (t:=sh.tree_1932 w.params) (n:=1757) (l:={}) (by kernel_rfl)).trans (by kernel_rfl)
noncomputable def hk:Hook:=kHook K as (fun _=>by kernel_rfl)
theorem left:LeftO PySem.Challenge.rw_feastwheel_k91_whole_what_a_text_says.row.prog vw lo xt hk.obs hk.val 99999:=by
  refine LeftO.of_pieces (H₀:=boot_heap) (H₁:=fun P=>absHeap (sh.tree_1932 P) 1757 {}) (gs₀:=Array.mk []) (gs₁:=Array.mk []) (d₀:=boot_drawn) (d₁:={}) (k₀:=boot_toks) (k₁:=2684) (M:=14410) (boot_open (by kernel_rfl) (by kernel_rfl) fun s=>by kernel_rfl) siz run (by kernel_rfl) fun w=>funext fun os=>Prod.ext ?_ (Prod.ext ?_ (hy w os))
  · exact look_both (look_both (look_both (l0 w os) (l1 w os)) (l2 w os)) (l3 w os)
  · show openSeen vw lo (importedModules pw.main.body) xt true (hK w os)=openGood vw lo
    unfold openSeen openGood;rw [s1 w os,s2 w os,s3 w os,s4 w os,s5 w os,s6 w os,s7 w os,s8 w os,s9 w os,t1 w os,t2 w os,t3 w os,t4 w os,t5 w os];rfl
def op(said:PySem.Challenge.rw_feastwheel_k91_whole_what_a_text_says.row.wellSaid=true):=fun hc=>holds_open (q:=vw) (loose:=lo) (Xt:=xt) (XP:=XL vw []) (Yf:=hk.obs) (Ya:=hk.val) (YP:=hk.says) (N:=99999) left hk.of hk.keeps (fun s e=>xl_of s (Bool.and_eq_true_iff.mp e).1) XL.keeps (by rfl) (by rfl) (by rfl) (fun s e=>recFacts_of (Bool.and_eq_true_iff.mp e).2) (by rfl) said (by decide +kernel) ⟨rfl,rfl,rfl,rfl,rfl,by decide +kernel⟩ (by w_witness2) hc
end Hd
local macro_rules | `(tactic| ac_rfl)=> `(tactic| decide +kernel)
local macro_rules | `(tactic| walk_at"o")=> `(tactic| first | exact Or.inl rfl | exact Or.inr rfl)
local macro_rules | `(tactic| walk_at"s")=> `(tactic| exact ⟨rfl,rfl,rfl,by ac_rfl,rfl,by ac_rfl,by ac_rfl⟩)
set_option maxRecDepth 100000
noncomputable abbrev Fr:=PySem.W.Frag
def js:=@List.length_map
def jv:=@PySem.Heap.get?_push_of_some
def qc:=@List.mem_cons_self
def qf:=@PySem.wpAny_bind
def qg:=@Int.emod_lt_of_pos
def qh:=@List.mem_cons_of_mem
def qk:=@Int.emod_nonneg
def qm:=@List.getElem?_eq_getElem
def qo:=@List.length_cons
def qq:=@List.mem_cons
def qr:=@PyProof.Rows.boot_str
def qv:=@List.getElem?_eq_some_iff
def ze:=@Nat.le_refl
def zh:=@List.mem_of_getElem?
def zi:=@Bool.false_ne_true
def zk:=@List.length_append
def zn:=@List.map_cons
def zo:=@PySem.Heap.lt_size
def zv:=@Nat.le_trans
def zw:=@PySem.Heap.get?_push_size
def xa:=@Nat.lt_of_lt_of_le
def xb:=@List.size_toArray
def xc:=@List.mem_singleton
def xh:=@if_pos
def xi:=@PySem.boot_len
def xk:=@if_neg
def xo:=@List.getElem?_map
def xp:=@Int.toNat_natCast
def xy:=@PySem.wpAny_pure
def xz:=@List.append_nil
def ya:=@List.mem_map
def yb:=@Bool.and_eq_true
def yi:=@List.not_mem_nil
def yk:=@congrArg
def yv:=@Nat.lt_of_le_of_lt
def yy:=@List.mem_append_right
def ua:=@List.map_map
def ub:=@Nat.shiftRight_eq_div_pow
def ui:=@List.mem_append
def uj:=@List.drop_of_length_le
def uk:=@List.take_of_length_le
def uu:=@Option.some.inj
def va:=@Nat.pow_le_pow_right
def vb:=@Int.mul_le_mul
def vc:=@PyProof.Rows.callWith_type1
def ve:=@Nat.zero_le
def vi:=@Nat.ne_of_lt
def vj:=@Nat.le_add_right
def vk:=@PySem.W.mg_none_of
def vt:=@PySem.F.plainAttrs_str
def vv:=@Int.mul_le_mul_of_nonneg_right
def vx:=@Nat.eq_of_testBit_eq
def ke:=@Int.natCast_add
def kg:=@List.sum_cons
def ki:=@Nat.two_pow_pos
def ko:=@Array.length_toList
def kq:=@Int.dvd_refl
def kr:=@Option.map_eq_some_iff
def ku:=@Bool.eq_iff_iff
def kx:=@List.map_append
def ky:=@List.mem_iff_getElem?
def kz:=@PySem.F.plainAttrs_list
def Jn:=@Int.mul_le_mul_of_nonneg_left
def Qb:=@List.length_range
def Qr:=@List.take_add_one
def Zl:=@Int.le_of_lt
def Zp:=@Int.mul_add
def Zs:=@Int.mul_comm
def Xs:=@Int.mul_ediv_add_emod
def ja0:=@List.replicate_succ
def ja1:=@List.takeWhile_append_dropWhile
def ja2:=@List.getD_eq_getElem?_getD
def ja3:=@Int.mul_one
def ja4:=@PySem.Heap.get?_update_other
def ja5:=@PySem.wpAny_mono
def ja6:=@List.drop_eq_getElem_cons
def ja7:=@Nat.testBit_and
def ja8:=@PySem.W.kia_one
def ja9:=@List.all_eq_true
def jb0:=@List.length_drop
def jb1:=@List.dropWhile_cons
def jb2:=@List.length_replicate
def jb3:=@beq_iff_eq
def jb4:=@PySem.wpAny_truthy_bool
def jb5:=@List.length_eq_zero_iff
def jb6:=@Nat.testBit_mod_two_pow
def jb7:=@Option.toList_some
def jb8:=@PySem.wpAny_Call_Name_kw
def jb9:=@List.mem_append_left
def jc0:=@List.length_take
def jc1:=@List.take_length
def jc2:=@Int.ediv_eq_zero_of_lt
def jc3:=@Nat.lt_of_succ_lt_succ
def jc4:=@Nat.testBit_shiftRight
def jc5:=@List.append_assoc
def jc6:=@List.filter_eq_self
def jc7:=@List.mem_range
def jc8:=@Nat.testBit_or
def jc9:=@Int.add_zero
def jd0:=@PySem.F.slot_list_extend
def jd1:=@PySem.F.type_list_extend
def jd2:=@PySem.W.callWith_K
def jd3:=@Nat.testBit_succ
def jd4:=@Nat.zero_testBit
def jd5:=@PySem.wpAny_seqItems
def jd6:=@List.flatMap_cons
def jd7:=@List.flatten_cons
def jd8:=@of_decide_eq_true
def jd9:=@PySem.wpAny_field
def je0:=@Nat.testBit_lt_two_pow
def je1:=@PySem.F.slot_str_split
def je2:=@PySem.F.type_str_split
def je3:=@List.getElem?_append_right
def je4:=@Array.toList_inj
def je5:=@Int.ediv_le_self
def je6:=@Nat.lt_of_not_le
def je7:=@PySem.Heap.get?_update_self
def je8:=@Int.lt_or_le
def je9:=@List.count_cons_of_ne
def jf0:=@Nat.lt_irrefl
def jf1:=@PyProof.Rows.boot_abs
def jf2:=@PySem.W.methodCall_KW
def jf3:=@PySem.wpAny_setField_rec
def jf4:=@Int.mul_nonneg
def jf5:=@Int.one_mul
def jf6:=@List.getElem?_append_left
def jf7:=@Nat.one_pos
def jf8:=@Nat.testBit_eq_decide_div_mod_eq
def jf9:=@Int.ediv_nonneg
def jg0:=@Int.emod_eq_of_lt
def jg1:=@Int.lt_trichotomy
def jg2:=@Int.natCast_pow
def jg3:=@List.length_nil
def jg4:=@Option.isSome_iff_exists
def jg5:=@PySem.wpAny_passesOwn
def jg6:=@Int.mul_le_mul_of_nonpos_right
def jg7:=@Int.zero_add
def jg8:=@Int.le_refl
def jg9:=@Int.mul_assoc
def jh0:=@Int.toNat_of_nonneg
def jh1:=@List.flatMap_append
def jh2:=@Nat.mul_le_mul_left
def jh3:=@PySem.W.mg_of
def jh4:=@PySem.mem_of_lookup
def jh5:=@PySem.wpAny_callSpecial?_slot
def jh6:=@Int.gcd_dvd_left
def jh7:=@List.cons_append
def jh8:=@List.filter_cons
def jh9:=@Nat.mod_eq_of_lt
def ji0:=@PySem.Heap.size_push
def ji1:=@Nat.eq_zero_or_pos
def ji2:=@PyProof.Rows.boot_isinstance
def ji3:=@Bool.or_eq_true
def ji4:=@Int.mul_neg
def ji5:=@List.find?_cons
def ji6:=@List.singleton_append
def ji7:=@Nat.testBit_two_pow_sub_one
def ji8:=@PyProof.Rows.boot_int
def ji9:=@PyProof.Rows.boot_sum
def jj0:=@PySem.F.slot_int_bit_length
def jj1:=@PySem.F.type_int_bit_length
def jj2:=@Int.dvd_trans
def jj3:=@Int.gcd_dvd_right
def jj4:=@Int.add_mul_emod_self_left
def jj5:=@Nat.mul_le_mul_right
def jj6:=@List.drop_zero
def jj7:=@Bool.not_eq_true
def jj8:=@List.getElem_mem
def jj9:=@Nat.testBit_zero
def jk0:=@Int.add_mul
def jk1:=@List.length_reverse
def jk2:=@Nat.add_le_add_left
def jk3:=@Nat.testBit_two_pow
def jk4:=@Int.mul_ediv_cancel_left
def jk5:=@List.getElem?_take_of_lt
def jk6:=@List.map_nil
def jk7:=@Int.dvd_of_emod_eq_zero
def jk8:=@Int.le_of_dvd
def jk9:=@Int.natCast_mul
def jl0:=@Int.natCast_nonneg
def jl1:=@List.any_cons
def jl2:=@List.forIn_cons
def jl3:=@List.getElem?_cons_succ
def jl4:=@List.getElem?_drop
def jl5:=@List.nil_append
def jl6:=@Nat.min_eq_left
def jl7:=@PyProof.Rows.boot_tuple
def jl8:=@Int.fmod_nonneg_of_pos
def jl9:=@List.dropWhile_sublist
def jm0:=@List.getElem?_zipWith'
def jm1:=@PySem.F.plainAttrs_int
def jm2:=@Bool.not_eq_true'
def jm3:=@Int.mul_left_comm
def jm4:=@Nat.mul_left_comm
def jm5:=@PySem.wpAny_newObj_type
def jm6:=@Int.natAbs_mul
def jm7:=@Int.add_mul_ediv_left
def jm8:=@Int.emod_add_mul_ediv
def jm9:=@Int.fmod_add_fdiv_mul
def jn0:=@Int.le_trans
def jn1:=@Int.mul_add_ediv_left
def jn2:=@List.getElem?_eq_none
def jn3:=@List.length_filter_le
def jn4:=@Nat.lt_trans
def jn5:=@Nat.testBit_shiftLeft
def jn6:=@Nat.zero_add
def jn7:=@PyProof.Rows.boot_all
def jn8:=@PySem.codeAny_mono
def jn9:=@Int.natCast_emod
def jo0:=@Nat.div_eq_of_lt
def jo1:=@Nat.lt_succ_self
def jo2:=@PySem.wpAny_call_entry
def jo3:=@PySem.wpAny_pyIter_zip
def jo4:=@Array.toList_append
def jo5:=@List.filterMap_cons
def jo6:=@List.map_congr_left
def jo7:=@List.nodup_cons
def jo8:=@Nat.lt_two_pow_self
def jo9:=@Nat.pow_add
def jp0:=@Nat.testBit_xor
def jp1:=@Nat.toList_repr
def jp2:=@Option.map_some
def jp3:=@PySem.W.callWith_K0
def jp4:=@PySem.W.plainGet_of
def jp5:=@Nat.le_of_eq
def jp6:=@Nat.mul_zero
def jp7:=@Nat.succ_mul
def jp8:=@List.forIn_nil
def jp9:=@List.take_zero
def jq0:=@Int.not_le
def jq1:=@Int.mul_pos
namespace L2
open PySem PySem.Spec PyProof.Rows
noncomputable abbrev Key:=Sum Int Str
noncomputable def Vh:Key->Value->Bool
 | .inl k,v=>Value.isInt k v
 | .inr x,v=>Value.isStrOf x v
noncomputable def ADb(w:World):Key->Int
 | .inl k=>hashInt k
 | .inr x=>hashStr w x
theorem Dy:∀{k:Key} {v:Value},Vh k v=true->(∃i t,k=Sum.inl i/\v=Value.int i t)\/(∃x t,k=Sum.inr x/\v=Value.str x t)
 | .inl i,v,h=>by
  obtain⟨t,e⟩:=Value.isInt_shape (k:=i) (v:=v) h;exact .inl ⟨i,t,rfl,e⟩
 | .inr x,v,h=>by
  obtain⟨t,e⟩:=Value.isStrOf_shape (x:=x) (v:=v) h;exact .inr ⟨x,t,rfl,e⟩
theorem jD(i:Int)(t:Tok):Vh (.inl i) (.int i t)=true:=by simp[Vh,Value.isInt]
theorem jC(x:Str)(t:Tok):Vh (.inr x) (.str x t)=true:=by simp[Vh,Value.isStrOf]
theorem z9(a b:Int):decide ((Sum.inl a:Key)=Sum.inl b)=(a==b):=by
 by_cases e:a=b
 ·subst e;simp
 ·have h:¬(Sum.inl a:Key)=Sum.inl b:=fun q=>e (Sum.inl.inj q);rw[decide_eq_false h];exact(beq_eq_false_iff_ne.mpr e).symm
theorem zx(a b:Str):decide ((Sum.inr a:Key)=Sum.inr b)=decide (a=b):=by
 by_cases e:a=b
 ·subst e;simp
 ·have h:¬(Sum.inr a:Key)=Sum.inr b:=fun q=>e (Sum.inr.inj q);rw[decide_eq_false h,decide_eq_false e]
theorem zz(a:Int)(b:Str):decide ((Sum.inl a:Key)=Sum.inr b)=false:=decide_eq_false (fun q=>nomatch q)
theorem zy(a:Str)(b:Int):decide ((Sum.inr a:Key)=Sum.inl b)=false:=decide_eq_false (fun q=>nomatch q)
noncomputable def En(prog:Program)(w:World):PySem.KeyKind prog w Key where
 is:=Vh
 hash:=ADb w
 inj:=fun v a b ha hb=>by
  rcases Dy ha with ⟨i,t,rfl,rfl⟩ | ⟨x,t,rfl,rfl⟩
  ·rcases Dy hb with ⟨j,u,rfl,e⟩ | ⟨y,u,rfl,e⟩
   ·injection e with e1 _;rw[e1]
   ·exact nomatch e
  ·rcases Dy hb with ⟨j,u,rfl,e⟩ | ⟨y,u,rfl,e⟩
   ·exact nomatch e
   ·injection e with e1 _;rw[e1]
 byValue:=fun k v h=>by
  rcases Dy h with ⟨i,t,rfl,rfl⟩ | ⟨x,t,rfl,rfl⟩<;>rfl
 pyHash:=fun hv h=>by
  rcases Dy hv with ⟨i,t,rfl,rfl⟩ | ⟨x,t,rfl,rfl⟩
  ·exact wpAny_pyHash_int h
  ·exact wpAny_pyHash_str h
 eqBool:=fun hu hv h=>by
  rcases Dy hu with ⟨i,t,rfl,rfl⟩ | ⟨x,t,rfl,rfl⟩
  ·rcases Dy hv with ⟨j,u,rfl,rfl⟩ | ⟨y,u,rfl,rfl⟩
   ·rw[z9] at h;exact wpAny_eqBool_int h
   ·rw[zz] at h;exact SeqAt.EqAt.int_str i t y u _ _ _ _ h
  ·rcases Dy hv with ⟨j,u,rfl,rfl⟩ | ⟨y,u,rfl,rfl⟩
   ·rw[zy] at h;exact SeqAt.EqAt.str_int x t j u _ _ _ _ h
   ·rw[zx] at h;exact wpAny_eqBool_str h
 «strs»:=fun k x t v h=>by
  rcases Dy h with ⟨i,u,rfl,e⟩ | ⟨y,u,rfl,e⟩
  ·exact nomatch e
  ·injection e with e1 _;subst e1;cases v<;>rfl
theorem Y8(prog:Program)(w:World)(i:Int)(t:Tok):(En prog w).is (.inl i) (.int i t)=true:=jD i t
theorem Jv(prog:Program)(w:World)(x:Str)(t:Tok):(En prog w).is (.inr x) (.str x t)=true:=jC x t
inductive V where
 | non | bl (b:Bool) | int (i:Int) | str (x:Str) | byt (b:Array UInt8) | flt (b:UInt64) | ref (a:Addr) | ty (n:String)
 deriving DecidableEq
noncomputable def RelV:V->Value->Prop
 | .non,u=>u=Value.none
 | .bl b,u=>u=Value.bool b
 | .int i,u=>∃t,u=Value.int i t
 | .str x,u=>∃t,u=Value.str x t
 | .byt b,u=>∃t,u=Value.bytes b t
 | .flt b,u=>∃t,u=Value.float b t
 | .ref a,u=>u=Value.ref a
 | .ty n,u=>u=Value.type n
noncomputable abbrev Vals:List V->List Value->Prop:=Paired RelV
variable{us:List Value}
theorem Vals.length{xs:List V}(r:Vals xs us):xs.length=us.length:=Paired.length r
theorem Vals.get:∀{xs:List V} {us:List Value} {i:Nat} {x:V},Vals xs us->xs[i]?=some x->∃u,us[i]?=some u/\RelV x u
 | _,_,_,_,.nil,e=>by simp at e
 | _,_,0,_,.cons r _,e=>by simp at e;subst e;exact⟨_,rfl,r⟩
 | _,_,i+1,x,.cons _ t,e=>by
  obtain⟨u,h1,h2⟩:=Vals.get (i:=i) (x:=x) t (by simpa using e);exact⟨u,by simpa using h1,h2⟩
variable{u:Value}
theorem Vals.set{x:V}(r:RelV x u):∀{xs:List V} {us:List Value} (i:Nat),Vals xs us->Vals (xs.set i x) (us.set i u)
 | _,_,_,.nil=>.nil
 | _,_,0,.cons _ t=>.cons r t
 | _,_,i+1,.cons q t=>.cons q (Vals.set r i t)
theorem Vals.append:∀{xs ys:List V} {us ws:List Value},Vals xs us->Vals ys ws->Vals (xs++ys) (us++ws)
 | _,_,_,_,.nil,s=>s
 | _,_,_,_,.cons r t,s=>.cons r (Vals.append t s)
theorem Vals.take:∀{xs:List V} {us:List Value} (n:Nat),Vals xs us->Vals (xs.take n) (us.take n)
 | _,_,0,_=>.nil
 | _,_,_+1,.nil=>.nil
 | _,_,n+1,.cons r t=>.cons r (Vals.take n t)
theorem Vals.drop:∀{xs:List V} {us:List Value} (n:Nat),Vals xs us->Vals (xs.drop n) (us.drop n)
 | _,_,0,r=>r
 | _,_,_+1,.nil=>.nil
 | _,_,n+1,.cons _ t=>Vals.drop n t
noncomputable def Jb:Option V->Option Value->Prop
 | some v,some u=>RelV v u
 | none,none=>True
 | _,_=>False
noncomputable def KV{κ:Type}:List (κ×V)->List (κ×Value)->Prop:=Paired fun(p:κ×V) (q:κ×Value)=>p.1=q.1/\RelV p.2 q.2
noncomputable def kV:Key->V
 | .inl i=>.int i
 | .inr x=>.str x
inductive HO where
 | lst (xs:List V)
 | tup (xs:List V)
 | dK (kvs:List (Key×V)) | dT (kvs:List (List Key×V))
 | set (S:Int->Bool) (n:Nat)
 | ins (C dx:Addr) (fs:List (Str×V))
 | own (x:Addr)
 | xd (fs:List (Str×V))
 | met (f x:Addr)
 | rng (lo hi:Int)
 | frz (o:Obj) (u:HO)
 | tbl (ps:Array Value)
 | ext (φ:Heap->Prop)
noncomputable abbrev Hp:=Addr->Option HO
noncomputable def upd(H:Hp)(a:Addr)(o:HO):Hp:=fun b=>if b=a then some o else H b
variable{H:Hp}{a:Addr}
theorem Ai{o:HO}:upd H a o a=some o:=by unfold upd;rw[xh rfl]
theorem Ax{b:Addr}{o:HO}(h:b≠a):upd H a o b=H b:=by unfold upd;rw[xk h]
theorem qx{o u:HO}:upd (upd H a o) a u=upd H a u:=by
 funext b;unfold upd;split<;>rfl
theorem HJ{b:Addr}{o u:HO}(h:H a=some o)(h':H b=some u)(d:o≠u):a≠b:=by
 intro e;subst e;rw[h] at h';exact d (uu h')
theorem Bm{b:Addr}{o:HO}(h:H a=some o)(h':H b=none):a≠b:=by
 intro e;subst e;rw[h] at h';cases h'
section
variable(P:Program)(w:World)
noncomputable def Ej(H:Hp)(h:Heap)(a:Addr):HO->Prop
 | .lst xs=>xs.length<=sizeLine/\∃(its:List Value) (n:Nat),Vals xs its/\h.get? a=some { cls:=.type "list",data:=.seq its.toArray n }
 | .tup xs=>xs.length<=sizeLine/\∃its:List Value,Vals xs its/\IsTup h a its.toArray
 | .dK kvs=>kvs.length<=sizeLine/\(a==sysModules)=false/\∃vs,KV kvs vs/\h.DictOf (En P w) a vs
 | .dT kvs=>kvs.length<=sizeLine/\(a==sysModules)=false/\∃xs:List (List Key×Addr×Value),
  Paired (fun (p:List Key×V) (q:List Key×Addr×Value)=>p.1=q.1/\H q.2.1=some (.tup (p.1.map kV))/\RelV p.2 q.2.2) kvs xs/\
  ∃o es ep,h.get? a=some o/\o.ExactDict/\o.data=.dict es ep/\es.toList=xs.map (entryOfKey (tupleKind (En P w)))/\(xs.map (·.1)).Nodup
 | .set S n=>h.SetOf (intKind P w) a S n
 | .ins C dx fs=>H dx=some (.own a)/\fs.length<=1000/\dx≠a/\h.get? a=some (PySem.W.instObj C dx)/\
  ∃mA,h.Ns1 dx mA/\(∀f,Jb (fs.lookup f) (mA f))/\PySem.Within mA (fs.map (·.1))
 | .own _=>∃o,h.get? a=some o
 | .xd fs=>∃mA,h.Ns1 a mA/\∀f,Jb (fs.lookup f) (mA f)
 | .rng lo hi=>∃t u v,h.get? a=some { cls:=.type "range",data:=.fields #[.int lo t,.int hi u,.int 1 v] }
 | .frz o u=>h.get? a=some o/\Ej H h a u
 | .tbl ps=>h.get? a=some { cls:=.none,data:=.fields ps }
 | .met f x=>h.get? a=some (PySem.W.methodObj (.ref f) (.ref x))
 | .ext φ=>φ h/\(∃o,h.get? a=some o)/\∀h1 h2:Heap,φ h1->(∀o,h1.get? a=some o->h2.get? a=some o)->φ h2
noncomputable def HOk(H:Hp)(h:Heap):Prop:=∀a o,H a=some o->Ej P w H h a o
end
section
variable{P:Program}{w:World}{H H':Hp}{h h':Heap}{a:Addr}{o:HO}
theorem Ej.lt(x:Ej P w H h a o):a<h.objs.size:=by
 cases o with
 | lst xs=>obtain⟨_,_,_,_,e⟩:=x;exact zo e
 | tup xs=>obtain⟨_,_,_,p⟩:=x;exact p.lt
 | dK kvs=>obtain⟨_,_,_,_,o,_,_,e,_⟩:=x;exact zo e
 | dT kvs=>obtain⟨_,_,_,_,o,_,_,e,_⟩:=x;exact zo e
 | set S n=>obtain⟨o,_,_,_,e,_⟩:=x;exact zo e
 | ins C dx fs=>obtain⟨_,_,_,e,_⟩:=x;exact zo e
 | own y=>obtain⟨_,e⟩:=x;exact zo e
 | xd fs=>obtain⟨_,⟨_,_,_,e,_⟩,_⟩:=x;exact zo e
 | rng lo hi=>obtain⟨_,_,_,e⟩:=x;exact zo e
 | frz ob u=>obtain⟨e,_⟩:=x;exact zo e
 | tbl ps=>exact zo (show h.get? a=some _ from x)
 | met f y=>exact zo (show h.get? a=some _ from x)
 | ext φ=>obtain⟨_,⟨_,e⟩,_⟩:=x;exact zo e
theorem Paired.mapP{α β:Type}{F G:α->β->Prop}:∀{l₁:List α} {l₂:List β},Paired F l₁ l₂->(∀a b,F a b->G a b)->Paired G l₁ l₂
 | _,_,.nil,_=>.nil
 | _,_,.cons r t,f=>.cons (f _ _ r) (Paired.mapP t f)
theorem Ej.stay(x:Ej P w H h a o)(k:∀b u,(b=a\/H b=some (.own a))->h.get? b=some u->h'.get? b=some u)
 (ho:∀b,H b=some (.own a)->H' b=some (.own a))(ht:∀b xs,H b=some (.tup xs)->H' b=some (.tup xs)):Ej P w H' h' a o:=by
 induction o with
 | lst xs=>obtain⟨z,its,n,r,e⟩:=x;exact⟨z,its,n,r,k _ _ (.inl rfl) e⟩
 | tup xs=>obtain⟨z,its,r,ob,e,c⟩:=x;exact⟨z,its,r,ob,k _ _ (.inl rfl) e,c⟩
 | dK kvs=>obtain⟨z,y,vs,r,ob,es,ep,e,c⟩:=x;exact⟨z,y,vs,r,ob,es,ep,k _ _ (.inl rfl) e,c⟩
 | dT kvs=>
  obtain⟨z,y,xs,r,ob,es,ep,e,c⟩:=x;exact⟨z,y,xs,Paired.mapP r fun p q z=>⟨z.1,ht _ _ z.2.1,z.2.2⟩,ob,es,ep,k _ _ (.inl rfl) e,c⟩
 | set S n=>obtain⟨ob,es,ep,t,e,c⟩:=x;exact⟨ob,es,ep,t,k _ _ (.inl rfl) e,c⟩
 | ins C dx fs=>
  obtain⟨d,z,ne,e,mA,⟨od,es,ep,e2,c⟩,r⟩:=x;exact⟨ho _ d,z,ne,k _ _ (.inl rfl) e,mA,⟨od,es,ep,k _ _ (.inr d) e2,c⟩,r⟩
 | own y=>obtain⟨ob,e⟩:=x;exact⟨ob,k _ _ (.inl rfl) e⟩
 | xd fs=>obtain⟨mA,⟨od,es,ep,e,c⟩,r⟩:=x;exact⟨mA,⟨od,es,ep,k _ _ (.inl rfl) e,c⟩,r⟩
 | rng lo hi=>obtain⟨t,u,v,e⟩:=x;exact⟨t,u,v,k _ _ (.inl rfl) e⟩
 | frz ob u ih=>obtain⟨e,q⟩:=x;exact⟨k _ _ (.inl rfl) e,ih q⟩
 | tbl ps=>
  have e:h.get? a=some { cls:=.none,data:=.fields ps }:=x;show h'.get? a=some { cls:=.none,data:=.fields ps };exact k a _ (.inl rfl) e
 | met f y=>
  have e:h.get? a=some (PySem.W.methodObj (.ref f) (.ref y)):=x;show h'.get? a=some (PySem.W.methodObj (.ref f) (.ref y));exact k a _ (.inl rfl) e
 | ext φ=>obtain⟨p,⟨o,e⟩,st⟩:=x;exact⟨st _ _ p fun o q=>k _ _ (.inl rfl) q,⟨o,k _ _ (.inl rfl) e⟩,st⟩
theorem HOk.lt(x:HOk P w H h)(e:H a=some o):a<h.objs.size:=(x a o e).lt
theorem HOk.fresh(x:HOk P w H h)(e:h.objs.size<=a):H a=none:=by
 cases q:H a with
 | none=>rfl
 | some u=>exact absurd (xa (x.lt q) e) (jf0 _)
theorem HOk.kept(x:HOk P w H h)(k:∀b u,h.get? b=some u->h'.get? b=some u):HOk P w H h':=fun a o e=>
 (x a o e).stay (fun b u _ q=>k b u q) (fun _ q=>q) fun _ _ q=>q
theorem HOk.laid(x:HOk P w H h)(k:∀b u,h.get? b=some u->h'.get? b=some u)(hp:h.objs.size<=a)(new:Ej P w (upd H a o) h' a o):HOk P w (upd H a o) h':=fun b u e=>by
 have hn:=x.fresh hp;by_cases hb:b=a
 ·subst hb;rw[Ai] at e;cases e;exact new
 ·rw[Ax hb] at e;exact(x b u e).stay (fun c v _ q=>k c v q) (fun c q=>by rw[Ax (Bm q hn)];exact q) fun c xs q=>by rw[Ax (Bm q hn)];exact q
end
noncomputable def Rd(H:Hp)(a:Addr)(u:HO):Prop:=H a=some u\/∃o,H a=some (.frz o u)
theorem Rd.ok{P:Program}{w:World}{h:Heap}{u:HO}(r:Rd H a u)(x:HOk P w H h):Ej P w H h a u:=by
 rcases r with r | ⟨o,r⟩
 ·exact x a u r
 ·obtain⟨_,q⟩:=x a _ r;exact q
noncomputable def Mut:Option HO->Prop
 | some (.lst _)=>True
 | some (.dK _)=>True
 | some (.dT _)=>True
 | some (.set _ _)=>True
 | some (.ins _ _ _)=>True
 | some (.ext _)=>True
 | _=>False
section
variable{P:Program}{w:World}{H:Hp}{h h':Heap}{x e:Addr}{o':HO}
theorem HOk.write(ok:HOk P w H h)(mu:Mut (H x))(he:e=x\/H e=some (.own x))(k:∀b u,b≠e->h.get? b=some u->h'.get? b=some u)(heo:∃u,h'.get? e=some u)
 (new:Ej P w (upd H x o') h' x o'):HOk P w (upd H x o') h':=fun b u q=>by
 have nown:∀c y,H c=some (.own y)->c≠x:=fun c y r z=>by subst z;rw[r] at mu;exact mu
 have ntup:∀c xs,H c=some (.tup xs)->c≠x:=fun c xs r z=>by subst z;rw[r] at mu;exact mu
 by_cases hb:b=x
 ·subst hb;rw[Ai] at q;cases q;exact new
 ·rw[Ax hb] at q;by_cases hbe:b=e
  ·have q':H b=some (.own x):=by
    rcases he with z | z
    ·exact absurd (hbe.trans z) hb
    ·rw[hbe];exact z
   rw[q] at q';cases q';obtain⟨v,hv⟩:=heo;exact⟨v,by rw[hbe];exact hv⟩
  ·refine(ok b u q).stay (fun c v hc r=>k c v ?_ r) (fun c r=>by rw[Ax (nown c b r)];exact r) fun c xs r=>by rw[Ax (ntup c xs r)];exact r
   rcases hc with rfl | hc
   ·exact hbe
   ·rintro rfl;rcases he with z | z
    ·exact nown c b hc z
    ·rw[hc] at z;cases z;exact hb rfl
end
structure Un(fs ex:List Addr)(H H':Hp)(h h':Heap):Prop where
 keep:∀b o,h.get? b=some o->H b=none->b∉fs->b∉ex->h'.get? b=some o
 slot:∀b o,h.get? b=some o->H b=none->b∈fs->b∉ex->∃sl,h'.get? b=some { o with slots:=sl }
 free:∀b o,h.get? b=some o->H b=none->b∉ex->H' b=none
 there:∀b o,h.get? b=some o->b∉ex->∃o',h'.get? b=some o'
 tups:∀b xs,H b=some (.tup xs)->H' b=some (.tup xs)
 frzs:∀b o u,H b=some (.frz o u)->H' b=some (.frz o u)
 tbls:∀b ps,H b=some (.tbl ps)->∃more,H' b=some (.tbl (ps++more))
section
variable{fs fs' ex ex':List Addr}{H H1 H2:Hp}{h h1 h2 h':Heap}{a x e:Addr}{o:HO}
theorem Un.any(u:Un fs ex H H1 h h1){b:Addr}{ob:Obj}(q:h.get? b=some ob)(n:H b=none)(hx:b∉ex):∃sl,h1.get? b=some { ob with slots:=sl }:=by
 by_cases hb:b∈fs
 ·exact u.slot b ob q n hb hx
 ·exact⟨ob.slots,u.keep b ob q n hb hx⟩
theorem Un.kept(k:∀b u,h.get? b=some u->h'.get? b=some u):Un fs ex H H h h':=
 ⟨fun b ob q _ _ _=>k b ob q,fun b ob q _ _ _=>⟨ob.slots,k b ob q⟩,fun _ _ _ n _=>n,fun b ob q _=>⟨ob,k b ob q⟩,fun _ _ q=>q,fun _ _ _ q=>q,fun _ ps q=>⟨#[],by rw[q];simp⟩⟩
theorem Un.refl:Un fs ex H H h h:=Un.kept fun _ _ q=>q
theorem Un.laid(k:∀b u,h.get? b=some u->h'.get? b=some u)(hp:h.objs.size<=a)(hn:H a=none):Un fs ex H (upd H a o) h h' where
 keep:=fun b u q _ _ _=>k b u q
 slot:=fun b u q _ _ _=>⟨u.slots,k b u q⟩
 free:=fun b u q n _=>by rw[Ax (vi (xa (zo q) hp))];exact n
 there:=fun b u q _=>⟨u,k b u q⟩
 tups:=fun b xs q=>by rw[Ax (Bm q hn)];exact q
 frzs:=fun b u xs q=>by rw[Ax (Bm q hn)];exact q
 tbls:=fun b ps q=>⟨#[],by rw[Ax (Bm q hn),q];simp⟩
theorem Un.write(mu:Mut (H x))(he:e=x\/H e=some (.own x))(k:∀b u,b≠e->h.get? b=some u->h'.get? b=some u)(heo:∃u,h'.get? e=some u):Un fs ex H (upd H x o) h h':=by
 have hx:∀b,H b=none->b≠x:=fun b n z=>by subst z;rw[n] at mu;exact mu
 have hb:∀b,H b=none->b≠e:=fun b n z=>by
  subst z;rcases he with r | r
  ·exact hx b n r
  ·rw[n] at r;cases r
 have hm:∀b u,H b=some u->¬Mut (some u)->b≠x:=fun b u q nm z=>by subst z;rw[q] at mu;exact nm mu
 refine⟨fun b u q n _ _=>k b u (hb b n) q,fun b u q n _ _=>⟨u.slots,k b u (hb b n) q⟩,fun b u q n _=>by rw[Ax (hx b n)];exact n,fun b u q _=>?_,
  fun b xs q=>by rw[Ax (hm b _ q fun z=>z)];exact q,fun b u xs q=>by rw[Ax (hm b _ q fun z=>z)];exact q,fun b ps q=>⟨#[],by rw[Ax (hm b _ q fun z=>z),q];simp⟩⟩
 by_cases hbe:b=e
 ·subst hbe;exact heo
 ·exact⟨u,k b u hbe q⟩
end
noncomputable def trk(h:Heap)(H:Hp):List Addr:=(List.range h.objs.size).filter fun a=>(H a).isSome
noncomputable def Xe(h:Heap)(H:Hp):Heap:=PySem.W.hideAll h (trk h H)
theorem jK(h:Heap)(H:Hp):(Xe h H).objs.size=h.objs.size:=PySem.W.hideAll_size _ _
theorem o7{h:Heap}{b:Addr}{o:Obj}(e:h.get? b=some o)(n:H b=none):(Xe h H).get? b=some o:=
 PySem.W.hideAll_get _ e fun hm=>by
  have q:(H b).isSome=true:=(List.mem_filter.mp hm).2;rw[n] at q;simp at q
theorem uQ{h:Heap}{b:Addr}{o:Obj}(e:(Xe h H).get? b=some o):h.get? b=some o/\H b=none:=by
 have e':h.get? b=some o:=PySem.W.of_hideAll (trk h H) e;refine⟨e',?_⟩;cases q:H b with
 | none=>rfl
 | some x=>
  have hm:b∈trk h H:=List.mem_filter.mpr ⟨jc7.mpr (zo e'),by simp[q]⟩;have z:(Xe h H).get? b=none:=PySem.W.hideAll_none (trk h H) hm;rw[z] at e;cases e
noncomputable def vf(g h:Heap)(L:Addr):List (Addr×Obj):=(List.range h.objs.size).filterMap fun a=>if a=L\/(g.get? a).isSome=true then none else (h.get? a).map fun o=>(a,o)
noncomputable def rest(g h:Heap)(L d:Addr):List (Addr×Obj):=(vf g h L).filter fun p=>decide (p.1≠d)
structure Mod(K:Fr)(mg:Str->Option Value)(base:Heap):Prop where
 kin:K.In base
 glob:base.Ns mainGlobals mg
 blt:∃mb,base.Ns builtinsNs mb/\∀x:Str,x≠"__name__"->mb x=bootBuiltins x
 nolimit:base.NoLimit
structure Cx where
 prog:Program
 w:World
 K:Fr
 mg:Str->Option Value
 base:Heap
 A:Around
 N:List Str
 s₀:Shared
 H₀:Hp
 env:Env
 outer:List Env
 stack:List Env
 ex:List Addr
 fn:Str->Bool
 calm:Bool
 pn:List (Addr×Obj)
 xe:Value->Shared->Prop
noncomputable def frs(l:List Env):List Addr:=l.filterMap (·.frame)
noncomputable abbrev Cx.fs(X:Cx):List Addr:=frs X.outer
noncomputable def Vis(sc:Scope)(x:Str):Prop:=sc.names.lookup x=some .local\/sc.names.lookup x=some .cell\/sc.names.lookup x=some .free
noncomputable def Loc(sc:Scope)(x:Str):Prop:=sc.names.lookup x=some .local\/sc.names.lookup x=some .cell
noncomputable def Look(env:Env)(h:Heap)(m:Str->Option Value)(x:Str)(u:Value):Prop:=
 (env.kindOf x=some .local/\m x=some u)\/((env.kindOf x=some .cell\/env.kindOf x=some .free)/\∃c,env.cells.lookup x=some c/\h.IsCell c (some u))
structure Cx.Ok(X:Cx):Prop where
 mod:Mod X.K X.mg X.base
 kind:X.env.scope.kind=.function
 glob:X.env.globals=mainGlobals
 blt:X.env.builtins=builtinsNs
 above:X.s₀.heap.objs.size<=X.env.locals
 inj:∀x y c,X.env.cells.lookup x=some c->X.env.cells.lookup y=some c->x=y
 has:∀x,(X.env.kindOf x=some .cell\/X.env.kindOf x=some .free)->∃c,X.env.cells.lookup x=some c
 cab:∀x c,X.fn x=true->X.env.cells.lookup x=some c->X.s₀.heap.objs.size<=c
 hd:X.calm=true->X.A.handled=none
 frames:X.A.frames=some X.stack
 stk:X.stack=X.outer\/(X.stack=X.env::X.outer/\X.env.frame=some X.env.locals)
 exf:∀b∈X.ex,b≠X.env.locals/\∀x c,X.env.cells.lookup x=some c->c≠b
 bs:∀b o,X.base.get? b=some o->X.s₀.heap.get? b=some o/\X.H₀ b=none
 bsz:X.base.objs.size<=X.s₀.heap.objs.size
 noex:∀b o,X.base.get? b=some o->b∉X.ex
 exfs:∀b∈X.ex,b∉X.fs
 funs:X.s₀.heap.FunFrames X.base X.outer
 frf:∀b∈X.fs,X.H₀ b=none
structure Inv(X:Cx)(pins:List (Addr×Obj))(Z:List (Option V))(H:Hp)(s:Shared):Prop where
 ok:X.Ok
 os:s.os=X.s₀.os
 bare:AllBare s.gens
 base:Un X.fs X.ex X.H₀ H X.s₀.heap s.heap
 loc:∃m,s.heap.Ns X.env.locals m/\∀(i:Nat) (x:Str) (v:V),X.N[i]?=some x->Z[i]?=some (some v)->Vis X.env.scope x->∃u,RelV v u/\Look X.env s.heap m x u
 cell:∀x c,X.env.cells.lookup x=some c->∃v,s.heap.IsCell c v
 free:H X.env.locals=none
 freeC:∀x c,X.env.cells.lookup x=some c->H c=none
 pin:∀p∈X.pn++pins,s.heap.get? p.1=some p.2/\H p.1=none/\p.1≠X.env.locals/\p.1∉X.fs/\∀v,p.2.data≠.cell v
 hok:HOk X.prog X.w H s.heap
 len:Z.length=X.N.length
variable{x:Str}{t':Nat}{A:Around}
section
variable{X:Cx}{pins:List (Addr×Obj)}{Z:List (Option V)}{H H':Hp}{s:Shared}{h':Heap}
theorem Cx.Ok.nofr(ok:X.Ok){b:Addr}{o:Obj}(e:X.base.get? b=some o):b∉X.fs:=fun hb=>by
 have:=(ok.funs.mem hb).1;rw[e] at this;cases this
theorem Inv.bs(I:Inv X pins Z H s):∀b o,X.base.get? b=some o->s.heap.get? b=some o/\H b=none:=fun b o e=>
 ⟨I.base.keep b o (I.ok.bs b o e).1 (I.ok.bs b o e).2 (I.ok.nofr e) (I.ok.noex b o e),I.base.free b o (I.ok.bs b o e).1 (I.ok.bs b o e).2 (I.ok.noex b o e)⟩
theorem Inv.bk(I:Inv X pins Z H s):∀b o,X.base.get? b=some o->s.heap.get? b=some o:=fun b o e=>(I.bs b o e).1
theorem Inv.mod(I:Inv X pins Z H s):Mod X.K X.mg X.base:=I.ok.mod
theorem Inv.kIn(I:Inv X pins Z H s):X.K.In s.heap:=I.ok.mod.kin.keeps I.bk
theorem Inv.lt(I:Inv X pins Z H s):X.env.locals<s.heap.objs.size:=let ⟨_,hn,_⟩:=I.loc;hn.lt
theorem Inv.sz(I:Inv X pins Z H s):X.s₀.heap.objs.size<=s.heap.objs.size:=zv I.ok.above (Nat.le_of_lt I.lt)
theorem Inv.nofs(I:Inv X pins Z H s){a:Addr}(h:s.heap.objs.size<=a):a∉X.fs:=fun hb=>by
 obtain⟨_,o,ho,_⟩:=I.ok.funs.mem hb;exact absurd (xa (zo ho) (zv I.sz h)) (jf0 _)
theorem Inv.cne(I:Inv X pins Z H s):∀x c,X.env.cells.lookup x=some c->c≠X.env.locals:=fun x c e z=>by
 obtain⟨v,o,ho,hd⟩:=I.cell x c e;obtain⟨m,⟨o',es,ep,ho',hd',_⟩,_⟩:=I.loc;rw[z,ho'] at ho;cases ho;rw[hd'] at hd;cases hd
theorem Inv.funs(I:Inv X pins Z H s):s.heap.FunFrames X.base X.outer:=by
 have all:∀(l:List Env),(∀b∈frs l,b∈X.fs)->X.s₀.heap.FunFrames X.base l->s.heap.FunFrames X.base l:=by
  intro l
  induction l with
  | nil=>intro _ _;trivial
  | cons env r ih=>
   intro hs hl;obtain⟨hk,⟨L,o,hf,hn,ho,hd⟩,hr⟩:=hl;have hL:L∈X.fs:=hs L (by unfold frs;rw[jo5,hf];exact qc);obtain⟨sl,e⟩:=I.base.slot L o ho (I.ok.frf L hL) hL fun z=>I.ok.exfs L z hL;exact⟨hk,⟨L,_,hf,hn,e,hd⟩,ih (fun b hb=>hs b (by unfold frs;rw[jo5,hf];exact qh _ hb)) hr⟩
 exact all X.outer (fun _ hb=>hb) I.ok.funs
theorem Inv.stack(I:Inv X pins Z H s):s.heap.FunFrames X.base X.stack:=by
 rcases I.ok.stk with e | ⟨e,hf⟩
 ·rw[e];exact I.funs
 ·rw[e];obtain⟨m,hn,_⟩:=I.loc;refine .cons (by rw[I.ok.kind];decide) hf hn ?_ I.funs;exact Heap.get?_none_of_le (zv I.ok.bsz I.ok.above)
theorem Inv.stkSub(I:Inv X pins Z H s):∀b∈frs X.stack,b∈X.env.locals::X.fs:=fun b hb=>by
 rcases I.ok.stk with e | ⟨e,hf⟩
 ·rw[e] at hb;exact qh _ hb
 ·rw[e] at hb;unfold frs at hb;rw[jo5,hf] at hb;exact hb
theorem Inv.stkFree(I:Inv X pins Z H s):∀b∈frs X.stack,H b=none:=fun b hb=>by
 rcases qq.mp (I.stkSub b hb) with e | hb
 ·rw[e];exact I.free
 ·obtain⟨_,o,ho,_⟩:=I.ok.funs.mem hb;exact I.base.free b o ho (I.ok.frf b hb) fun z=>I.ok.exfs b z hb
theorem Inv.step{g':Array GenState}{d':Drawn}{ch:List Addr}(I:Inv X pins Z H s)
 (hch:∀b∈ch,(b∈X.ex\/X.s₀.heap.objs.size<=b)/\b≠X.env.locals/\(∀x c,X.env.cells.lookup x=some c->c≠b)/\∀p∈X.pn++pins,p.1≠b)
 (keep:∀b o,b≠X.env.locals->b∉X.fs->b∉ch->s.heap.get? b=some o->H b=none->h'.get? b=some o)
 (slot:∀b o,b≠X.env.locals->b∈X.fs->b∉ch->s.heap.get? b=some o->H b=none->∃sl,h'.get? b=some { o with slots:=sl })(free:∀b o,b∉ch->s.heap.get? b=some o->H b=none->H' b=none)
 (there:∀b o,b∉ch->s.heap.get? b=some o->∃o',h'.get? b=some o')
 (tups:∀b xs,H b=some (.tup xs)->H' b=some (.tup xs))(frzs:∀b o u,H b=some (.frz o u)->H' b=some (.frz o u))(tbls:∀b ps,H b=some (.tbl ps)->∃more,H' b=some (.tbl (ps++more)))
 (ns:∀m,s.heap.Ns X.env.locals m->h'.Ns X.env.locals m)(hok:HOk X.prog X.w H' h')(hg:AllBare g'):
 Inv X pins Z H' { s with heap:=h',gens:=g',drawn:=d',toks:=t' }:=by
 have neL:∀b o,X.s₀.heap.get? b=some o->b≠X.env.locals:=fun b o e=>vi (xa (zo e) I.ok.above);have neC:∀b o,X.s₀.heap.get? b=some o->b∉X.ex->b∉ch:=fun b o e hx hb=>by
  rcases(hch b hb).1 with z | z
  ·exact hx z
  ·exact absurd (xa (zo e) z) (jf0 _)
 have cellK:∀x c,X.env.cells.lookup x=some c->∀v,s.heap.IsCell c v->h'.IsCell c v:=fun x c e v ⟨o,ho,hd⟩=>by
  have nch:c∉ch:=fun z=>(hch c z).2.2.1 x c e rfl;by_cases hc:c∈X.fs
  ·obtain⟨sl,q⟩:=slot c o (I.cne x c e) hc nch ho (I.freeC x c e);exact⟨_,q,hd⟩
  ·exact⟨o,keep c o (I.cne x c e) hc nch ho (I.freeC x c e),hd⟩
 refine⟨I.ok,I.os,hg,⟨fun b o e n hb hx=>?_,fun b o e n hb hx=>?_,fun b o e n hx=>?_,fun b o e hx=>?_,fun b xs e=>tups b xs (I.base.tups b xs e),fun b o xs e=>frzs b o xs (I.base.frzs b o xs e),fun b ps e=>?_⟩,?_,fun x c e=>?_,?_,fun x c e=>?_,fun p hp=>?_,hok,I.len⟩
 ·exact keep b o (neL b o e) hb (neC b o e hx) (I.base.keep b o e n hb hx) (I.base.free b o e n hx)
 ·obtain⟨sl,e1⟩:=I.base.slot b o e n hb hx;obtain⟨sl',e2⟩:=slot b _ (neL b o e) hb (neC b o e hx) e1 (I.base.free b o e n hx);exact⟨sl',e2⟩
 ·obtain⟨o',e1⟩:=I.base.there b o e hx;exact free b o' (neC b o e hx) e1 (I.base.free b o e n hx)
 ·obtain⟨o',e1⟩:=I.base.there b o e hx;exact there b o' (neC b o e hx) e1
 ·obtain⟨m1,e1⟩:=I.base.tbls b ps e;obtain⟨m2,e2⟩:=tbls b _ e1;exact⟨m1++m2,by rw[e2,Array.append_assoc]⟩
 ·obtain⟨m,hn,hl⟩:=I.loc;refine⟨m,ns m hn,fun i x v e1 e2 e3=>?_⟩;obtain⟨u,r,l⟩:=hl i x v e1 e2 e3;refine⟨u,r,?_⟩;rcases l with l | ⟨k,c,e,z⟩
  ·exact .inl l
  ·exact .inr ⟨k,c,e,cellK x c e _ z⟩
 ·obtain⟨v,z⟩:=I.cell x c e;exact⟨v,cellK x c e v z⟩
 ·obtain⟨m,⟨o,_,_,ho,_⟩,_⟩:=I.loc;exact free _ o (fun z=>(hch _ z).2.1 rfl) ho I.free
 ·obtain⟨v,o,ho,hd⟩:=I.cell x c e;exact free c o (fun z=>(hch c z).2.2.1 x c e rfl) ho (I.freeC x c e)
 ·obtain⟨e,n,ne,nf,d⟩:=I.pin p hp;have nch:p.1∉ch:=fun z=>(hch p.1 z).2.2.2 p hp rfl;exact⟨keep p.1 p.2 ne nf nch e n,free p.1 p.2 nch e n,ne,nf,d⟩
theorem Inv.un(I:Inv X pins Z H s)(u:Un X.fs [] H H' s.heap h')(hok:HOk X.prog X.w H' h'):Inv X pins Z H' { s with heap:=h',toks:=t' }:=by
 obtain⟨m,⟨o,es,ep,ho,r⟩,_⟩:=id I.loc;obtain⟨sl,hL⟩:=u.any ho I.free (by simp);exact I.step (g':=s.gens) (d':=s.drawn) (ch:=[]) (fun _ z=>nomatch z) (fun b o _ hb _ e n=>u.keep b o e n hb (by simp)) (fun b o _ hb _ e n=>u.slot b o e n hb (by simp)) (fun b o _ e n=>u.free b o e n (by simp)) (fun b o _ e=>u.there b o e (by simp)) u.tups u.frzs u.tbls (fun m' hm=>by
  obtain⟨o',es',ep',ho',r'⟩:=hm;rw[ho] at ho';cases ho';exact⟨_,es',ep',hL,r'⟩) hok I.bare
theorem Inv.call{g':Array GenState}{d':Drawn}{ch:List Addr}(I:Inv X pins Z H s)(u:Un (frs X.stack) ch H H' s.heap h')(hok:HOk X.prog X.w H' h')(hg:AllBare g')
 (hch:∀b∈ch,(b∈X.ex\/X.s₀.heap.objs.size<=b)/\b≠X.env.locals/\(∀x c,X.env.cells.lookup x=some c->c≠b)/\∀p∈X.pn++pins,p.1≠b):
 Inv X pins Z H' { s with heap:=h',gens:=g',drawn:=d',toks:=t' }:=by
 obtain⟨m,⟨o,es,ep,ho,r⟩,_⟩:=id I.loc;obtain⟨sl,hL⟩:=u.any ho I.free fun z=>(hch _ z).2.1 rfl;exact I.step (ch:=ch) hch (fun b o hL hb hc e n=>u.keep b o e n (fun z=>(qq.mp (I.stkSub b z)).elim hL hb) hc) (fun b o _ _ hc e n=>u.any e n hc) (fun b o hc e n=>u.free b o e n hc) (fun b o hc e=>u.there b o e hc) u.tups u.frzs u.tbls (fun m' hm=>by
  obtain⟨o',es',ep',ho',r'⟩:=hm;rw[ho] at ho';cases ho';exact⟨_,es',ep',hL,r'⟩) hok hg
theorem Inv.turned{it:Addr}(I:Inv X pins Z H s)(k:∀b o,b≠it->s.heap.get? b=some o->h'.get? b=some o)(hn:H it=none)(hL:it≠X.env.locals)
 (h1:it∈X.ex\/X.s₀.heap.objs.size<=it)(h2:∀x c,X.env.cells.lookup x=some c->c≠it)(h3:∀p∈X.pn++pins,p.1≠it):Inv X pins Z H { s with heap:=h',toks:=t' }:=by
 have nit:∀b u,H b=some u->b≠it:=fun b u e z=>by rw[z,hn] at e;cases e
 refine I.step (g':=s.gens) (d':=s.drawn) (ch:=[it]) (fun b hb=>?_) (fun b o _ _ hc e _=>k b o (fun z=>hc (by simp[z])) e) (fun b o _ _ hc e _=>⟨o.slots,k b o (fun z=>hc (by simp[z])) e⟩) (fun _ _ _ _ n=>n)
  (fun b o hc e=>⟨o,k b o (fun z=>hc (by simp[z])) e⟩) (fun _ _ e=>e) (fun _ _ _ e=>e) (fun b ps e=>⟨#[],by rw[e];simp⟩) (fun m hm=>?_) (fun b u e=>?_) I.bare
 ·have e:b=it:=by simpa using hb
  subst e;exact⟨h1,hL,h2,h3⟩
 ·obtain⟨o,es,ep,ho,r⟩:=hm;exact⟨o,es,ep,k _ o (Ne.symm hL) ho,r⟩
 ·refine(I.hok b u e).stay (fun c v hc q=>k c v ?_ q) (fun _ q=>q) fun _ _ q=>q;rcases hc with z | z
  ·rw[z];exact nit b u e
  ·exact nit c _ z
theorem Inv.tok(I:Inv X pins Z H s)(t:Nat):Inv X pins Z H { s with toks:=t }:=I.un (h':=s.heap) (t':=t) Un.refl I.hok
theorem Inv.kept(I:Inv X pins Z H s)(k:∀b u,s.heap.get? b=some u->h'.get? b=some u):Inv X pins Z H { s with heap:=h',toks:=t' }:=I.un (Un.kept k) (I.hok.kept k)
theorem Inv.laid{o:HO}(I:Inv X pins Z H s)(k:∀b u,s.heap.get? b=some u->h'.get? b=some u)(hp:s.heap.objs.size<=a)(new:Ej X.prog X.w (upd H a o) h' a o):
 Inv X pins Z (upd H a o) { s with heap:=h',toks:=t' }:=I.un (Un.laid k hp (I.hok.fresh hp)) (I.hok.laid k hp new)
theorem Inv.write{x e:Addr}{o:HO}(I:Inv X pins Z H s)(mu:Mut (H x))(he:e=x\/H e=some (.own x))(k:∀b u,b≠e->s.heap.get? b=some u->h'.get? b=some u)(heo:∃u,h'.get? e=some u)
 (new:Ej X.prog X.w (upd H x o) h' x o):Inv X pins Z (upd H x o) { s with heap:=h',toks:=t' }:=I.un (Un.write mu he k heo) (I.hok.write mu he k heo new)
theorem Inv.pins_of{pins':List (Addr×Obj)}(I:Inv X pins Z H s)(h:∀p∈pins',s.heap.get? p.1=some p.2/\H p.1=none/\p.1≠X.env.locals/\p.1∉X.fs/\∀v,p.2.data≠.cell v):Inv X pins' Z H s:=
 ⟨I.ok,I.os,I.bare,I.base,I.loc,I.cell,I.free,I.freeC,fun p hp=>(ui.mp hp).elim (fun z=>I.pin p (jb9 _ z)) (h p),I.hok,I.len⟩
theorem Y7{N:List Str}(hN:N.Nodup){i j:Nat}{x:Str}(a:N[i]?=some x)(b:N[j]?=some x):i=j:=by
 obtain⟨h1,e1⟩:=qv.mp a;obtain⟨h2,e2⟩:=qv.mp b;exact(List.getElem_inj hN).mp (e1.trans e2.symm)
theorem VD{M:Model}{E:Value->Shared->Prop}{i:Nat}{v:V}{Q:Unit->Shared->Prop}(I:Inv X pins Z H s)(hN:X.N.Nodup)(hi:X.N[i]?=some x)(hx:Loc X.env.scope x)(r:RelV v u)
 (h:∀s',Inv X pins (Z.set i (some v)) H s'->(∃a,Heap.SameBut a s.heap s'.heap/\(a=X.env.locals\/X.env.cells.lookup x=some a))->Q () s')(hf:X.fn x=true\/X.env.scope.names.lookup x=some .local:=by first | exact .inl rfl | exact .inr rfl | assumption):wpAny M A (storeName X.env x u) Q E s:=by
 obtain⟨m,hn,hl⟩:=id I.loc;have hcls:(X.env.scope.kind==.class||(X.env.scope.kind==.module&&X.env.locals != X.env.globals))=false:=by rw[I.ok.kind];rfl
 have hiσ:i<Z.length:=by rw[I.len];exact(qv.mp hi).1
 have cne:=I.cne;have tracked:∀{a:Addr} {h':Heap},(∃o,s.heap.get? a=some o/\H a=none)->Heap.SameBut a s.heap h'->HOk X.prog X.w H h':=fun{a h'} ha hs b ob e=>by
  obtain⟨_,_,hfree⟩:=ha;refine(I.hok b ob e).stay (fun c w' hc q=>(hs.2 c ?_).trans q) (fun _ q=>q) fun _ _ q=>q;rintro rfl;rcases hc with rfl | hc
  ·rw[hfree] at e;cases e
  ·rw[hfree] at hc;cases hc
 rcases hx with hk | hk
 ·refine wpAny_storeName_local hk hn (fun h' hn' hs=>?_) hcls;obtain⟨oL,_,_,hoL,_⟩:=id hn;refine h _ ⟨I.ok,I.os,I.bare,⟨fun b o e n hb hx=>?_,fun b o e n hb hx=>?_,I.base.free,fun b o e hx=>?_,I.base.tups,I.base.frzs,I.base.tbls⟩,⟨_,hn',fun j y v' e1 e2 e3=>?_⟩,fun y c e=>?_,I.free,I.freeC,fun p hp=>?_,tracked ⟨oL,hoL,I.free⟩ hs,by simpa using I.len⟩ ⟨_,hs,.inl rfl⟩
  ·exact(hs.2 b (vi (xa (zo e) I.ok.above))).trans (I.base.keep b o e n hb hx)
  ·obtain⟨sl,e1⟩:=I.base.slot b o e n hb hx;exact⟨sl,(hs.2 b (vi (xa (zo e) I.ok.above))).trans e1⟩
  ·obtain⟨o',e1⟩:=I.base.there b o e hx;exact⟨o',(hs.2 b (vi (xa (zo e) I.ok.above))).trans e1⟩
  ·by_cases hj:j=i
   ·subst hj;rw[hi] at e1;cases e1;rw[List.getElem?_set_self hiσ] at e2;cases e2;exact⟨u,r,.inl ⟨hk,by simp⟩⟩
   ·rw[List.getElem?_set_ne (Ne.symm hj)] at e2;obtain⟨u',r',q⟩:=hl j y v' e1 e2 e3;refine⟨u',r',?_⟩;rcases q with ⟨k,e⟩ | ⟨k,c,e,z⟩
    ·refine .inl ⟨k,?_⟩;have:y≠x:=fun e=>hj (Y7 hN e1 (e ▸ hi));simp[this,e]
    ·exact .inr ⟨k,c,e,z.sameBut hs (cne y c e)⟩
  ·obtain⟨w',z⟩:=I.cell y c e;exact⟨w',z.sameBut hs (cne y c e)⟩
  ·obtain⟨e,n,ne,nf,d⟩:=I.pin p hp;exact⟨(hs.2 p.1 ne).trans e,n,ne,nf,d⟩
 ·have hfn:X.fn x=true:=by
   rcases hf with z | z
   ·exact z
   ·rw[z] at hk;cases hk
  obtain⟨c,hc⟩:=I.ok.has x (.inl hk);obtain⟨w',z⟩:=I.cell x c hc;refine wpAny_storeName_cell I.ok.kind hk hc z (fun h' hc' hs=>?_);obtain⟨oc,hoc,hocd⟩:=id z;refine h { s with heap:=h' } ⟨I.ok,I.os,I.bare,⟨fun b o e n hb hx=>?_,fun b o e n hb hx=>?_,I.base.free,fun b o e hx=>?_,I.base.tups,I.base.frzs,I.base.tbls⟩,⟨m,hn.sameBut hs (Ne.symm (cne x c hc)),fun j y v' e1 e2 e3=>?_⟩,fun y c' e=>?_,I.free,I.freeC,fun p hp=>?_,tracked ⟨oc,hoc,I.freeC x c hc⟩ hs,by simpa using I.len⟩ ⟨c,hs,.inr hc⟩
  ·exact(hs.2 b (vi (xa (zo e) (I.ok.cab x c hfn hc)))).trans (I.base.keep b o e n hb hx)
  ·obtain⟨sl,e1⟩:=I.base.slot b o e n hb hx;exact⟨sl,(hs.2 b (vi (xa (zo e) (I.ok.cab x c hfn hc)))).trans e1⟩
  ·obtain⟨o',e1⟩:=I.base.there b o e hx;exact⟨o',(hs.2 b (vi (xa (zo e) (I.ok.cab x c hfn hc)))).trans e1⟩
  ·by_cases hj:j=i
   ·subst hj;rw[hi] at e1;cases e1;rw[List.getElem?_set_self hiσ] at e2;cases e2;exact⟨u,r,.inr ⟨.inl hk,c,hc,hc'⟩⟩
   ·rw[List.getElem?_set_ne (Ne.symm hj)] at e2;obtain⟨u',r',q⟩:=hl j y v' e1 e2 e3;refine⟨u',r',?_⟩;rcases q with q | ⟨k,c',e,z'⟩
    ·exact .inl q
    ·refine .inr ⟨k,c',e,z'.sameBut hs ?_⟩;rintro rfl;exact hj (Y7 hN e1 (I.ok.inj _ _ _ e hc ▸ hi))
  ·by_cases hcc:c'=c
   ·subst hcc;exact⟨_,hc'⟩
   ·obtain⟨w2,z2⟩:=I.cell y c' e;exact⟨w2,z2.sameBut hs hcc⟩
  ·obtain⟨e,n,ne,nf,d⟩:=I.pin p hp;refine⟨(hs.2 p.1 ?_).trans e,n,ne,nf,d⟩;intro q;rw[q,hoc] at e;have q':oc=p.2:=uu e;exact d w' (by rw[<-q'];exact hocd)
theorem Lj{M:Model}{E:Value->Shared->Prop}{i:Nat}{v:V}{Q:Unit->Shared->Prop}(I:Inv X pins Z H s)(hN:X.N.Nodup)(hi:X.N[i]?=some x)(hx:Loc X.env.scope x)(r:RelV v u)
 (h:∀s',Inv X pins (Z.set i (some v)) H s'->Q () s')(hf:X.fn x=true\/X.env.scope.names.lookup x=some .local:=by first | exact .inl rfl | exact .inr rfl | assumption):wpAny M A (storeName X.env x u) Q E s:=
 VD I hN hi hx r (fun s' I' _=>h s' I') hf
theorem Inv.call'{s':Shared}{ch:List Addr}(I:Inv X pins Z H s)(ho:s'.os=s.os)(u:Un (frs X.stack) ch H H' s.heap s'.heap)(hok:HOk X.prog X.w H' s'.heap)(hg:AllBare s'.gens)
 (hch:∀b∈ch,(b∈X.ex\/X.s₀.heap.objs.size<=b)/\b≠X.env.locals/\(∀x c,X.env.cells.lookup x=some c->c≠b)/\∀p∈X.pn++pins,p.1≠b):Inv X pins Z H' s':=by
 obtain⟨h',g',d',t',o'⟩:=s';have e:o'=s.os:=ho;subst e;exact I.call (g':=g') (t':=t') (d':=d') u hok hg hch
end
noncomputable abbrev XK:=Value->Option Addr->Hp->Prop
noncomputable abbrev St:=List (Option V)
noncomputable abbrev VK:=V->Hp->Prop
noncomputable abbrev TE:=St->Hp->VK->Prop
noncomputable abbrev TT:=St->Hp->(Bool->Hp->Prop)->Prop
noncomputable abbrev TA:=St->Hp->(List V->Hp->Prop)->Prop
structure Ends where
 nx:St->Hp->Prop
 rt:VK
 bk:St->Hp->Prop:=fun _ _=>False
 ct:St->Hp->Prop:=fun _ _=>False
noncomputable abbrev TS:=Ends->St->Hp->Prop
noncomputable def EP(X:Cx)(pins:List (Addr×Obj))(Z:St)(Q:VK)(u:Value)(s':Shared):Prop:=∃v H',Inv X pins Z H' s'/\RelV v u/\Q v H'
noncomputable def TP(X:Cx)(pins:List (Addr×Obj))(Z:St)(Q:Bool->Hp->Prop)(b:Bool)(s':Shared):Prop:=∃H',Inv X pins Z H' s'/\Q b H'
noncomputable def AP(X:Cx)(pins:List (Addr×Obj))(Z:St)(Q:List V->Hp->Prop)(us:List Value)(s':Shared):Prop:=∃vs H',Inv X pins Z H' s'/\Vals vs us/\Q vs H'
noncomputable def SP(X:Cx)(pins:List (Addr×Obj))(D:Ends)(f:Flow)(s':Shared):Prop:=
 match f with
 | .next=>∃Z' H',Inv X pins Z' H' s'/\D.nx Z' H'
 | .brk=>∃Z' H',Inv X pins Z' H' s'/\D.bk Z' H'
 | .cont=>∃Z' H',Inv X pins Z' H' s'/\D.ct Z' H'
 | .ret u=>∃v Z' H',Inv X pins Z' H' s'/\RelV v u/\D.rt v H'
noncomputable def PE(X:Cx)(e:Expr)(t:TE):Prop:=
 ∀ ⦃pins:List (Addr×Obj)⦄ (s:Shared) (Z:St) (H:Hp) (Q:VK),Inv X pins Z H s->t Z H Q->wpAny (model X.prog X.w) X.A (eval e X.env) (EP X pins Z Q) X.xe s
noncomputable def PT(X:Cx)(e:Expr)(t:TT):Prop:=
 ∀ ⦃pins:List (Addr×Obj)⦄ (s:Shared) (Z:St) (H:Hp) (Q:Bool->Hp->Prop),Inv X pins Z H s->t Z H Q->wpAny (model X.prog X.w) X.A (isTrue e X.env (eval e X.env)) (TP X pins Z Q) X.xe s
noncomputable def PW(X:Cx)(e:Expr)(t:TT):Prop:=
 ∀ ⦃whole:Sem Value⦄ (pins:List (Addr×Obj)) (s:Shared) (Z:St) (H:Hp) (Q:Bool->Hp->Prop),Inv X pins Z H s->t Z H Q->wpAny (model X.prog X.w) X.A (isTrue e X.env whole) (TP X pins Z Q) X.xe s
theorem PW.pt{X:Cx}{e:Expr}{t:TT}(h:PW X e t):PT X e t:=fun pins=>@h _ pins
noncomputable def PA(X:Cx)(es:List Expr)(t:TA):Prop:=
 ∀ ⦃pos:Pos⦄ (pins:List (Addr×Obj)) (s:Shared) (Z:St) (H:Hp) (Q:List V->Hp->Prop),Inv X pins Z H s->t Z H Q->wpAny (model X.prog X.w) X.A (spliced (backTo pos (starEach es X.env))) (AP X pins Z Q) X.xe s
noncomputable def PS(X:Cx)(st:Stmt)(t:TS):Prop:=
 ∀ ⦃pins:List (Addr×Obj)⦄ (s:Shared) (Z:St) (H:Hp) (D:Ends),Inv X pins Z H s->t D Z H->wpAny (model X.prog X.w) X.A (exec st X.env) (SP X pins D) X.xe s
noncomputable def PSs(X:Cx)(st:List Stmt)(t:TS):Prop:=
 ∀ ⦃pins:List (Addr×Obj)⦄ (s:Shared) (Z:St) (H:Hp) (D:Ends),Inv X pins Z H s->t D Z H->wpAny (model X.prog X.w) X.A (execs st X.env) (SP X pins D) X.xe s
theorem thn{α:Type}{t:Sem α}{Q Q':α->Shared->Prop}{M:Model}{E:Value->Shared->Prop}{s:Shared}(h:wpAny M A t Q E s)(hQ:∀a s,Q a s->Q' a s):wpAny M A t Q' E s:=ja5 h hQ fun _ _ x=>x
variable{Z:St}{pos:Pos}{pins:List (Addr×Obj)}
section
variable{X:Cx}
noncomputable def ADG:Option (Option V)->(V->Prop)->Prop
 | some (some v),k=>k v
 | _,_=>False
noncomputable def Lh(i:Nat):TE:=fun Z H Q=>ADG Z[i]? fun v=>Q v H
theorem rG{i:Nat}{Q:VK}(h:Lh i Z H Q):∃v,Z[i]?=some (some v)/\Q v H:=by
 unfold Lh at h
 match e:Z[i]?,h with
 | some (some v),h=>exact⟨v,rfl,h⟩
theorem N6{i:Nat}{Q:VK}{v:V}(e:Z[i]?=some (some v))(h:Q v H):Lh i Z H Q:=by
 unfold Lh;rw[e];exact h
noncomputable abbrev Vw(T G:Prop):=(T->G)->T->G
noncomputable def tC(v:V):TE:=fun _ H Q=>Q v H
theorem nA{i:Nat}(hN:X.N[i]?=some x)(hv:Vis X.env.scope x)(hd:(x==("__debug__":Str))=false:=by decide)(hcd:(x==("__classdict__":Str))=false:=by decide):PE X (.Name x pos) (Lh i):=by
 intro pins s Z H Q I h;obtain⟨v,e,h⟩:=rG h;obtain⟨m,hn,hl⟩:=I.loc;obtain⟨u,r,l⟩:=hl i x v hN e hv;have fin:EP X pins Z Q u s:=⟨v,H,I,r,h⟩;rcases l with ⟨hk,hm⟩ | ⟨hk,c,hc,hcell⟩
 ·exact wpAny_Name (wpAny_loadName_local I.ok.kind hk hn hm fin) hd
 ·rcases hk with hk | hk
  ·exact wpAny_Name (wpAny_loadName_cell I.ok.kind hk hc hcell fin) hd
  ·exact wpAny_Name (wpAny_loadName_free I.ok.kind hk hc hcell fin hcd) hd
theorem Ae{i j pos}:PE X (.Constant (.int i) j pos) (tC (.int i)):=fun _ _ _ H _ I h=>wpAny_Constant_int ⟨.int i,H,I.tok _,⟨_,rfl⟩,h⟩
theorem VP{b j pos}:PE X (.Constant (.bool b) j pos) (tC (.bl b)):=fun _ _ _ H _ I h=>Constant_bool ⟨.bl b,H,I,rfl,h⟩
theorem Ff{j pos}:PE X (.Constant .none j pos) (tC .non):=fun _ _ _ H _ I h=>Constant_none ⟨.non,H,I,rfl,h⟩
theorem Ah{x j pos}:PE X (.Constant (.str x) j pos) (tC (.str x)):=fun _ _ _ H _ I h=>Calls.Constant_str ⟨.str x,H,I.tok _,⟨_,rfl⟩,h⟩
noncomputable def Gl(X:Cx)(x:Str):Prop:=X.env.kindOf x=some .globalImplicit
theorem Mq{E:Value->Shared->Prop}{s:Shared}{Q:Value->Shared->Prop}(I:Inv X pins Z H s)(hg:Gl X x)(hm:X.mg x=some u)(h:Q u s)
 (hd:(x==("__debug__":Str))=false:=by decide):wpAny (model X.prog X.w) X.A (eval (.Name x pos) X.env) Q E s:=
 Calls.Name_function_global I.ok.kind hg (Calls.loadGlobal_global (by rw[I.ok.glob];exact I.mod.glob.keeps I.bk) hm h) hd
theorem Hl{E:Value->Shared->Prop}{s:Shared}{Q:Value->Shared->Prop}(I:Inv X pins Z H s)(hg:Gl X x)(hm:X.mg x=none)(hv:bootBuiltins x=some u)(h:Q u s)
 (hn:x≠"__name__":=by decide)(hd:(x==("__debug__":Str))=false:=by decide):wpAny (model X.prog X.w) X.A (eval (.Name x pos) X.env) Q E s:=by
 obtain⟨mb,h1,h2⟩:=I.mod.blt;exact Calls.Name_function_global I.ok.kind hg (Calls.loadGlobal_builtin (by rw[I.ok.glob];exact I.mod.glob.keeps I.bk) hm (by rw[I.ok.blt];exact h1.keeps I.bk) ((h2 x hn).trans hv) h) hd
theorem By{v:V}(hg:Gl X x)(hm:X.mg x=some u)(r:RelV v u)(hd:(x==("__debug__":Str))=false:=by decide):PE X (.Name x pos) (tC v):=
 fun _ _ _ H _ I h=>Mq I hg hm ⟨v,H,I,r,h⟩ hd
theorem W8{v:V}(hg:Gl X x)(hm:X.mg x=none)(hv:bootBuiltins x=some u)(r:RelV v u)(hn:x≠"__name__":=by decide)(hd:(x==("__debug__":Str))=false:=by decide):PE X (.Name x pos) (tC v):=
 fun _ _ _ H _ I h=>Hl I hg hm hv ⟨v,H,I,r,h⟩ hn hd
variable{a b:Expr}{ta tb:TE}{pos:Pos}
noncomputable def PC(X:Cx)(op:CmpOp)(a b:Expr)(t:TE):Prop:=
 ∀(pins:List (Addr×Obj)) (s:Shared) (Z:St) (H:Hp) (Q:VK),Inv X pins Z H s->t Z H Q->
  wpAny (model X.prog X.w) X.A (eval a X.env) (fun v s₁=>wpAny (model X.prog X.w) X.A (eval b X.env) (fun u s₂=>wpAny (model X.prog X.w) X.A (compareOp op v u) (EP X pins Z Q) X.xe s₂) X.xe s₁) X.xe s
noncomputable def tB(t:TE):TT:=fun Z H Q=>t Z H fun x H1=>∃c,x=.bl c/\Q c H1
theorem W4{op:CmpOp}{t:TE}(h:PC X op a b t)(h1:behindInMarks op b=false:=by first | exact nobehind _ (by decide) (by decide) | rfl):PT X (.Compare a [op] [b] pos) (tB t):=by
 intro pins s Z H Q I hw;refine wpAny_isTrue_Compare1 (thn (h pins s Z H _ I hw) fun v s1 h1=>thn h1 fun u s2 h2=>thn h2 fun c s3 hZ=>?_) h1;obtain⟨x,H1,I1,r1,q1⟩:=hZ;obtain⟨d,rfl,q⟩:=q1;cases r1;exact jb4 ⟨H1,I1,q⟩
theorem GR{e:Expr}{t:TE}(h:PE X e t)(he:∀whole,isTrue e X.env whole=(do let v <-whole;standAt e.pos;holding [v] (truthy v)):=by intro _;rfl):PT X e (tB t):=by
 intro pins s Z H Q I hw;refine isTrue_plain (thn (h s Z H _ I hw) fun v s1 hZ=>?_) (he _);obtain⟨x,H1,I1,r1,q1⟩:=hZ;obtain⟨d,rfl,q⟩:=q1;cases r1;exact jb4 ⟨H1,I1,q⟩
variable{tA tB':TT}{rest:List Expr}
noncomputable def ABR(t u:TT):TT:=fun Z H Q=>t Z H fun c H1=>if c=true then u Z H1 Q else Q false H1
noncomputable def tOr(t u:TT):TT:=fun Z H Q=>t Z H fun c H1=>if c=true then Q true H1 else u Z H1 Q
noncomputable def ABL(t:TT):TT:=fun Z H Q=>t Z H fun c H1=>Q (!c) H1
theorem JF(ha:PT X a tA):PW X (.BoolOp .And [a] pos) tA:=by
 intro wh pins s Z H Q I h;refine isTrue_and (thn (ha s Z H Q I h) fun c s1 e=>?_);cases c with
 | true=>exact isTrue_and_nil e
 | false=>exact e
theorem GQ(ha:PT X a tA):PW X (.BoolOp .Or [a] pos) tA:=by
 intro wh pins s Z H Q I h;refine isTrue_or (thn (ha s Z H Q I h) fun c s1 e=>?_);cases c with
 | false=>exact isTrue_or_nil e
 | true=>exact e
theorem K7(ha:PT X a tA)(hb:PW X (.BoolOp .And (b::rest) pos) tB'):PW X (.BoolOp .And (a::b::rest) pos) (ABR tA tB'):=by
 intro wh pins s Z H Q I h;refine isTrue_and (thn (ha s Z H _ I h) fun c s1 hZ=>?_);obtain⟨H1,I1,q1⟩:=hZ;cases c with
 | true=>exact hb (whole:=wh) pins s1 Z H1 Q I1 q1
 | false=>exact⟨H1,I1,q1⟩
theorem Hi(ha:PT X a tA)(hb:PW X (.BoolOp .Or (b::rest) pos) tB'):PW X (.BoolOp .Or (a::b::rest) pos) (tOr tA tB'):=by
 intro wh pins s Z H Q I h;refine isTrue_or (thn (ha s Z H _ I h) fun c s1 hZ=>?_);obtain⟨H1,I1,q1⟩:=hZ;cases c with
 | true=>exact⟨H1,I1,q1⟩
 | false=>exact hb (whole:=wh) pins s1 Z H1 Q I1 q1
theorem Hj(ha:PT X a tA):PT X (.UnaryOp .Not a pos) (ABL tA):=by
 intro pins s Z H Q I h;exact isTrue_not (ha s Z H (fun c H1=>Q (!c) H1) I h)
noncomputable def wQ(ta tb:TE):TE:=fun Z H Q=>ta Z H fun x H1=>∃c,x=.bl c/\if c=true then tb Z H1 Q else Q (.bl false) H1
noncomputable def ABK(ta tb:TE):TE:=fun Z H Q=>ta Z H fun x H1=>∃c,x=.bl c/\if c=true then Q (.bl true) H1 else tb Z H1 Q
noncomputable def wK(ta:TE):TE:=fun Z H Q=>ta Z H fun x H1=>∃c,x=.bl c/\Q (.bl (!c)) H1
theorem IW{op}{t:TE}(h:PE X a t):PE X (.BoolOp op [a] pos) t:=fun pins s Z H Q I hw=>BoolOp_one (h s Z H Q I hw)
theorem JK(ha:PE X a ta)(hb:PE X (.BoolOp .And (b::rest) pos) tb):PE X (.BoolOp .And (a::b::rest) pos) (wQ ta tb):=by
 intro pins s Z H Q I h;refine BoolOp_and (thn (ha s Z H _ I h) fun v s1 hZ=>?_);obtain⟨x,H1,I1,r1,q1⟩:=hZ;obtain⟨c,rfl,q1⟩:=q1;cases r1;refine jb4 ?_;cases c with
 | true=>exact hb s1 Z H1 Q I1 q1
 | false=>exact⟨.bl false,H1,I1,rfl,q1⟩
theorem wk(ha:PE X a ta)(hb:PE X (.BoolOp .Or (b::rest) pos) tb):PE X (.BoolOp .Or (a::b::rest) pos) (ABK ta tb):=by
 intro pins s Z H Q I h;refine BoolOp_or (thn (ha s Z H _ I h) fun v s1 hZ=>?_);obtain⟨x,H1,I1,r1,q1⟩:=hZ;obtain⟨c,rfl,q1⟩:=q1;cases r1;refine jb4 ?_;cases c with
 | false=>exact hb s1 Z H1 Q I1 q1
 | true=>exact⟨.bl true,H1,I1,rfl,q1⟩
theorem nD(ha:PE X a ta):PE X (.UnaryOp .Not a pos) (wK ta):=by
 intro pins s Z H Q I h;refine UnaryOp_ (thn (ha s Z H _ I h) fun v s1 hZ=>?_);obtain⟨x,H1,I1,r1,q1⟩:=hZ;obtain⟨c,rfl,q1⟩:=q1;cases r1;exact not_of (jb4 ⟨.bl (!c),H1,I1,rfl,q1⟩)
noncomputable def tIf(t:TT)(ta tb:TE):TE:=fun Z H Q=>t Z H fun c H1=>if c=true then ta Z H1 Q else tb Z H1 Q
theorem Dh{c:Expr}(hc:PT X c tA)(ha:PE X a ta)(hb:PE X b tb):PE X (.IfExp c a b pos) (tIf tA ta tb):=by
 intro pins s Z H Q I h;refine wpAny_IfExp (thn (hc s Z H _ I h) fun d s1 hZ=>?_);obtain⟨H1,I1,q1⟩:=hZ;cases d with
 | true=>exact ha s1 Z H1 Q I1 q1
 | false=>exact hb s1 Z H1 Q I1 q1
end
noncomputable def SqL(K:Fr)(H:Hp)(a:Addr)(xs:List V):Prop:=
 Rd H a (.lst xs)\/
  ∃(o:Obj) (its:Array Value) (n:Nat),K.lookup a=some o/\o.cls=.type "list"/\o.dict=none/\o.data=.seq its n/\its.size<=sizeLine/\Vals xs its.toList
noncomputable def SqT(K:Fr)(H:Hp)(a:Addr)(xs:List V):Prop:=
 Rd H a (.tup xs)\/
  ∃(o:Obj) (its:Array Value) (n:Nat),K.lookup a=some o/\o.cls=.type "tuple"/\o.data=.seq its n/\its.size<=sizeLine/\Vals xs its.toList
noncomputable def ADh:Value->Option V
 | .none=>some .non
 | .bool b=>some (.bl b)
 | .int i _=>some (.int i)
 | .str x _=>some (.str x)
 | .bytes b _=>some (.byt b)
 | .float b _=>some (.flt b)
 | .ref a=>some (.ref a)
 | .type n=>some (.ty n)
 | _=>none
theorem RelV.abs{x:V}(r:RelV x u):ADh u=some x:=by
 cases x with
 | non=>cases r;rfl
 | bl _=>cases r;rfl
 | int _=>obtain⟨t,rfl⟩:=r;rfl
 | str _=>obtain⟨t,rfl⟩:=r;rfl
 | byt _=>obtain⟨t,rfl⟩:=r;rfl
 | flt _=>obtain⟨t,rfl⟩:=r;rfl
 | ref _=>cases r;rfl
 | ty _=>cases r;rfl
theorem RelV.inj{x y:V}(r:RelV x u)(q:RelV y u):x=y:=uu (r.abs.symm.trans q.abs)
theorem Vals.inj:∀{xs ys:List V} {us:List Value},Vals xs us->Vals ys us->xs=ys
 | _,_,_,.nil,.nil=>rfl
 | _,_,_,.cons r t,.cons r' t'=>by rw[r.inj r',Vals.inj t t']
variable{K:Fr}
section
variable{X:Cx}{pins:List (Addr×Obj)}{Z:St}{H:Hp}{s:Shared}{a:Addr}{xs ys:List V}
theorem SqL.of(h:H a=some (.lst xs)):SqL K H a xs:=.inl (.inl h)
theorem SqT.of(h:H a=some (.tup xs)):SqT K H a xs:=.inl (.inl h)
theorem Inv.list(I:Inv X pins Z H s)(h:SqL X.K H a xs):∃its:List Value,Vals xs its/\PlainL s.heap a its.toArray/\xs.length<=sizeLine:=by
 rcases h with h | ⟨o,its,n,hk,hc,hd,hs,hz,r⟩
 ·obtain⟨z,its,n,r,e⟩:=h.ok I.hok;exact⟨its,r,⟨_,n,e,rfl,rfl,rfl⟩,z⟩
 ·refine⟨its.toList,r,⟨o,n,I.kIn a o hk,hc,hd,by simpa using hs⟩,?_⟩;have e:=r.length;simp only[ko] at e;lia
theorem Inv.tuple(I:Inv X pins Z H s)(h:SqT X.K H a xs):∃its:List Value,Vals xs its/\IsTup s.heap a its.toArray/\xs.length<=sizeLine:=by
 rcases h with h | ⟨o,its,n,hk,hc,hs,hz,r⟩
 ·obtain⟨z,its,r,p⟩:=h.ok I.hok;exact⟨its,r,p,z⟩
 ·refine⟨its.toList,r,⟨o,I.kIn a o hk,hc,n,by simpa using hs⟩,?_⟩;have e:=r.length;simp only[ko] at e;lia
theorem Inv.list_inj(I:Inv X pins Z H s)(h:SqL X.K H a xs)(h':SqL X.K H a ys):xs=ys:=by
 obtain⟨its,r,⟨o,n,e,_,_,d⟩,_⟩:=I.list h;obtain⟨its',r',⟨o',n',e',_,_,d'⟩,_⟩:=I.list h';rw[e] at e';cases e';rw[d] at d';injection d' with d1 _;have:its=its':=by simpa using yk Array.toList d1
 subst this;exact r.inj r'
theorem Inv.tuple_inj(I:Inv X pins Z H s)(h:SqT X.K H a xs)(h':SqT X.K H a ys):xs=ys:=by
 obtain⟨its,r,⟨o,e,_,n,d⟩,_⟩:=I.tuple h;obtain⟨its',r',⟨o',e',_,n',d'⟩,_⟩:=I.tuple h';rw[e] at e';cases e';rw[d] at d';injection d' with d1 _;have:its=its':=by simpa using yk Array.toList d1
 subst this;exact r.inj r'
end
noncomputable abbrev Cx.wish(X:Cx)(E:Value->Shared->Prop):Cx:={ X with xe:=E }
noncomputable abbrev Cx.nox(X:Cx):Cx:=X.wish fun _ _=>False
theorem Cx.Ok.wish{X:Cx}(ok:X.Ok)(E:Value->Shared->Prop):(X.wish E).Ok:=
 ⟨ok.mod,ok.kind,ok.glob,ok.blt,ok.above,ok.inj,ok.has,ok.cab,ok.hd,ok.frames,ok.stk,ok.exf,ok.bs,ok.bsz,ok.noex,ok.exfs,ok.funs,ok.frf⟩
theorem Cx.Ok.unwish{X:Cx}{E:Value->Shared->Prop}(ok:(X.wish E).Ok):X.Ok:=
 ⟨ok.mod,ok.kind,ok.glob,ok.blt,ok.above,ok.inj,ok.has,ok.cab,ok.hd,ok.frames,ok.stk,ok.exf,ok.bs,ok.bsz,ok.noex,ok.exfs,ok.funs,ok.frf⟩
section
variable{X:Cx}{pins:List (Addr×Obj)}{Z:St}{H:Hp}{s:Shared}{E:Value->Shared->Prop}
theorem Inv.wish(I:Inv X pins Z H s)(E:Value->Shared->Prop):Inv (X.wish E) pins Z H s:=⟨I.ok.wish E,I.os,I.bare,I.base,I.loc,I.cell,I.free,I.freeC,I.pin,I.hok,I.len⟩
theorem Inv.unwish(I:Inv (X.wish E) pins Z H s):Inv X pins Z H s:=⟨I.ok.unwish,I.os,I.bare,I.base,I.loc,I.cell,I.free,I.freeC,I.pin,I.hok,I.len⟩
theorem SP.unwish{D:Ends}{f:Flow}{s':Shared}(h:SP (X.wish E) pins D f s'):SP X pins D f s':=by
 cases f with
 | next=>obtain⟨Z',H',I,q⟩:=h;exact⟨Z',H',I.unwish,q⟩
 | brk=>obtain⟨Z',H',I,q⟩:=h;exact⟨Z',H',I.unwish,q⟩
 | cont=>obtain⟨Z',H',I,q⟩:=h;exact⟨Z',H',I.unwish,q⟩
 | ret u=>obtain⟨v,Z',H',I,r,q⟩:=h;exact⟨v,Z',H',I.unwish,r,q⟩
theorem PSs.nox{st:List Stmt}{t:TS}(h:PSs X.nox st t):PSs X st t:=fun pins s Z H D I hw=>
 ja5 (h s Z H D (I.wish _) hw) (fun _ _ q=>q.unwish) fun _ _ z=>False.elim z
end
section
variable{X:Cx}{st:Stmt}{rest:List Stmt}{t u:TS}{e:Expr}{te:TE}{pos:Pos}
noncomputable def wL:TS:=fun D Z H=>D.nx Z H
noncomputable def xj(t u:TS):TS:=fun D Z H=>t { D with nx:=u D } Z H
theorem Aq:PSs X [] wL:=fun _ _ Z H _ I h=>wpAny_execs_nil ⟨Z,H,I,h⟩
theorem Ab(h1:PS X st t)(h2:PSs X rest u):PSs X (st::rest) (xj t u):=by
 intro pins s Z H D I h;refine wpAny_execs_cons (thn (h1 s Z H { D with nx:=u D } I h) fun f s1 q=>?_);cases f with
 | next=>
  obtain⟨Z',H',I',q⟩:=q;exact h2 s1 Z' H' D I' q
 | ret v=>exact q
 | brk=>exact q
 | cont=>exact q
theorem Ad(h1:PS X st t):PSs X [st] t:=by
 intro pins s Z H D I h;refine wpAny_execs_cons (thn (h1 s Z H D I h) fun f s1 q=>?_);cases f with
 | next=>exact wpAny_execs_nil q
 | ret v=>exact q
 | brk=>exact q
 | cont=>exact q
theorem Inv.quiet{s:Shared}(I:Inv X pins Z H s):interactive X.env=false:=by simp[interactive,I.ok.kind]
noncomputable def wN(te:TE):TS:=fun D Z H=>te Z H fun _ H1=>D.nx Z H1
theorem Bc(he:PE X e te)(hs:swapsWith e none pos.line X.env=pure false:=by rfl):PS X (.Expr e pos) (wN te):=by
 intro pins s Z H D I h;exact wpAny_Expr_any (thn (he s Z H _ I h) fun v s1 ⟨x,H1,I1,r1,q1⟩=>⟨Z,H1,I1,q1⟩) I.quiet hs
noncomputable def ABI(te:TE):TS:=fun D Z H=>te Z H D.rt
theorem Al(he:PE X e te):PS X (.Return (some e) pos) (ABI te):=by
 intro pins s Z H D I h;exact wpAny_Return_some (thn (he s Z H _ I h) fun v s1 ⟨x,H1,I1,r1,q1⟩=>⟨x,Z,H1,I1,r1,q1⟩)
noncomputable def ABN(c:TT)(t u:TS):TS:=fun D Z H=>c Z H fun b H1=>if b=true then t D Z H1 else u D Z H1
theorem Ay{c:Expr}{a b:List Stmt}{tc:TT}(hc:PT X c tc)(ha:PSs X a t)(hb:PSs X b u):PS X (.If c a b pos) (ABN tc t u):=by
 intro pins s Z H D I h;refine wpAny_If (thn (hc s Z H _ I h) fun d s1 hZ=>?_);obtain⟨H1,I1,q1⟩:=hZ;cases d with
 | true=>exact ha s1 Z H1 D I1 q1
 | false=>exact hb s1 Z H1 D I1 q1
noncomputable def xm:TS:=fun _ _ _=>False
theorem BX:PS X st xm:=fun _ _ _ _ _ _ h=>h.elim
end
noncomputable abbrev TG:=V->St->Hp->(St->Hp->Prop)->Prop
noncomputable abbrev TGs:=List V->St->Hp->(St->Hp->Prop)->Prop
noncomputable def PG(X:Cx)(target:Expr)(t:TG):Prop:=
 ∀ ⦃pins:List (Addr×Obj)⦄ (s:Shared) (Z:St) (H:Hp) (v:V) (u:Value) (Q:St->Hp->Prop),Inv X pins Z H s->RelV v u->t v Z H Q->
  wpAny (model X.prog X.w) X.A (assign target X.env u) (fun _ s'=>∃Z' H',Inv X pins Z' H' s'/\Q Z' H') X.xe s
noncomputable def PGs(X:Cx)(ts:List Expr)(t:TGs):Prop:=
 ∀ ⦃pins:List (Addr×Obj)⦄ (s:Shared) (Z:St) (H:Hp) (vs:List V) (us:List Value) (Q:St->Hp->Prop),Inv X pins Z H s->Vals vs us->t vs Z H Q->
  wpAny (model X.prog X.w) X.A (assignInOrder ((assignEach ts X.env).map (·.2)) us) (fun _ s'=>∃Z' H',Inv X pins Z' H' s'/\Q Z' H') X.xe s
noncomputable abbrev AAq:=V->V->V->Hp->(Hp->Prop)->Prop
noncomputable def ACq(X:Cx)(t:AAq):Prop:=
 ∀(pins:List (Addr×Obj)) (s:Shared) (Z:St) (H:Hp) (o i v:V) (ov iv u:Value) (Q:Hp->Prop),Inv X pins Z H s->RelV o ov->RelV i iv->RelV v u->t o i v H Q->
  wpAny (model X.prog X.w) X.A (setItem ov iv u) (fun _ s'=>∃H',Inv X pins Z H' s'/\Q H') X.xe s
section
variable{X:Cx}{pos:Pos}
noncomputable def Im(i:Nat):TG:=fun v Z H Q=>Q (Z.set i (some v)) H
theorem Cg{i:Nat}(hN:X.N.Nodup)(hi:X.N[i]?=some x)(hx:Loc X.env.scope x)(hf:X.fn x=true\/X.env.scope.names.lookup x=some .local:=by first | exact .inl rfl | exact .inr rfl | assumption):PG X (.Name x pos) (Im i):=by
 intro pins s Z H v u Q I r h;exact wpAny_assign_Name (Lj I hN hi hx r (fun s' I'=>⟨_,H,I',h⟩) hf)
noncomputable def ux:TGs:=fun vs Z H Q=>vs=[]/\Q Z H
noncomputable def Vl(t:TG)(u:TGs):TGs:=fun vs Z H Q=>∃v r,vs=v::r/\t v Z H fun Z' H'=>u r Z' H' Q
theorem JH:PGs X [] ux:=by
 intro pins s Z H vs us Q I r h;obtain⟨e,h⟩:=h;subst e;cases r;exact assignInOrder_nil ⟨Z,H,I,h⟩
theorem Dv{e:Expr}{es:List Expr}{t:TG}{u:TGs}(h1:PG X e t)(h2:PGs X es u)
 (hs:(assignEach (e::es) X.env).map (·.2)=assign e X.env::(assignEach es X.env).map (·.2):=by rfl):PGs X (e::es) (Vl t u):=by
 intro pins s Z H vs us Q I r h;obtain⟨v,vr,e1,h⟩:=h;subst e1;cases r with
 | cons r rr=>
  rw[hs];refine assignInOrder_cons (thn (h1 s Z H _ _ _ I r h) fun _ s1 hZ=>?_);obtain⟨σ1,H1,I1,q1⟩:=hZ;exact h2 s1 σ1 H1 _ _ Q I1 rr q1
noncomputable def pA(K:Fr)(n:Nat)(t:TGs):TG:=fun v Z H Q=>∃a xs,v=.ref a/\SqT K H a xs/\xs.length=n/\t xs Z H Q
theorem Oa{es:List Expr}{k:Nat}{t:TGs}{n:Nat}(hc:X.calm=true)(h:PGs X es t)
 (hn:(assignEach es X.env).length=n:=by rfl)(hst:(assignEach es X.env).findIdx? (·.1)=none:=by rfl):PG X (.Tuple es k pos) (pA X.K n t):=by
 intro pins s Z H v u Q I r hw;obtain⟨a,xs,e1,hq,hl,hw⟩:=hw;subst e1;cases r;obtain⟨its,rv,ht,hz⟩:=I.tuple hq;refine assign_Tuple_tuple (I.ok.hd hc) ht (by simp[hn,<-hl,rv.length]) hst fun h' hx=>?_;have I1:Inv X pins Z H { s with heap:=h' }:=I.kept (t':=s.toks) fun b o e=>hx b o (vi (zo e)) e;exact h _ Z H xs _ Q I1 (by simpa using rv) hw
noncomputable def ACb(to ti:TE)(t:AAq):TG:=fun v Z H Q=>to Z H fun o H1=>ti Z H1 fun i H2=>t o i v H2 fun H3=>Q Z H3
theorem m9{o i:Expr}{to ti:TE}{t:AAq}(ho:PE X o to)(hi:PE X i ti)(hs:ACq X t)
 (ha:∀v,assign (.Subscript o i pos) X.env v=(do
  let ov <-holding [v] (eval o X.env)
  let iv <-holding [v,ov] (eval i X.env)
  standAt pos
  holding [v,ov,iv] (setItem ov iv v)
  release [v,ov,iv] []):=by intro _;rfl):PG X (.Subscript o i pos) (ACb to ti t):=by
 intro pins s Z H v u Q I r h;rw[ha];refine qf (wpAny_holding (thn (ho s Z H _ I h) fun ov s1 hZ=>?_));obtain⟨x,H1,I1,r1,q1⟩:=hZ;refine qf (wpAny_holding (thn (hi s1 Z H1 _ I1 q1) fun iv s2 hZ=>?_));obtain⟨y,H2,I2,r2,q2⟩:=hZ;refine qf (wpAny_standAt (qf (wpAny_holding (thn (hs pins s2 Z H2 x y v ov iv u _ I2 r1 r2 r q2) fun _ s3 hZ=>?_))));obtain⟨H3,I3,q3⟩:=hZ;exact wpAny_release ⟨Z,H3,I3,q3⟩
noncomputable def lG(te:TE)(g:TG):TS:=fun D Z H=>te Z H fun x H1=>g x Z H1 D.nx
theorem K8{tg e:Expr}{te:TE}{g:TG}(he:PE X e te)(hg:PG X tg g)(hs:swapsWithSole [tg] e pos.line X.env=pure false:=by rfl)(hw:swappedStores [tg] e X.env=pure none:=by rfl)
 (h1:(assignEach [tg] X.env).map (·.2)=[assign tg X.env]:=by rfl):PS X (.Assign [tg] e pos) (lG te g):=by
 intro pins s Z H D I h;refine wpAny_Assign_stores (thn (he s Z H _ I h) fun v s1 hZ=>?_) hs hw;obtain⟨x,H1,I1,r1,q1⟩:=hZ;rw[h1];exact thn (hg s1 Z H1 x v _ I1 r1 q1) fun _ s2 q=>q
theorem Aj(i:Nat){x:Str}{e:Expr}{te:TE}{pos':Pos}(he:PE X e te)(hN:X.N.Nodup:=by assumption)(hi:X.N[i]?=some x:=by exact rfl)(hx:Loc X.env.scope x:=by walk_at"o")(hs:swapsWith e (some (.Name x pos')) pos.line X.env=pure false:=by rfl)(hf:X.fn x=true\/X.env.scope.names.lookup x=some .local:=by first | exact .inl rfl | exact .inr rfl | assumption):
 PS X (.Assign [.Name x pos'] e pos) (lG te (Im i)):=by
 intro pins s Z H D I h;refine wpAny_Assign_Name (thn (he s Z H _ I h) fun v s1 hZ=>?_) hs;obtain⟨y,H1,I1,r1,q1⟩:=hZ;exact Lj I1 hN hi hx r1 (fun s2 I2=>⟨_,H1,I2,q1⟩) hf
noncomputable def ABJ(i j:Nat)(ta:TA):TS:=fun D Z H=>ta Z H fun vs H1=>∃v w,vs=[v,w]/\D.nx ((Z.set i (some v)).set j (some w)) H1
theorem zK{i j:Nat}{y:Str}{a b:Expr}{ta:TA}{px py pt:Pos}{kt k2 pt2}(hc:X.calm=true)(hN:X.N.Nodup)(hi:X.N[i]?=some x)(hj:X.N[j]?=some y)(hij:i≠j)
 (hx:X.env.scope.names.lookup x=some .local)(hy:X.env.scope.names.lookup y=some .local)(ha:PA X [a,b] ta)
 (hw:swappedStores [.Tuple [.Name x px,.Name y py] kt pt] (.Tuple [a,b] k2 pt2) X.env=pure (some [x,y]))
 (hs:swapsWithSole [.Tuple [.Name x px,.Name y py] kt pt] (.Tuple [a,b] k2 pt2) pos.line X.env=pure false:=by rfl):
 PS X (.Assign [.Tuple [.Name x px,.Name y py] kt pt] (.Tuple [a,b] k2 pt2) pos) (ABJ i j ta):=by
 intro pins s Z H D I h;rw[exec_Assign_arm];refine qf (wpAny_standAt ?_);rw[hs];refine qf (xy ?_);rw[xk (by decide)];refine qf (Tuple_ (thn (ha pins s Z H _ I h) fun us s1 hZ=>?_));obtain⟨vs,H1,I1,r1,q1⟩:=hZ;obtain⟨v,w,e1,q1⟩:=q1;subst e1;obtain⟨u1,u2,rfl,rv,rw'⟩:∃u1 u2,us=[u1,u2]/\RelV v u1/\RelV w u2:=by
  cases r1 with
  | cons p q=>
   cases q with
   | cons p' q'=>
    cases q';exact⟨_,_,rfl,p,p'⟩
 refine jm5 ?_ (by show 2<=sizeLine;decide);have I2:Inv X pins Z H1 { s1 with heap:=s1.heap.push { cls:=.type "tuple",data:=.seq [u1,u2].toArray } }:=I1.kept (t':=s1.toks) fun b o e=>jv _ e;rw[hw];refine qf (xy ?_);show wpAny (model X.prog X.w) X.A (do rule "assign.swapped-stores";let items <-unpackItems (.ref s1.heap.objs.size) 2 none;assignInOrder [fun v=>bindName X.env y v,fun v=>bindName X.env x v] items.reverse;pure Flow.next) _ _ _
 refine qf (wpAny_rule (qf (unpackItems_tuple (items:= #[u1,u2]) (I.ok.hd hc) (IsTup.new s1.heap _) fun h' hx'=>?_)));have I3:=I2.kept (h':=h') (t':=s1.toks) fun b o e=>hx' b o (vi (zo e)) e;show wpAny _ _ (assignInOrder [fun v=>bindName X.env y v,fun v=>bindName X.env x v] [u2,u1] >>= fun _=>pure Flow.next) _ _ _
 refine qf (assignInOrder_cons (wpAny_bindName (Lj I3 hN hj (.inl hy) rw' (fun s2 I4=>?_) (.inr hy))));refine assignInOrder_cons (wpAny_bindName (Lj I4 hN hi (.inl hx) rv (fun s3 I5=>assignInOrder_nil (xy ?_)) (.inr hx)));rw[List.set_comm _ _ (Ne.symm hij)] at I5;exact⟨_,H1,I5,q1⟩
end
section
variable{X:Cx}{pos:Pos}
noncomputable def xg(c:TT)(tb:TS):TS:=fun D Z H=>∃W:Nat->St->Hp->Prop,(∃m,W m Z H)/\∀m Z H,W m Z H->
 c Z H fun b H1=>if b=true then ∃N:St->Hp->Prop,(∀Z' H',N Z' H'->∃m',m'<m/\W m' Z' H')/\tb { D with nx:=N,ct:=N,bk:=D.nx } Z H1 else D.nx Z H1
theorem Ik{c:Expr}{body:List Stmt}{tc:TT}{tb:TS}(hp:PassesOwn (model X.prog X.w) X.A X.env X.xe)(hc:PT X c tc)(hb:PSs X body tb):PS X (.While c body [] pos) (xg tc tb):=by
 intro pins s Z H D I h;obtain⟨W,⟨m0,w0⟩,turn⟩:=h;refine wpAny_While (codeAny_whileLoop (fun n s'=>∃Z' H',Inv X pins Z' H' s'/\W n Z' H') ?_ m0 ⟨Z,H,I,w0⟩);rintro n s1 ⟨σ1,H1,I1,w1⟩;refine jg5 hp (thn (hc s1 σ1 H1 _ I1 (turn n σ1 H1 w1)) fun b s2 hZ=>?_);obtain⟨H2,I2,q2⟩:=hZ;cases b with
 | true=>
  obtain⟨N,hN,q2⟩:=q2;rw[xh rfl];refine jg5 hp (thn (hb s2 σ1 H2 _ I2 q2) fun f s3 q3=>?_);cases f with
  | next=>
   obtain⟨σ3,H3,I3,n3⟩:=q3;obtain⟨m',hm,w3⟩:=hN σ3 H3 n3;exact⟨m',hm,σ3,H3,I3,w3⟩
  | cont=>
   obtain⟨σ3,H3,I3,n3⟩:=q3;obtain⟨m',hm,w3⟩:=hN σ3 H3 n3;exact⟨m',hm,σ3,H3,I3,w3⟩
  | brk=>exact q3
  | ret v=>exact q3
 | false=>
  rw[xk zi];exact wpAny_execs_nil ⟨σ1,H2,I2,q2⟩
end
structure It where
 go:Nat->Hp->Prop
 yld:Nat->Hp->V->Hp->Prop
 stop:Nat->Hp->Prop
noncomputable def Ka(X:Cx)(pins:List (Addr×Obj))(H:Hp)(b:Addr):Prop:=
 H b=none/\b≠X.env.locals/\b∉X.fs/\(b∈X.ex\/X.s₀.heap.objs.size<=b)/\(∀x c,X.env.cells.lookup x=some c->c≠b)/\∀p∈X.pn++pins,p.1≠b
theorem Inv.fpOk{X:Cx}{H':Hp}{s:Shared}{b:Addr}(I:Inv X pins Z H s)(hb:s.heap.objs.size<=b)(hn:H' b=none):Ka X pins H' b:=by
 refine⟨hn,Nat.ne_of_gt (xa I.lt hb),I.nofs hb,.inr (zv I.sz hb),fun x c e z=>?_,fun p hp z=>?_⟩
 ·obtain⟨v,q⟩:=I.cell x c e;exact absurd (xa q.lt (by rw[z];exact hb)) (jf0 _)
 ·exact absurd (xa (zo (I.pin p hp).1) (by rw[z];exact hb)) (jf0 _)
structure Turn(P:Program)(w:World)(K:Fr)(tg:Expr)(J:It)(fp:List Addr)(it:Addr)(tn:Nat->Heap->Prop):Prop where
 mem:it∈fp
 obj:∀i h,tn i h->∀b∈fp,∃o,h.get? b=some o/\∀v,o.data≠.cell v
 keep:∀i h h',tn i h->(∀b∈fp,∀o,h.get? b=some o->h'.get? b=some o)->tn i h'
 item:∀(X:Cx),X.prog=P->X.w=w->X.K=K->X.calm=true->∀(i:Nat) (pins:List (Addr×Obj)) (s:Shared) (Z:St) (H:Hp) (E:Value->Shared->Prop),Inv X pins Z H s->(∀b∈fp,Ka X pins H b)->tn i s.heap->J.go i H->
  wpAny (model P w) X.A (pyNext (.ref it)) (fun r s1=>∃u,r=some u/\
   wpAny (model P w) X.A (letOwnedTupleGo tg (.ref it) u) (fun _ s2=>∃x H',Inv X pins Z H' s2/\RelV x u/\J.yld i H x H'/\tn (i+1) s2.heap/\∀b∈fp,H' b=none) E s1) E s
 done:∀(X:Cx),X.prog=P->X.w=w->X.K=K->X.calm=true->∀(i:Nat) (pins:List (Addr×Obj)) (s:Shared) (Z:St) (H:Hp) (E:Value->Shared->Prop),Inv X pins Z H s->(∀b∈fp,Ka X pins H b)->tn i s.heap->J.stop i H->
  wpAny (model P w) X.A (pyNext (.ref it)) (fun r s1=>r=none/\Inv X pins Z H s1) E s
 self:∀(A:Around) (i:Nat) (s:Shared) (Q:Value->Shared->Prop) (E:Value->Shared->Prop),tn i s.heap->Q (.ref it) s->wpAny (model P w) A (pyIter (.ref it)) Q E s
noncomputable abbrev TI:=St->Hp->(It->Hp->Prop)->Prop
noncomputable def PIE(X:Cx)(pins:List (Addr×Obj))(Z:St)(tg:Expr)(R:It->Hp->Prop)(itv:Value)(s2:Shared):Prop:=
 ∃(it:Addr) (fp:List Addr) (tn:Nat->Heap->Prop) (J:It) (H':Hp),itv=.ref it/\Inv X pins Z H' s2/\Turn X.prog X.w X.K tg J fp it tn/\tn 0 s2.heap/\(∀b∈fp,Ka X pins H' b)/\R J H'
noncomputable def PI(X:Cx)(tg iter:Expr)(wi:TI):Prop:=
 ∀ ⦃pins:List (Addr×Obj)⦄ (s:Shared) (Z:St) (H:Hp) (R:It->Hp->Prop),Inv X pins Z H s->wi Z H R->
  wpAny (model X.prog X.w) X.A (eval iter X.env) (fun v s1=>wpAny (model X.prog X.w) X.A (pyIter v) (PIE X pins Z tg R) X.xe s1) X.xe s
theorem ZG{M:Model}{E:Value->Shared->Prop}{s:Shared}{tg:Expr}{it:Addr}{o:Obj}{n:String}{vs:Array Value}{Q:Unit->Shared->Prop}(ho:s.heap.get? it=some o)(hc:o.cls=.type n)(hd:o.data=.fields vs)
 (hn:["enumerate","zip","dict_itemiterator","dict_reverseitemiterator","odict_iterator","itertools.zip_longest","itertools.pairwise"].contains n=false)(hQ:Q () s):wpAny M A (letOwnedTupleGo tg (.ref it) u) Q E s:=by
 unfold letOwnedTupleGo;cases tg<;>first
  | exact xy hQ
  | (cases u<;>first
   | exact xy hQ
   | (refine qf (wpAny_load ho ?_)
      rw[hc,hd];show wpAny M A (if (["enumerate","zip","dict_itemiterator","dict_reverseitemiterator","odict_iterator","itertools.zip_longest","itertools.pairwise"].contains n&&vs[0]?==some (rawInt _))=true then _ else _) Q E s;rw[xk (by intro h;rw[hn,Bool.false_and] at h;cases h)];exact xy hQ))
noncomputable def Itl(K:Fr)(a:Addr):It:=
 ⟨fun i H=>∃xs x,SqL K H a xs/\xs[i]?=some x,fun i H x H'=>H'=H/\∀xs,SqL K H a xs->xs[i]?=some x,fun i H=>∃xs,SqL K H a xs/\xs.length<=i⟩
noncomputable def Itt(K:Fr)(a:Addr):It:=
 ⟨fun i H=>∃xs x,SqT K H a xs/\xs[i]?=some x,fun i H x H'=>H'=H/\∀xs,SqT K H a xs->xs[i]?=some x,fun i H=>∃xs,SqT K H a xs/\xs.length<=i⟩
noncomputable def Itr(lo:Int)(n:Nat):It:=⟨fun i _=>i<n,fun i H x H'=>H'=H/\x=.int (lo+i),fun i _=>n<=i⟩
theorem gP{P:Program}{w:World}{tg:Expr}(a it:Addr):Turn P w K tg (Itl K a) [it] it (fun i h=>h.IsListIter it a i) where
 mem:=by simp
 obj:=fun i h st b hb=>by
  have e:b=it:=by simpa using hb
  subst e;obtain⟨o,e,c,d⟩:=st;exact⟨o,e,fun v z=>by rw[d] at z;cases z⟩
 keep:=fun i h h' st k=>st.at fun o e=>k it (by simp) o e
 item:=by
  intro X hP hw hK hc i pins s Z H E I hf st hg;subst hP hw hK;obtain⟨xs,x,hq,hx⟩:=hg;obtain⟨its,rv,p,hz⟩:=I.list hq;obtain⟨u,hu,ru⟩:=rv.get hx;obtain⟨f0,f1,f2,f3,f4,f5⟩:=hf it (by simp);refine wpAny_pyNext_list_item st p.isList (x:=u) (by simpa using hu) fun h' st' sb=>?_;have I1:Inv X pins Z H { s with heap:=h' }:=I.turned (t':=s.toks) (fun b o hb e=>(sb.2 b hb).trans e) f0 f1 f3 f4 f5;obtain⟨o,e,c,d⟩:=id st';exact⟨u,rfl,ZG (s:={ s with heap:=h' }) e c d (by decide) ⟨x,H,I1,ru,⟨rfl,fun ys hy=>by rw[I.list_inj hy hq];exact hx⟩,st',fun b hb=>(hf b hb).1⟩⟩
 done:=by
  intro X hP hw hK hc i pins s Z H E I hf st hg;subst hP hw hK;obtain⟨xs,hq,hx⟩:=hg;obtain⟨its,rv,p,hz⟩:=I.list hq;obtain⟨f0,f1,f2,f3,f4,f5⟩:=hf it (by simp);have hl:=rv.length;exact wpAny_pyNext_list_end (I.ok.hd hc) st p.isList (by simp;lia) fun h' eb=>⟨rfl,I.turned (t':=s.toks) (fun b o hb e=>eb b o hb e) f0 f1 f3 f4 f5⟩
 self:=fun _ _ _ _ _ st h=>wpAny_pyIter_listiter st h
theorem Z4{P:Program}{w:World}{tg:Expr}(a it:Addr):Turn P w K tg (Itt K a) [it] it (fun i h=>h.IsTupleIter it a i) where
 mem:=by simp
 obj:=fun i h st b hb=>by
  have e:b=it:=by simpa using hb
  subst e;obtain⟨o,e,c,d⟩:=st;exact⟨o,e,fun v z=>by rw[d] at z;cases z⟩
 keep:=fun i h h' st k=>st.at fun o e=>k it (by simp) o e
 item:=by
  intro X hP hw hK hc i pins s Z H E I hf st hg;subst hP hw hK;obtain⟨xs,x,hq,hx⟩:=hg;obtain⟨its,rv,p,hz⟩:=I.tuple hq;obtain⟨u,hu,ru⟩:=rv.get hx;obtain⟨f0,f1,f2,f3,f4,f5⟩:=hf it (by simp);refine wpAny_pyNext_tuple_item st (show s.heap.IsTuple a its.toArray from p) (x:=u) (by simpa using hu) fun h' st' sb=>?_;have I1:Inv X pins Z H { s with heap:=h' }:=I.turned (t':=s.toks) (fun b o hb e=>(sb.2 b hb).trans e) f0 f1 f3 f4 f5;obtain⟨o,e,c,d⟩:=id st';exact⟨u,rfl,ZG (s:={ s with heap:=h' }) e c d (by decide) ⟨x,H,I1,ru,⟨rfl,fun ys hy=>by rw[I.tuple_inj hy hq];exact hx⟩,st',fun b hb=>(hf b hb).1⟩⟩
 done:=by
  intro X hP hw hK hc i pins s Z H E I hf st hg;subst hP hw hK;obtain⟨xs,hq,hx⟩:=hg;obtain⟨its,rv,p,hz⟩:=I.tuple hq;obtain⟨f0,f1,f2,f3,f4,f5⟩:=hf it (by simp);have hl:=rv.length;exact wpAny_pyNext_tuple_end (I.ok.hd hc) st (show s.heap.IsTuple a its.toArray from p) (by simp;lia) fun h' eb=>⟨rfl,I.turned (t':=s.toks) (fun b o hb e=>eb b o hb e) f0 f1 f3 f4 f5⟩
 self:=fun _ _ _ _ _ st h=>wpAny_pyIter_tupleiter st h
theorem Z5{P:Program}{w:World}{tg:Expr}(it:Addr)(lo:Int)(n:Nat):Turn P w K tg (Itr lo n) [it] it (fun i h=>IsRangeIter h it (lo+(i:Nat)*1) ((n:Int)-(i:Nat)) 1) where
 mem:=by simp
 obj:=fun i h st b hb=>by
  have e:b=it:=by simpa using hb
  subst e;exact⟨_,st,fun v z=>by
   have z':Data.fields _=Data.cell v:=z;cases z'⟩
 keep:=fun i h h' st k=>k it (by simp) _ st
 item:=by
  intro X hP hw hK hc i pins s Z H E I hf st hg;subst hP hw hK;obtain⟨f0,f1,f2,f3,f4,f5⟩:=hf it (by simp);have W:=Walks.range (prog:=X.prog) (w:=X.w) (I.ok.hd hc) it lo 1 n;refine W.item i s _ _ hg st fun v h' tk hv st' kk=>?_;obtain⟨t,rfl⟩:=hv;have I1:Inv X pins Z H { s with heap:=h',toks:=tk }:=I.turned (fun b o hb e=>kk b o (by simpa using hb) e) f0 f1 f3 f4 f5;refine⟨_,rfl,ZG (s:={ s with heap:=h',toks:=tk }) (n:="range_iterator") st' rfl rfl (by decide) ⟨.int (lo+i),H,I1,⟨t,?_⟩,⟨rfl,rfl⟩,st',fun b hb=>(hf b hb).1⟩⟩;rw[ja3]
 done:=by
  intro X hP hw hK hc i pins s Z H E I hf st hg;subst hP hw hK;obtain⟨f0,f1,f2,f3,f4,f5⟩:=hf it (by simp);exact wpAny_pyNext_range_end (I.ok.hd hc) st (by have:n<=i:=hg;lia) fun h' eb=>⟨rfl,I.turned (t':=s.toks) (fun b o hb e=>eb b o hb e) f0 f1 f3 f4 f5⟩
 self:=fun _ _ _ _ _ st h=>wpAny_pyIter_rangeiter st h
section
variable{X:Cx}{tg:Expr}
noncomputable def xH(K:Fr)(tl:TE):TI:=fun Z H R=>tl Z H fun x H1=>∃a,x=.ref a/\(∃xs,SqL K H1 a xs)/\R (Itl K a) H1
noncomputable def uv(K:Fr)(tl:TE):TI:=fun Z H R=>tl Z H fun x H1=>∃a,x=.ref a/\(∃xs,SqT K H1 a xs)/\R (Itt K a) H1
theorem Gj{l:Expr}{tl:TE}(hl:PE X l tl):PI X tg l (xH X.K tl):=by
 intro pins s Z H R I h;refine thn (hl s Z H _ I h) fun v s1 hZ=>?_;obtain⟨x,H1,I1,r1,q1⟩:=hZ;obtain⟨a,e,⟨xs,hq⟩,q⟩:=q1;subst e;cases r1;obtain⟨its,rv,p,hz⟩:=I1.list hq;refine wpAny_pyIter_list p.isList ?_;refine⟨s1.heap.objs.size,[s1.heap.objs.size],_,_,H1,rfl,I1.kept (t':=s1.toks) fun b o e=>jv _ e,gP a _,⟨_,zw _ rfl,rfl,rfl⟩,fun b hb=>?_,q⟩;have e:b=s1.heap.objs.size:=by simpa using hb
 subst e;exact I1.fpOk (ze _) (I1.hok.fresh (ze _))
theorem Rt{l:Expr}{tl:TE}(hl:PE X l tl):PI X tg l (uv X.K tl):=by
 intro pins s Z H R I h;refine thn (hl s Z H _ I h) fun v s1 hZ=>?_;obtain⟨x,H1,I1,r1,q1⟩:=hZ;obtain⟨a,e,⟨xs,hq⟩,q⟩:=q1;subst e;cases r1;obtain⟨its,rv,p,hz⟩:=I1.tuple hq;refine wpAny_pyIter_tuple (show s1.heap.IsTuple a its.toArray from p) ?_;refine⟨s1.heap.objs.size,[s1.heap.objs.size],_,_,H1,rfl,I1.kept (t':=s1.toks) fun b o e=>jv _ e,Z4 a _,⟨_,zw _ rfl,rfl,rfl⟩,fun b hb=>?_,q⟩;have e:b=s1.heap.objs.size:=by simpa using hb
 subst e;exact I1.fpOk (ze _) (I1.hok.fresh (ze _))
theorem mq{s:Shared}{R:It->Hp->Prop}{E:Value->Shared->Prop}{lo hi:Int}{t u v:Tok}{tk:Nat}(I:Inv X pins Z H s)(h1: -(2^62)<=lo)(h2:lo<2^62)(h3: -(2^62)<=hi)(h4:hi<2^62)
 (q:R (Itr lo (hi-lo).toNat) H):wpAny (model X.prog X.w) X.A (pyIter (.ref s.heap.objs.size)) (PIE X pins Z tg R) E { s with heap:=s.heap.push { cls:=.type "range",data:=.fields #[.int lo t,.int hi u,.int 1 v] },toks:=tk }:=by
 refine wpAny_pyIter_range (IsRange.new ..) (small_one h1 h2 h3 h4) ?_;have I1:Inv X pins Z H { s with heap:=s.heap.push { cls:=.type "range",data:=.fields #[.int lo t,.int hi u,.int 1 v] },toks:=tk }:=I.kept fun b o e=>jv _ e;refine⟨(s.heap.push { cls:=.type "range",data:=.fields #[.int lo t,.int hi u,.int 1 v] }).objs.size,[(s.heap.push { cls:=.type "range",data:=.fields #[.int lo t,.int hi u,.int 1 v] }).objs.size],_,_,H,rfl,
  I1.kept (t':=tk) fun b o e=>jv _ e,Z5 _ lo (hi-lo).toNat,?_,fun b hb=>?_,q⟩
 ·have e1:lo+((0:Nat):Int)*1=lo:=by simp
  have e2:(((hi-lo).toNat:Nat):Int)-((0:Nat):Int)=Builtin.Range.rangeSize lo hi 1:=by rw[rangeSize_one];split<;>lia
  show IsRangeIter _ _ (lo+((0:Nat):Int)*1) ((((hi-lo).toNat:Nat):Int)-((0:Nat):Int)) 1;rw[e1,e2];exact zw _ rfl
 ·have e:b=(s.heap.push { cls:=.type "range",data:=.fields #[.int lo t,.int hi u,.int 1 v] }).objs.size:=by simpa using hb
  subst e;exact I1.fpOk (ze _) (I1.hok.fresh (ze _))
noncomputable def xG(ta:TA):TI:=fun Z H R=>ta Z H fun vs H1=>∃j:Int,vs=[.int j]/\ -(2^62)<=j/\j<2^62/\R (Itr 0 j.toNat) H1
noncomputable def ACa(ta:TA):TI:=fun Z H R=>ta Z H fun vs H1=>∃i j:Int,vs=[.int i,.int j]/\(-(2^62)<=i/\i<2^62/\ -(2^62)<=j/\j<2^62)/\R (Itr i (j-i).toNat) H1
theorem OJ{a:Expr}{ta:TA}{p:Pos}(hg:Gl X "range")(hm:X.mg "range"=none)(ha:PA X [a] ta)(hs:starEach [a] X.env=[(false,eval a X.env)]:=by rfl):PI X tg (.Call (.Name "range" p) [a] [] pos) (xG ta):=by
 intro pins s Z H R I h;refine Call_ (Hl I hg hm boot_range (vc (thn (ha (pos:=pos) pins s Z H _ I h) fun us s1 hZ=>?_) hs rfl));obtain⟨vs,H1,I1,r1,q1⟩:=hZ;obtain⟨j,e,q1,q2,q⟩:=q1;subst e;cases r1 with
 | cons r rr=>
  cases rr;obtain⟨t,rfl⟩:=r;exact call_range_1 (mq I1 (by lia) (by lia) q1 q2 (by simpa using q))
noncomputable def ABO(wi:TI)(g:TG)(tb:TS):TS:=fun D Z H=>wi Z H fun J H1=>∃W:Nat->Nat->St->Hp->Prop,(∃m,W 0 m Z H1)/\∀i m Z H,W i m Z H->
 (J.stop i H/\D.nx Z H)\/(J.go i H/\∃N:St->Hp->Prop,(∀Z' H',N Z' H'->∃m',m'<m/\W (i+1) m' Z' H')/\∀x H',J.yld i H x H'->g x Z H' fun σ2 H2=>tb { D with nx:=N,ct:=N,bk:=D.nx } σ2 H2)
noncomputable def Rp(fp:List Addr)(h:Heap):List (Addr×Obj):=fp.filterMap fun b=>(h.get? b).map fun o=>(b,o)
theorem JM{fp:List Addr}{h:Heap}{b:Addr}{o:Obj}(hb:b∈fp)(e:h.get? b=some o):(b,o)∈Rp fp h:=List.mem_filterMap.mpr ⟨b,hb,by rw[e];rfl⟩
theorem iW{fp:List Addr}{h:Heap}{p:Addr×Obj}(hp:p∈Rp fp h):p.1∈fp/\h.get? p.1=some p.2:=by
 obtain⟨b,hb,e⟩:=List.mem_filterMap.mp hp;cases q:h.get? b with
 | none=>rw[q] at e;cases e
 | some o=>
  rw[q] at e;have e':(b,o)=p:=uu e;subst e';exact⟨hb,q⟩
theorem Inv.pinned{s:Shared}{fp:List Addr}(I:Inv X pins Z H s)(hf:∀b∈fp,Ka X pins H b)(ho:∀b∈fp,∃o,s.heap.get? b=some o/\∀v,o.data≠.cell v):Inv X (pins++Rp fp s.heap) Z H s:=
 I.pins_of fun p hp=>(ui.mp hp).elim (fun z=>I.pin p (yy _ z)) fun z=>by
  obtain⟨hb,e⟩:=iW z;obtain⟨f0,f1,f2,_⟩:=hf p.1 hb;obtain⟨o,e',d⟩:=ho p.1 hb;rw[e] at e';cases e';exact⟨e,f0,f1,f2,d⟩
theorem Inv.unpinned{pl:List (Addr×Obj)}{s:Shared}(I:Inv X (pins++pl) Z H s):Inv X pins Z H s:=I.pins_of fun p hp=>I.pin p (yy _ (jb9 _ hp))
theorem JG{iter:Expr}{body:List Stmt}{wi:TI}{g:TG}{tb:TS}(hp:PassesOwn (model X.prog X.w) X.A X.env X.xe)(hc:X.calm=true)(hi:PI X tg iter wi)(hg:PG X tg g)(hb:PSs X body tb)
 (hs:∀x,foldedSetIterable iter X.env x=pure x:=by intro _;rfl):PS X (.For tg iter body [] pos) (ABO wi g tb):=by
 intro pins s Z H D I h;refine wpAny_For (thn (hi s Z H _ I h) fun v s1 h1=>thn h1 fun itv s2 h2=>?_) hs;obtain⟨it,fp,tn,J,H2,e,I2,T,st2,f2,W,⟨m0,w0⟩,turn⟩:=h2;subst e;have stat:∀{H':Hp},(∀b∈fp,H' b=none)->∀b∈fp,Ka X pins H' b:=fun hn b hb=>⟨hn b hb,(f2 b hb).2⟩;refine codeAny_forLoop_any (fun n s'=>∃i Z' H',Inv X pins Z' H' s'/\tn i s'.heap/\(∀b∈fp,H' b=none)/\W i n Z' H') ?_ m0 ⟨0,Z,H2,I2,st2,fun b hb=>(f2 b hb).1,w0⟩;rintro n s3 ⟨i,σ3,H3,I3,st3,fr3,w3⟩;rcases turn i n σ3 H3 w3 with ⟨stop,qn⟩ | ⟨go,N,hN,step⟩
 ·refine jg5 hp (thn (T.done X rfl rfl rfl hc i pins s3 σ3 H3 X.xe I3 (stat fr3) st3 stop) fun r s4 ⟨hr,I4⟩=>?_);subst hr;exact wpAny_execs_nil ⟨σ3,H3,I4,qn⟩
 ·refine jg5 hp (thn (T.item X rfl rfl rfl hc i pins s3 σ3 H3 X.xe I3 (stat fr3) st3 go) fun r s4 ⟨u,hr,h4⟩=>?_);subst hr;refine jg5 hp (thn h4 fun _ s5 hZ=>?_);obtain⟨x,H5,I5,r5,y5,st5,fr5⟩:=hZ;have I5':=I5.pinned (stat fr5) (T.obj _ _ st5);refine jg5 hp (thn (hg s5 σ3 H5 x u _ I5' r5 (step x H5 y5)) fun _ s6 hZ=>?_);obtain⟨σ6,H6,I6,q6⟩:=hZ;refine jg5 hp (thn (hb s6 σ6 H6 _ I6 q6) fun f s7 q7=>?_);have again:∀{σ7:St} {H7:Hp},Inv X (pins++Rp fp s5.heap) σ7 H7 s7->N σ7 H7->∃m,m<n/\∃i Z' H',Inv X pins Z' H' s7/\tn i s7.heap/\(∀b∈fp,H' b=none)/\W i m Z' H':=fun{σ7 H7} I7 n7=>by
   obtain⟨m',hm,w7⟩:=hN σ7 H7 n7;refine⟨m',hm,i+1,σ7,H7,I7.unpinned,T.keep _ _ _ st5 fun b hb o e=>(I7.pin (b,o) (yy _ (yy _ (JM hb e)))).1,fun b hb=>?_,w7⟩;obtain⟨o,e,d⟩:=T.obj _ _ st5 b hb;exact(I7.pin (b,o) (yy _ (yy _ (JM hb e)))).2.1
  cases f with
  | next=>obtain⟨σ7,H7,I7,n7⟩:=q7;exact again I7 n7
  | cont=>obtain⟨σ7,H7,I7,n7⟩:=q7;exact again I7 n7
  | brk=>obtain⟨σ7,H7,I7,q7⟩:=q7;exact⟨σ7,H7,I7.unpinned,q7⟩
  | ret v=>obtain⟨x7,σ7,H7,I7,r7,q7⟩:=q7;exact⟨x7,σ7,H7,I7.unpinned,r7,q7⟩
end
theorem J4{xs:List V}{g:TG}{tb:TS}{D:Ends}(Pv:Nat->St->Hp->Prop)(h0:Pv 0 Z H)(hl:∀i Z H,i<=xs.length->Pv i Z H->SqL K H a xs)
 (hs:∀i x Z H,xs[i]?=some x->Pv i Z H->g x Z H fun σ2 H2=>tb { D with nx:=Pv (i+1),ct:=Pv (i+1),bk:=D.nx } σ2 H2)(hd:∀Z H,Pv xs.length Z H->D.nx Z H):
 ∃W:Nat->Nat->St->Hp->Prop,(∃m,W 0 m Z H)/\∀i m Z H,W i m Z H->
  ((Itl K a).stop i H/\D.nx Z H)\/((Itl K a).go i H/\∃N:St->Hp->Prop,(∀Z' H',N Z' H'->∃m',m'<m/\W (i+1) m' Z' H')/\∀x H',(Itl K a).yld i H x H'->g x Z H' fun σ2 H2=>tb { D with nx:=N,ct:=N,bk:=D.nx } σ2 H2):=by
 refine⟨fun i m Z H=>m=xs.length-i/\i<=xs.length/\Pv i Z H,⟨xs.length,by simp,ve _,h0⟩,?_⟩;rintro i m Z H ⟨rfl,hi,p⟩;have q:=hl i Z H hi p;by_cases hlt:i<xs.length
 ·refine .inr ⟨⟨xs,xs[i],q,by simp[hlt]⟩,Pv (i+1),fun Z' H' p'=>⟨xs.length-(i+1),by lia,rfl,hlt,p'⟩,fun x H' y=>?_⟩;obtain⟨e,y⟩:=y;subst e;exact hs i x Z _ (y xs q) p
 ·have e:i=xs.length:=by lia
  subst e;exact .inl ⟨⟨xs,q,ze _⟩,hd Z H p⟩
theorem uy{xs:List V}{g:TG}{tb:TS}{D:Ends}(Pv:Nat->St->Hp->Prop)(h0:Pv 0 Z H)(hl:∀i Z H,i<=xs.length->Pv i Z H->SqT K H a xs)
 (hs:∀i x Z H,xs[i]?=some x->Pv i Z H->g x Z H fun σ2 H2=>tb { D with nx:=Pv (i+1),ct:=Pv (i+1),bk:=D.nx } σ2 H2)(hd:∀Z H,Pv xs.length Z H->D.nx Z H):
 ∃W:Nat->Nat->St->Hp->Prop,(∃m,W 0 m Z H)/\∀i m Z H,W i m Z H->
  ((Itt K a).stop i H/\D.nx Z H)\/((Itt K a).go i H/\∃N:St->Hp->Prop,(∀Z' H',N Z' H'->∃m',m'<m/\W (i+1) m' Z' H')/\∀x H',(Itt K a).yld i H x H'->g x Z H' fun σ2 H2=>tb { D with nx:=N,ct:=N,bk:=D.nx } σ2 H2):=by
 refine⟨fun i m Z H=>m=xs.length-i/\i<=xs.length/\Pv i Z H,⟨xs.length,by simp,ve _,h0⟩,?_⟩;rintro i m Z H ⟨rfl,hi,p⟩;have q:=hl i Z H hi p;by_cases hlt:i<xs.length
 ·refine .inr ⟨⟨xs,xs[i],q,by simp[hlt]⟩,Pv (i+1),fun Z' H' p'=>⟨xs.length-(i+1),by lia,rfl,hlt,p'⟩,fun x H' y=>?_⟩;obtain⟨e,y⟩:=y;subst e;exact hs i x Z _ (y xs q) p
 ·have e:i=xs.length:=by lia
  subst e;exact .inl ⟨⟨xs,q,ze _⟩,hd Z H p⟩
theorem jP{lo:Int}{n:Nat}{g:TG}{tb:TS}{D:Ends}(Pv:Nat->St->Hp->Prop)(h0:Pv 0 Z H)
 (hs:∀i Z H,i<n->Pv i Z H->g (.int (lo+i)) Z H fun σ2 H2=>tb { D with nx:=Pv (i+1),ct:=Pv (i+1),bk:=D.nx } σ2 H2)(hd:∀Z H,Pv n Z H->D.nx Z H):
 ∃W:Nat->Nat->St->Hp->Prop,(∃m,W 0 m Z H)/\∀i m Z H,W i m Z H->
  ((Itr lo n).stop i H/\D.nx Z H)\/((Itr lo n).go i H/\∃N:St->Hp->Prop,(∀Z' H',N Z' H'->∃m',m'<m/\W (i+1) m' Z' H')/\∀x H',(Itr lo n).yld i H x H'->g x Z H' fun σ2 H2=>tb { D with nx:=N,ct:=N,bk:=D.nx } σ2 H2):=by
 refine⟨fun i m Z H=>m=n-i/\i<=n/\Pv i Z H,⟨n,by simp,ve _,h0⟩,?_⟩;rintro i m Z H ⟨rfl,hi,p⟩;by_cases hlt:i<n
 ·refine .inr ⟨hlt,Pv (i+1),fun Z' H' p'=>⟨n-(i+1),by lia,rfl,hlt,p'⟩,fun x H' y=>?_⟩;obtain⟨e,y⟩:=y;subst e y;exact hs i Z _ hlt p
 ·have e:i=n:=by lia
  subst e;exact .inl ⟨ze _,hd Z H p⟩
noncomputable abbrev R2:=V->V->Hp->VK->Prop
noncomputable def OpR(X:Cx)(f:Value->Value->Sem Value)(r:R2):Prop:=
 ∀(pins:List (Addr×Obj)) (s:Shared) (Z:St) (H:Hp) (x y:V) (v u:Value) (Q:VK),Inv X pins Z H s->RelV x v->RelV y u->r x y H Q->
  wpAny (model X.prog X.w) X.A (f v u) (EP X pins Z Q) X.xe s
noncomputable def UnR(X:Cx)(f:Value->Sem Value)(r:V->Hp->VK->Prop):Prop:=
 ∀(pins:List (Addr×Obj)) (s:Shared) (Z:St) (H:Hp) (x:V) (v:Value) (Q:VK),Inv X pins Z H s->RelV x v->r x H Q->
  wpAny (model X.prog X.w) X.A (f v) (EP X pins Z Q) X.xe s
noncomputable def Hq(X:Cx)(f:Value)(r:List V->Hp->VK->Prop):Prop:=
 ∀(pins:List (Addr×Obj)) (s:Shared) (Z:St) (H:Hp) (xs:List V) (us:List Value) (Q:VK),Inv X pins Z H s->Vals xs us->r xs H Q->
  wpAny (model X.prog X.w) X.A (call f us) (EP X pins Z Q) X.xe s
noncomputable def ADk(X:Cx)(r:V->Hp->(Bool->Hp->Prop)->Prop):Prop:=
 ∀(pins:List (Addr×Obj)) (s:Shared) (Z:St) (H:Hp) (x:V) (v:Value) (Q:Bool->Hp->Prop),Inv X pins Z H s->RelV x v->r x H Q->
  wpAny (model X.prog X.w) X.A (truthy v) (TP X pins Z Q) X.xe s
noncomputable def tOp(r:R2)(ta tb:TE):TE:=fun Z H Q=>ta Z H fun x H1=>tb Z H1 fun y H2=>r x y H2 Q
noncomputable def tUn(r:V->Hp->VK->Prop)(ta:TE):TE:=fun Z H Q=>ta Z H fun x H1=>r x H1 Q
noncomputable def rI(C:Int->Int->Prop)(g:Int->Int->V):R2:=fun x y H Q=>∃i j,x=.int i/\y=.int j/\C i j/\Q (g i j) H
noncomputable def rI0(g:Int->Int->V):R2:=fun x y H Q=>∃i j,x=.int i/\y=.int j/\Q (g i j) H
noncomputable def rU(g:Int->V):V->Hp->VK->Prop:=fun x H Q=>∃i,x=.int i/\Q (g i) H
section
variable{X:Cx}{a b c:Expr}{ta tb tc:TE}{pos:Pos}
theorem AAi(ha:PE X a ta)(hb:PE X b tb){pins:List (Addr×Obj)}{s:Shared}{Z:St}{H:Hp}{R:V->V->Hp->Prop}(I:Inv X pins Z H s)
 (h:ta Z H fun x H1=>tb Z H1 fun y H2=>R x y H2){Q:Value->Shared->Prop}{f:Value->Value->Sem Value}
 (hf:∀v u s2 x y H2,Inv X pins Z H2 s2->RelV x v->RelV y u->R x y H2->wpAny (model X.prog X.w) X.A (f v u) Q X.xe s2):
 wpAny (model X.prog X.w) X.A (eval a X.env) (fun v s₁=>wpAny (model X.prog X.w) X.A (eval b X.env) (fun u s₂=>wpAny (model X.prog X.w) X.A (f v u) Q X.xe s₂) X.xe s₁) X.xe s:=by
 refine thn (ha s Z H _ I h) fun v s1 hZ=>?_;obtain⟨x,H1,I1,r1,q1⟩:=hZ;refine thn (hb s1 Z H1 _ I1 q1) fun u s2 hZ=>?_;obtain⟨y,H2,I2,r2,q2⟩:=hZ;exact hf v u s2 x y H2 I2 r1 r2 q2
theorem Ag{op:Operator}{r:R2}(ho:OpR X (binaryOp op) r)(ha:PE X a ta)(hb:PE X b tb):PE X (.BinOp a op b pos) (tOp r ta tb):=by
 intro pins s Z H Q I h;exact wpAny_BinOp (AAi ha hb I h fun v u s2 x y H2 I2 rx ry q=>ho pins s2 Z H2 x y v u Q I2 rx ry q)
theorem Fx{op:UnaryOp}{r:V->Hp->VK->Prop}(ho:UnR X (unaryOp op) r)(ha:PE X a ta):PE X (.UnaryOp op a pos) (tUn r ta):=by
 intro pins s Z H Q I h;exact UnaryOp_ (thn (ha s Z H _ I h) fun v s1 ⟨x,H1,I1,r1,q1⟩=>ho pins s1 Z H1 x v Q I1 r1 q1)
theorem opI{f:Value->Value->Sem Value}{C:Int->Int->Prop}{g:Int->Int->Int}
 (rule:∀(i j:Int) (t u:Tok) (s:Shared) (Q:Value->Shared->Prop) (E:Value->Shared->Prop),C i j->Q (.int (g i j) s.toks) { s with toks:=s.toks+1 }->wpAny (model X.prog X.w) X.A (f (.int i t) (.int j u)) Q E s):
 OpR X f (rI C fun i j=>.int (g i j)):=by
 intro pins s Z H x y v u Q I rx ry h;obtain⟨i,j,rfl,rfl,hc,q⟩:=h;obtain⟨t,rfl⟩:=rx;obtain⟨t',rfl⟩:=ry;exact rule i j t t' s _ _ hc ⟨.int (g i j),H,I.tok _,⟨_,rfl⟩,q⟩
theorem ni{f:Value->Value->Sem Value}{g:Int->Int->Int}
 (rule:∀(i j:Int) (t u:Tok) (s:Shared) (Q:Value->Shared->Prop) (E:Value->Shared->Prop),Q (.int (g i j) s.toks) { s with toks:=s.toks+1 }->wpAny (model X.prog X.w) X.A (f (.int i t) (.int j u)) Q E s):
 OpR X f (rI0 fun i j=>.int (g i j)):=by
 intro pins s Z H x y v u Q I rx ry h;obtain⟨i,j,rfl,rfl,q⟩:=h;obtain⟨t,rfl⟩:=rx;obtain⟨t',rfl⟩:=ry;exact rule i j t t' s _ _ ⟨.int (g i j),H,I.tok _,⟨_,rfl⟩,q⟩
theorem uO{f:Value->Value->Sem Value}{g:Int->Int->Bool}
 (rule:∀(i j:Int) (t u:Tok) (s:Shared) (Q:Value->Shared->Prop) (E:Value->Shared->Prop),Q (.bool (g i j)) s->wpAny (model X.prog X.w) X.A (f (.int i t) (.int j u)) Q E s):
 OpR X f (rI0 fun i j=>.bl (g i j)):=by
 intro pins s Z H x y v u Q I rx ry h;obtain⟨i,j,rfl,rfl,q⟩:=h;obtain⟨t,rfl⟩:=rx;obtain⟨t',rfl⟩:=ry;exact rule i j t t' s _ _ ⟨.bl (g i j),H,I,rfl,q⟩
noncomputable def ACv(i j:Int):Prop:=0<=j/\j<=1000000/\i.natAbs<2^64
theorem Z0(k:Nat):(0:Int)<=2^k:=by
 rw[two_pow_cast];exact jl0 _
theorem Be:OpR X (binaryOp .Add) (rI0 fun i j=>.int (i+j)):=ni fun _ _ _ _ _ _ _ q=>add_int q
theorem DW:OpR X (binaryOp .Sub) (rI0 fun i j=>.int (i-j)):=ni fun _ _ _ _ _ _ _ q=>sub_int q
theorem Bs:OpR X (binaryOp .Mod) (rI (fun _ j=>0<j) fun i j=>.int (i%j)):=opI fun i j _ _ _ _ _ hc q=>by
 have h1:(0:Int)<j:=hc;exact mod_int' (by lia) (by rw[Int.fmod_eq_emod_of_nonneg i (by lia)];exact q)
theorem Og:OpR X (binaryOp .Pow) (rI ACv fun i j=>.int (i^j.toNat)):=opI fun _ _ _ _ _ _ _ hc q=>pow_int_small hc.1 hc.2.1 hc.2.2 q
theorem Oe:OpR X (binaryOp .RShift) (rI (fun _ j=>0<=j) fun i j=>.int (i/2^j.toNat)):=opI fun i j _ _ _ _ _ hc q=>
 rshift_int hc (by rw[Int.fdiv_eq_ediv_of_nonneg i (Z0 _)];exact q)
theorem Ia:OpR X (binaryOp .BitAnd) (rI0 fun i j=>.int (Builtin.bitAnd i j)):=ni fun _ _ _ _ _ _ _ q=>and_int q
theorem Y5:OpR X (binaryOp .BitOr) (rI0 fun i j=>.int (Builtin.bitOr i j)):=ni fun _ _ _ _ _ _ _ q=>or_int q
theorem nR:OpR X (binaryOp .BitXor) (rI0 fun i j=>.int (Builtin.bitXor i j)):=ni fun _ _ _ _ _ _ _ q=>xor_int q
theorem unI{f:Value->Sem Value}{g:Int->Int}
 (rule:∀(i:Int) (t:Tok) (s:Shared) (Q:Value->Shared->Prop) (E:Value->Shared->Prop),Q (.int (g i) s.toks) { s with toks:=s.toks+1 }->wpAny (model X.prog X.w) X.A (f (.int i t)) Q E s):
 UnR X f (rU fun i=>.int (g i)):=by
 intro pins s Z H x v Q I rx h;obtain⟨i,rfl,q⟩:=h;obtain⟨t,rfl⟩:=rx;exact rule i t s _ _ ⟨.int (g i),H,I.tok _,⟨_,rfl⟩,q⟩
theorem Ed:UnR X (unaryOp .USub) (rU fun i=>.int (-i)):=unI fun _ _ _ _ _ q=>neg_int q
end
noncomputable def tG:V->V->Bool
 | .non,.non=>true | .non,.int _=>true | .int _,.non=>true | .non,.bl _=>true | .bl _,.non=>true | .non,.str _=>true | .str _,.non=>true
 | .int _,.int _=>true | .bl _,.bl _=>true | .str _,.str _=>true | .byt _,.byt _=>true
 | .int _,.str _=>true | .str _,.int _=>true | .bl _,.str _=>true | .str _,.bl _=>true
 | _,_=>false
noncomputable def rEq:R2:=fun x y H Q=>tG x y=true/\Q (.bl (decide (x=y))) H
noncomputable def rNe:R2:=fun x y H Q=>tG x y=true/\Q (.bl (!decide (x=y))) H
theorem fV{i j:Int}:decide (V.int i=V.int j)=(i==j):=by
 rw[ku];simp
theorem pO{i j:Bool}:decide (V.bl i=V.bl j)=(i==j):=by
 rw[ku];simp
theorem fU{i j:Str}:decide (V.str i=V.str j)=(i==j):=by
 rw[ku];simp
theorem fW{i j:Array UInt8}:decide (V.byt i=V.byt j)=(i.toList==j.toList):=by
 rw[ku];cases i;cases j;simp
section
variable{X:Cx}{a b c:Expr}{ta tb tc:TE}{pos:Pos}
theorem Ca{s:Shared}{Q:VK}{k k':Bool}(I:Inv X pins Z H s)(q:Q (.bl k) H)(e:k=k'):EP X pins Z Q (.bool k') s:=by
 subst e;exact⟨.bl k,H,I,rfl,q⟩
theorem Bk:OpR X (compareOp .Eq) rEq:=by
 intro pins s Z H x y v u Q I rx ry h;obtain⟨hs,q⟩:=h;cases x with
 | non=>
  cases rx;cases y with
  | non=>cases ry;exact PySem.EqNone.eq_none_none (Ca I q (by simp))
  | bl j=>cases ry;exact PySem.EqNone.eq_none_bool (Ca I q (by simp))
  | int j=>obtain⟨t',rfl⟩:=ry;exact PySem.EqNone.eq_none_int (Ca I q (by simp))
  | str j=>obtain⟨t',rfl⟩:=ry;exact PySem.EqNone.eq_none_str (Ca I q (by simp))
  | _=>exact absurd (show false=true from hs) zi
 | bl i=>
  cases rx;cases y with
  | non=>cases ry;exact PySem.EqNone.eq_bool_none (Ca I q (by simp))
  | bl j=>cases ry;exact eq_bool (Ca I q pO)
  | str j=>obtain⟨t',rfl⟩:=ry;exact PySem.EqMixed.eq_bool_str (Ca I q (by simp))
  | _=>exact absurd (show false=true from hs) zi
 | int i=>
  obtain⟨t,rfl⟩:=rx;cases y with
  | non=>cases ry;exact PySem.EqNone.eq_int_none (Ca I q (by simp))
  | int j=>obtain⟨t',rfl⟩:=ry;exact eq_int (Ca I q fV)
  | str j=>obtain⟨t',rfl⟩:=ry;exact PySem.EqMixed.eq_int_str (Ca I q (by simp))
  | _=>exact absurd (show false=true from hs) zi
 | str i=>
  obtain⟨t,rfl⟩:=rx;cases y with
  | non=>cases ry;exact PySem.EqNone.eq_str_none (Ca I q (by simp))
  | bl j=>cases ry;exact PySem.EqMixed.eq_str_bool (Ca I q (by simp))
  | int j=>obtain⟨t',rfl⟩:=ry;exact PySem.EqMixed.eq_str_int (Ca I q (by simp))
  | str j=>obtain⟨t',rfl⟩:=ry;exact eq_str (Ca I q fU)
  | _=>exact absurd (show false=true from hs) zi
 | byt i=>
  obtain⟨t,rfl⟩:=rx;cases y with
  | byt j=>obtain⟨t',rfl⟩:=ry;exact PySem.W.eq_bytes (Ca I q fW)
  | _=>exact absurd (show false=true from hs) zi
 | _=>cases y<;>exact absurd (show false=true from hs) zi
theorem Gp:OpR X (compareOp .NotEq) rNe:=by
 intro pins s Z H x y v u Q I rx ry h;obtain⟨hs,q⟩:=h;cases x with
 | non=>
  cases rx;cases y with
  | non=>cases ry;exact PySem.EqNone.ne_none_none (Ca I q (by simp))
  | bl j=>cases ry;exact PySem.EqNone.ne_none_bool (Ca I q (by simp))
  | int j=>obtain⟨t',rfl⟩:=ry;exact PySem.EqNone.ne_none_int (Ca I q (by simp))
  | str j=>obtain⟨t',rfl⟩:=ry;exact PySem.EqNone.ne_none_str (Ca I q (by simp))
  | _=>exact absurd (show false=true from hs) zi
 | bl i=>
  cases rx;cases y with
  | non=>cases ry;exact PySem.EqNone.ne_bool_none (Ca I q (by simp))
  | bl j=>cases ry;exact ne_bool (Ca I q (yk not pO))
  | str j=>obtain⟨t',rfl⟩:=ry;exact PySem.EqMixed.ne_bool_str (Ca I q (by simp))
  | _=>exact absurd (show false=true from hs) zi
 | int i=>
  obtain⟨t,rfl⟩:=rx;cases y with
  | non=>cases ry;exact PySem.EqNone.ne_int_none (Ca I q (by simp))
  | int j=>obtain⟨t',rfl⟩:=ry;exact ne_int (Ca I q (yk not fV))
  | str j=>obtain⟨t',rfl⟩:=ry;exact PySem.EqMixed.ne_int_str (Ca I q (by simp))
  | _=>exact absurd (show false=true from hs) zi
 | str i=>
  obtain⟨t,rfl⟩:=rx;cases y with
  | non=>cases ry;exact PySem.EqNone.ne_str_none (Ca I q (by simp))
  | bl j=>cases ry;exact PySem.EqMixed.ne_str_bool (Ca I q (by simp))
  | int j=>obtain⟨t',rfl⟩:=ry;exact PySem.EqMixed.ne_str_int (Ca I q (by simp))
  | str j=>obtain⟨t',rfl⟩:=ry;exact ne_str (Ca I q (yk not fU))
  | _=>exact absurd (show false=true from hs) zi
 | byt i=>
  obtain⟨t,rfl⟩:=rx;cases y with
  | byt j=>obtain⟨t',rfl⟩:=ry;exact PySem.W.ne_bytes (Ca I q (yk not fW))
  | _=>exact absurd (show false=true from hs) zi
 | _=>cases y<;>exact absurd (show false=true from hs) zi
theorem Eu:OpR X (compareOp .Lt) (rI0 fun i j=>.bl (decide (i<j))):=uO fun _ _ _ _ _ _ _ q=>lt_int q
theorem Mh:OpR X (compareOp .LtE) (rI0 fun i j=>.bl (decide (i<=j))):=uO fun _ _ _ _ _ _ _ q=>le_int q
theorem FW:OpR X (compareOp .Gt) (rI0 fun i j=>.bl (decide (j<i))):=uO fun _ _ _ _ _ _ _ q=>gt_int q
theorem nU:OpR X (compareOp .GtE) (rI0 fun i j=>.bl (decide (j<=i))):=uO fun _ _ _ _ _ _ _ q=>ge_int q
theorem VV:OpR X (compareOp .In) (fun x y H Q=>∃i j,x=.str i/\y=.str j/\Q (.bl (!(Builtin.Str.occurrences j i 0 j.length 1).isEmpty)) H):=by
 intro pins s Z H x y v u Q I rx ry h;obtain⟨i,j,rfl,rfl,q⟩:=h;obtain⟨t,rfl⟩:=rx;obtain⟨t',rfl⟩:=ry;exact in_str (Ca I q rfl)
theorem Hk:OpR X (compareOp .Is) (fun x y H Q=>y=.non/\Q (.bl (decide (x=.non))) H):=by
 intro pins s Z H x y v u Q I rx ry h;obtain⟨rfl,q⟩:=h;cases ry;refine is_none_gen (Ca I q ?_);cases x<;>first
  | (cases rx;rfl)
  | (obtain ⟨t,rfl⟩:=rx;rfl)
theorem eF:OpR X (compareOp .IsNot) (fun x y H Q=>y=.non/\Q (.bl (!decide (x=.non))) H):=by
 intro pins s Z H x y v u Q I rx ry h;obtain⟨rfl,q⟩:=h;cases ry;refine isnot_none_gen (Ca I q ?_);cases x<;>first
  | (cases rx;rfl)
  | (obtain ⟨t,rfl⟩:=rx;rfl)
theorem An(b:Expr){op:CmpOp}(h:op≠.In:=by decide)(h2:op≠.NotIn:=by decide):behindInMarks op b=false:=by
 have e1:(op==CmpOp.In)=false:=by cases op<;>first | rfl | exact absurd rfl h
 have e2:(op==CmpOp.NotIn)=false:=by cases op<;>first | rfl | exact absurd rfl h2
 cases b<;>simp[behindInMarks,e1,e2]
theorem DP{op:CmpOp}{r:R2}(ho:OpR X (compareOp op) r)(ha:PE X a ta)(hb:PE X b tb)(hm:behindInMarks op b=false):PE X (.Compare a [op] [b] pos) (tOp r ta tb):=by
 intro pins s Z H Q I h;exact wpAny_Compare1 (AAi ha hb I h fun v u s2 x y H2 I2 rx ry q=>ho pins s2 Z H2 x y v u Q I2 rx ry q) hm
noncomputable def wI(t:TE):TT:=fun Z H Q=>t Z H fun x H'=>∃k,x=.bl k/\Q k H'
theorem Ak{op:CmpOp}{r:R2}(ho:OpR X (compareOp op) r)(ha:PE X a ta)(hb:PE X b tb)(hm:behindInMarks op b=false):PT X (.Compare a [op] [b] pos) (wI (tOp r ta tb)):=by
 intro pins s Z H Q I h;refine wpAny_isTrue_Compare1 (thn (ha s Z H _ I h) fun v s1 ⟨x,H1,I1,r1,q1⟩=>thn (hb s1 Z H1 _ I1 q1) fun u s2 ⟨y,H2,I2,r2,q2⟩=>
  thn (ho pins s2 Z H2 x y v u _ I2 r1 r2 q2) fun c s3 ⟨z,H3,I3,r3,k,e,q3⟩=>?_) hm
 subst e;cases r3;exact jb4 ⟨H3,I3,q3⟩
noncomputable def lD(r r':R2)(ta tb tc:TE):TE:=fun Z H Q=>ta Z H fun x H1=>tb Z H1 fun y H2=>r x y H2 fun z H3=>∃k,z=.bl k/\
 (if k=true then tc Z H3 fun w' H4=>r' y w' H4 Q else Q (.bl false) H3)
theorem MN{op op':CmpOp}{r r':R2}(ho:OpR X (compareOp op) r)(ho':OpR X (compareOp op') r')(ha:PE X a ta)(hb:PE X b tb)(hc:PE X c tc)
 (hm:lastMarks [op,op'] [b,c]=false:=by with_unfolding_all rfl):PE X (.Compare a [op,op'] [b,c] pos) (lD r r' ta tb tc):=by
 intro pins s Z H Q I h;refine Compare_chain (thn (ha s Z H _ I h) fun v s1 ⟨x,H1,I1,r1,q1⟩=>chain_link (thn (hb s1 Z H1 _ I1 q1) fun u s2 ⟨y,H2,I2,r2,q2⟩=>
  thn (ho pins s2 Z H2 x y v u _ I2 r1 r2 q2) fun d s3 ⟨z,H3,I3,r3,k,e,q3⟩=>?_)) hm
 subst e;cases r3;refine jb4 ?_;cases k with
 | false=>exact ite_ff ⟨.bl false,H3,I3,rfl,q3⟩
 | true=>exact ite_tt (chain_last (thn (hc s3 Z H3 _ I3 q3) fun w' s4 ⟨z',H4,I4,r4,q4⟩=>ho' pins s4 Z H4 y z' u w' Q I4 r2 r4 q4))
noncomputable def ADj(K:Fr)(x:V)(H:Hp)(k:Bool):Prop:=
 match x with
 | .non=>k=false
 | .bl b=>k=b
 | .int i=>k=(i != 0)
 | .str y=>y.length<=sizeLine/\k=((y.length:Int) != 0)
 | .byt y=>y.size<=sizeLine/\k=((y.size:Int) != 0)
 | .ref p=>(∃xs,SqL K H p xs/\k=!xs.isEmpty)\/(∃xs,SqT K H p xs/\k=!xs.isEmpty)\/∃kvs,H p=some (.dK kvs)/\k=!kvs.isEmpty
 | _=>False
theorem bU{κ:Type}{kvs:List (κ×V)}{vs:List (κ×Value)}(r:KV kvs vs):(!vs.isEmpty)=!kvs.isEmpty:=by
 cases r<;>rfl
theorem SN{xs:List V}{its:List Value}(r:Vals xs its):(!its.toArray.isEmpty)=!xs.isEmpty:=by
 cases r<;>simp
theorem LC:(sizeLine:Nat)<2^63:=by rw[sizeLine_eq];decide
theorem xf:ADk X (fun x H Q=>∃k,ADj X.K x H k/\Q k H):=by
 intro pins s Z H x v Q I rx h;obtain⟨k,e,q⟩:=h;have hl:=LC;have hs:sizeLine=16777216:=sizeLine_eq;cases x with
 | non=>
  cases rx;have e':k=false:=e;subst e';exact truthy_none ⟨H,I,q⟩
 | bl b=>
  cases rx;have e':k=b:=e;subst e';exact jb4 ⟨H,I,q⟩
 | int i=>
  obtain⟨t,rfl⟩:=rx;have e':k=(i != 0):=e;subst e';exact PySem.P.truthy_int ⟨H,I,q⟩
 | str y=>
  obtain⟨t,rfl⟩:=rx;obtain⟨hy,e'⟩:y.length<=sizeLine/\k=((y.length:Int) != 0):=e;subst e';exact PySem.P.truthy_str (by lia) ⟨H,I.tok _,q⟩
 | byt y=>
  obtain⟨t,rfl⟩:=rx;obtain⟨hy,e'⟩:y.size<=sizeLine/\k=((y.size:Int) != 0):=e;subst e';exact PySem.W.truthy_bytes (by lia) ⟨H,I.tok _,q⟩
 | ref p=>
  cases rx;have e':(∃xs,SqL X.K H p xs/\k=!xs.isEmpty)\/(∃xs,SqT X.K H p xs/\k=!xs.isEmpty)\/∃kvs,H p=some (.dK kvs)/\k=!kvs.isEmpty:=e;rcases e' with ⟨xs,hx,e'⟩ | ⟨xs,hx,e'⟩ | ⟨kvs,hx,e'⟩
  ·subst e';obtain⟨its,r,pl,hz⟩:=I.list hx;have hlen:=r.length;exact wpAny_truthy_list pl.isList (by simp only[xb];lia) ⟨H,I.tok _,by rw[SN r];exact q⟩
  ·subst e';obtain⟨its,r,pl,hz⟩:=I.tuple hx;have hlen:=r.length;exact truthy_tuple pl (by simp only[xb];lia) ⟨H,I.tok _,by rw[SN r];exact q⟩
  ·subst e';obtain⟨hz,hS,vs,r,m⟩:kvs.length<=sizeLine/\(p==sysModules)=false/\∃vs,KV kvs vs/\s.heap.DictOf (En X.prog X.w) p vs:=I.hok p _ hx;have hlen:kvs.length=vs.length:=Paired.length r;exact wpAny_truthy_dict hS m (by lia) ⟨H,I.tok _,by rw[bU r];exact q⟩
 | _=>exact(show False from e).elim
theorem Ao:OpR X (binaryOp .Add) (fun x y H Q=>∃i j,x=.str i/\y=.str j/\i.length+j.length<=sizeLine/\Q (.str (i++j)) H):=by
 intro pins s Z H x y v u Q I rx ry h;obtain⟨i,j,rfl,rfl,hz,q⟩:=h;obtain⟨t,rfl⟩:=rx;obtain⟨t',rfl⟩:=ry;exact add_str (fun t' tk=>⟨.str (i++j),H,I.tok _,⟨_,rfl⟩,q⟩) hz
theorem vals1{x:V}(r:Vals [x] us):∃u,us=[u]/\RelV x u:=by
 cases r with
 | cons r1 r2=>cases r2;exact⟨_,rfl,r1⟩
theorem vals2{x y:V}(r:Vals [x,y] us):∃u w',us=[u,w']/\RelV x u/\RelV y w':=by
 cases r with
 | cons r1 r2=>
  cases r2 with
  | cons r3 r4=>cases r4;exact⟨_,_,rfl,r1,r3⟩
theorem J6:Hq X (.builtin "abs") (fun xs H Q=>∃i,xs=[.int i]/\Q (.int (if i<0 then -i else i)) H):=by
 intro pins s Z H xs us Q I r h;obtain⟨i,rfl,q⟩:=h;obtain⟨u,rfl,t,rfl⟩:=vals1 r;exact call_abs_int fun u tk=>⟨.int (if i<0 then -i else i),H,I.tok _,⟨_,rfl⟩,q⟩
theorem BJ:Hq X (.type "str") (fun xs H Q=>∃i,xs=[.int i]/\i.natAbs.log2<1920/\Q (.str (toString i)) H):=by
 intro pins s Z H xs us Q I r h;obtain⟨i,rfl,hz,q⟩:=h;obtain⟨u,rfl,t,rfl⟩:=vals1 r;exact PySem.P.str_of_int hz ⟨.str _,H,I.tok _,⟨_,rfl⟩,q⟩
end
structure cN(h:Heap)(x dx C:Addr)(mA:Str->Option Value):Prop where
 obj:h.get? x=some (PySem.W.instObj C dx)
 ns:h.Ns1 dx mA
 ne:dx≠x
theorem jB{h:Heap}{dx:Addr}{mA:Str->Option Value}(n:h.Ns1 dx mA):∃od,h.get? dx=some od/\∀name,PySem.W.lookIn name od=some (mA name):=by
 obtain⟨o,es,ep,ho,hd,hk,_,hm⟩:=n;refine⟨o,ho,fun name=>?_⟩;have e:=hm name;unfold nsFind findBy at e;rw[<-Array.find?_toList] at e;unfold PySem.W.lookIn;rw[hd];dsimp only;split
 ·rename_i y q
  rw[q] at e;exact yk some e
 ·rename_i q
  rw[q] at e;have a:es.toList.any (·.refKey)=false:=by
   rw[List.any_eq_false];intro y hy;obtain⟨z,t,hkey⟩:=hk y (Array.mem_toList_iff.mp hy);simp[DictEntry.refKey,hkey]
  have a':¬es.toList.any (·.refKey)=true:=by rw[a];exact zi
  rw[xk a'];exact yk some e
theorem cN.look{h:Heap}{x dx C:Addr}{mA:Str->Option Value}(I:cN h x dx C mA):∃od,PySem.W.InstAt h x (PySem.W.instObj C dx) C (some od)/\∀name,PySem.W.lookIn name od=some (mA name):=
 let ⟨od,ho,hl⟩:=jB I.ns
 ⟨od,⟨I.obj,rfl,rfl,ho⟩,hl⟩
section
variable{prog:Program}{w:World}{A:Around}{E:Value->Shared->Prop}{s:Shared}{K:Fr}{x dx C f:Addr}{mA:Str->Option Value}{name:Str}{v:Value}
theorem uw{expr:Bool}{Q:Value->Shared->Prop}(X:K.In s.heap)(I:cN s.heap x dx C mA)(hg:PySem.W.plainGet K C name=true)(hh:PySem.W.hasDictIn K C=true)
 (ha:PySem.W.findIn K (.ref C) name=some none)(hv:mA name=some v)(hv':PySem.W.handedIn v=true)(h:Q v { s with toks:=s.toks+1 }):
 wpAny (model prog w) A (getAttr (.ref x) name expr) Q E s:=by
 obtain⟨od,J,hl⟩:=I.look;exact PySem.W.get_value X J (jp4 hg).1 (PySem.W.findObj_own hh ha rfl (by rw[hl,hv])) hv' h
theorem o9{pl:Sem Bool}{Q:Value×List Value->Shared->Prop}(X:K.In s.heap)(I:cN s.heap x dx C mA)(hg:PySem.W.plainGet K C name=true)
 (hf:PySem.W.findIn K (.ref C) name=some (some (.ref f)))(ht:PySem.W.isFn K (.ref f)=true)(hv:mA name=none)(h:Q (.ref f,[.ref x]) s):
 wpAny (model prog w) A (getMethod (.ref x) name pl) Q E s:=by
 obtain⟨od,J,hl⟩:=I.look;exact PySem.W.method_fn X J (jp4 hg).1 (jp4 hg).2 hf (jb3.mp ht) (by show(PySem.W.lookIn name od).map (·.isSome)=some false;rw[hl,hv];rfl) h
theorem tE{ns:List Str}{Q:Unit->Shared->Prop}(X:K.In s.heap)(I:cN s.heap x dx C mA)
 (hs:PySem.W.findIn K (.ref C) "__setattr__"=some (some (.builtin "object.__setattr__")))(hp:PySem.W.plainOver K C=true)(ht:PySem.W.takerIn K C name=some none)(hh:PySem.W.hasDictIn K C=true)
 (hw:PySem.Within mA ns)(hsz:ns.length<=sizeLine)
 (h:∀h',cN h' x dx C (fun y=>if y=name then some v else mA y)->Heap.SameBut dx s.heap h'->Q () { s with heap:=h',toks:=s.toks+2 }):
 wpAny (model prog w) A (setAttr (.ref x) name v) Q E s:=by
 obtain⟨od,J,hl⟩:=I.look;refine PySem.W.set_plain X J hs (PySem.W.osa_open (s:={ s with toks:=s.toks+1 }) (r:=none) X J hp ht fun b=>?_);obtain⟨cd,hc,hd'⟩:=PySem.W.any_some hh;have hx:s.heap.get? x=some ⟨.ref C,some dx,.plain,#[]⟩:=I.obj;refine qf (xy (qf (qf (wpAny_loadPart hx (qf (PySem.W.Looks.here (s:={ s with toks:=s.toks+1 }) (PySem.W.looks_clsIn X hc) ?_))))));rw[hd'];refine xy (a:=some dx) (qf (xy (qf ?_)));refine wpAny_nsSet1 (s:={ s with toks:=s.toks+1 }) I.ns fun h' hn2 hs2=>?_;obtain⟨oD,esD,epD,hoD,hdD,hcD⟩:=hn2.count (PySem.Within.cons name v hw);refine qf (wpAny_lookBehind hoD (by rw[hdD];exact pastItsLine_dict (zv hcD (by rw[qo];lia))) ?_);exact xy (h _ ⟨(hs2.2 _ (Ne.symm I.ne)).trans I.obj,hn2,I.ne⟩ hs2)
theorem oF{R:Result->Shared->Prop}{vs:List Value}{kw:List (Str×Value)}(X:K.In s.heap)(hm:PySem.W.makesIn K C=true)
 (hi:PySem.W.findIn K (.ref C) "__init__"=some (some (.ref f)))(hf:PySem.W.typeIn K (.ref f)=some (.type "function"))
 (h:codeAny (model prog w) (A.under (.builtin "type.__call__" ⟨.ref C::vs,kw⟩)) (.call (.ref f) ⟨.ref (s.heap.objs.size+1)::vs,kw⟩) (PySem.W.InitBack (s.heap.objs.size+1) R)
  { s with heap:=(s.heap.push PySem.W.emptyDict).push (PySem.W.instObj C s.heap.objs.size) }):
 codeAny (model prog w) A (.call (.ref C) ⟨vs,kw⟩) R s:=by
 obtain⟨hh,g,d,t,os⟩:=s;exact PySem.W.make_core (PySem.W.makes_of X hm) (PySem.W.looks_findIn X hi) (fun self=>PySem.W.bind_fn X self hf) (.inl rfl) h
end
noncomputable def DN(f:Str)(v:V):List (Str×V)->List (Str×V)
 | []=>[(f,v)]
 | (g,x)::r=>if g=f then (g,v)::r else (g,x)::DN f v r
theorem O8(f g:Str)(v:V):∀fs:List (Str×V),(DN f v fs).lookup g=if g=f then some v else fs.lookup g
 | []=>by
  show List.lookup g [(f,v)]=_;by_cases h:g=f
  ·have hb:(g==f)=true:=jb3.mpr h;simp only[List.lookup,hb,xh h]
  ·have hb:(g==f)=false:=beq_eq_false_iff_ne.mpr h;simp only[List.lookup,hb,xk h]
 | (k,x)::r=>by
  have ih:=O8 f g v r;rw[show DN f v ((k,x)::r)=(if k=f then (k,v)::r else (k,x)::DN f v r) from rfl];by_cases hk:k=f
  ·rw[xh hk];by_cases h:g=k
   ·have hb:(g==k)=true:=jb3.mpr h;simp only[List.lookup,hb,xh (h.trans hk)]
   ·have hb:(g==k)=false:=beq_eq_false_iff_ne.mpr h;simp only[List.lookup,hb,xk (fun e:g=f=>h (e.trans hk.symm))]
  ·rw[xk hk];by_cases h:g=k
   ·have hb:(g==k)=true:=jb3.mpr h;simp only[List.lookup,hb,xk (fun e:g=f=>hk (h.symm.trans e))]
   ·have hb:(g==k)=false:=beq_eq_false_iff_ne.mpr h;simp only[List.lookup,hb];exact ih
theorem Ol(f:Str)(v:V):∀fs:List (Str×V),f∈(DN f v fs).map (·.1)/\∀g,g∈fs.map (·.1)->g∈(DN f v fs).map (·.1)
 | []=>⟨by simp[DN],fun g h=>by simp at h⟩
 | (k,x)::r=>by
  obtain⟨i1,i2⟩:=Ol f v r;rw[show DN f v ((k,x)::r)=(if k=f then (k,v)::r else (k,x)::DN f v r) from rfl];by_cases hk:k=f
  ·rw[xh hk];subst hk;exact⟨by simp,fun g h=>by simpa using h⟩
  ·rw[xk hk];refine⟨?_,fun g h=>?_⟩
   ·rw[zn];exact qh _ i1
   ·rw[zn] at h ⊢;rcases qq.mp h with e | e
    ·exact qq.mpr (.inl e)
    ·exact qh _ (i2 g e)
theorem PB(f:Str)(v:V):∀fs:List (Str×V),(DN f v fs).length<=fs.length+1
 | []=>by simp[DN]
 | (k,x)::r=>by
  have ih:=PB f v r;rw[show DN f v ((k,x)::r)=(if k=f then (k,v)::r else (k,x)::DN f v r) from rfl];by_cases hk:k=f
  ·rw[xh hk,qo,qo];lia
  ·rw[xk hk,qo,qo];lia
theorem Jb.some_of{v:V}{o:Option Value}(r:Jb (some v) o):∃u,o=some u/\RelV v u:=by
 cases o with
 | none=>exact(show False from r).elim
 | some u=>exact⟨u,rfl,r⟩
theorem Jb.none_of{o:Option Value}(r:Jb none o):o=none:=by
 cases o with
 | none=>rfl
 | some u=>exact(show False from r).elim
theorem jL{v:V}(r:RelV v u):PySem.W.handedIn u=true:=by
 cases v with
 | non=>cases (show u=Value.none from r);rfl
 | bl b=>cases (show u=Value.bool b from r);rfl
 | int i=>obtain⟨t,e⟩:=(show ∃t,u=Value.int i t from r);cases e;rfl
 | str x=>obtain⟨t,e⟩:=(show ∃t,u=Value.str x t from r);cases e;rfl
 | byt b=>obtain⟨t,e⟩:=(show ∃t,u=Value.bytes b t from r);cases e;rfl
 | flt b=>obtain⟨t,e⟩:=(show ∃t,u=Value.float b t from r);cases e;rfl
 | ref a=>cases (show u=Value.ref a from r);rfl
 | ty n=>cases (show u=Value.type n from r);rfl
section
variable{P:Program}{w:World}{H H':Hp}{h h':Heap}{a C dx:Addr}{fs fs':List (Str×V)}
theorem Qz(hok:HOk P w H h)(e:H a=some (.ins C dx fs)):∃mA,cN h a dx C mA/\(∀f,Jb (fs.lookup f) (mA f))/\PySem.Within mA (fs.map (·.1))/\fs.length<=1000/\H dx=some (.own a):=by
 obtain⟨d,z,ne,ob,mA,n,r,q⟩:=(show Ej P w H h a (.ins C dx fs) from hok a _ e);exact⟨mA,⟨ob,n,ne⟩,r,q,z,d⟩
end
structure Cls(K:Fr)(C:Addr):Prop where
 pg:PySem.W.plainGet K C Str.empty=true
 hd:PySem.W.hasDictIn K C=true
 po:PySem.W.plainOver K C=true
 sa:PySem.W.findIn K (.ref C) "__setattr__"=some (some (.builtin "object.__setattr__"))
theorem Cls.get{C:Addr}(c:Cls K C)(f:Str):PySem.W.plainGet K C f=true:=c.pg
noncomputable def DG(K:Fr)(C:Addr)(f:Str):Prop:=PySem.W.findIn K (.ref C) f=some none
theorem DG.taker{C:Addr}{f:Str}(n:DG K C f):PySem.W.takerIn K C f=some none:=by
 unfold PySem.W.takerIn;rw[show PySem.W.findIn K (.ref C) f=some none from n];rfl
structure Meth(K:Fr)(C:Addr)(m:Str)(f:Addr):Prop where
 at_:PySem.W.findIn K (.ref C) m=some (some (.ref f))
 fn:PySem.W.isFn K (.ref f)=true
 kp:PySem.W.keepIn K (.ref f)=true
section
variable{X:Cx}{pins:List (Addr×Obj)}{Z:St}{H:Hp}{s:Shared}{a C dx:Addr}{fs:List (Str×V)}{f:Str}{v:V}{A:Around}{E:Value->Shared->Prop}
theorem bW{b:Bool}{Q:Value->Shared->Prop}(I:Inv X pins Z H s)(e:H a=some (.ins C dx fs))(c:Cls X.K C)(n:DG X.K C f)(l:fs.lookup f=some v)
 (h:∀u s',Inv X pins Z H s'->RelV v u->Q u s'):wpAny (model X.prog X.w) A (getAttr (.ref a) f b) Q E s:=by
 obtain⟨mA,O,r,_,_,_⟩:=Qz I.hok e;obtain⟨u,hu,ru⟩:=Jb.some_of (v:=v) (o:=mA f) (by rw[<-l];exact r f);exact uw I.kIn O (c.get f) c.hd n hu (jL ru) (h u _ (I.tok _) ru)
theorem JP{m:Str}{g:Addr}{pl:Sem Bool}{Q:Value×List Value->Shared->Prop}(I:Inv X pins Z H s)(e:H a=some (.ins C dx fs))(c:Cls X.K C)(k:Meth X.K C m g)(l:fs.lookup m=none)
 (h:Q (.ref g,[.ref a]) s):wpAny (model X.prog X.w) A (getMethod (.ref a) m pl) Q E s:=by
 obtain⟨mA,O,r,_,_,_⟩:=Qz I.hok e;have hn:mA m=none:=Jb.none_of (by rw[<-l];exact r m);exact o9 I.kIn O (c.get m) k.at_ k.fn hn h
theorem aD{y:V}{Q:Unit->Shared->Prop}(I:Inv X pins Z H s)(e:H a=some (.ins C dx fs))(c:Cls X.K C)(n:DG X.K C f)(hl:fs.length<1000)(ry:RelV y u)
 (h:∀s',Inv X pins Z (upd H a (.ins C dx (DN f y fs))) s'->Q () s'):wpAny (model X.prog X.w) A (setAttr (.ref a) f u) Q E s:=by
 obtain⟨mA,O,r,wi,_,ho⟩:=Qz I.hok e;have hz:(fs.map (·.1)).length<=sizeLine:=by rw[js,sizeLine_eq];lia
 refine tE I.kIn O c.sa c.po n.taker c.hd wi hz fun h' O' sb=>h _ ?_;have hd:∃o,h'.get? dx=some o:=let ⟨o,_,_,e',_⟩:=O'.ns;⟨o,e'⟩;refine I.write (x:=a) (e:=dx) (by rw[e];exact True.intro) (.inr ho) (fun b q hb z=>(sb.2 b hb).trans z) hd ?_;refine⟨by rw[Ax O.ne];exact ho,?_,O.ne,O'.obj,_,O'.ns,fun g=>?_,fun g hg=>?_⟩
 ·have:=PB f y fs;lia
 ·show Jb ((DN f y fs).lookup g) (if g=f then some u else mA g);rw[O8];by_cases q:g=f
  ·rw[xh q,xh q];exact ry
  ·rw[xk q,xk q];exact r g
 ·by_cases q:g=f
  ·rw[q];exact(Ol f y fs).1
  ·refine(Ol f y fs).2 g (wi g fun z=>hg ?_);show(if g=f then some u else mA g)=none;rw[xk q];exact z
theorem Inv.made(I:Inv X pins Z H s):Inv X pins Z (upd (upd H s.heap.objs.size (.own (s.heap.objs.size+1))) (s.heap.objs.size+1) (.ins C s.heap.objs.size []))
 { s with heap:=(s.heap.push PySem.W.emptyDict).push (PySem.W.instObj C s.heap.objs.size) }:=by
 have e1:(s.heap.push PySem.W.emptyDict).get? s.heap.objs.size=some PySem.W.emptyDict:=zw s.heap rfl;have e2:((s.heap.push PySem.W.emptyDict).push (PySem.W.instObj C s.heap.objs.size)).get? (s.heap.objs.size+1)=some (PySem.W.instObj C s.heap.objs.size):=by
  have:=zw (s.heap.push PySem.W.emptyDict) (o:=PySem.W.instObj C s.heap.objs.size) rfl
  rwa [ji0] at this
 have e3:(s.heap.push PySem.W.emptyDict).Ns s.heap.objs.size (fun _=>none):=⟨PySem.W.emptyDict,#[],_,e1,rfl,(fun e he=>absurd he (by simp)),fun _=>rfl⟩;have I1:=I.laid (a:=s.heap.objs.size) (o:=.own (s.heap.objs.size+1)) (h':=s.heap.push PySem.W.emptyDict) (t':=s.toks) (fun b u q=>jv _ q) (ze _) ⟨_,e1⟩;refine I1.laid (a:=s.heap.objs.size+1) (o:=.ins C s.heap.objs.size []) (t':=s.toks) (fun b u q=>jv _ q) (jp5 (ji0 _ _)) ?_;have ne:s.heap.objs.size≠s.heap.objs.size+1:=vi (jo1 _);refine⟨by rw[Ax ne,Ai],ve _,ne,e2,fun _=>none,(Heap.Ns1.of_empty e3).at fun o q=>jv _ q,fun _=>True.intro,fun y hy=>absurd rfl hy⟩
theorem vW{prog:Program}{w:World}{env:Env}{e:Expr}{f:Str}{s:Shared}{Q:Value->Shared->Prop}(hb:attributeBase e f env (eval e env)=eval e env)
 (h:wpAny (model prog w) A (eval e env) (fun o s₁=>wpAny (model prog w) A (getAttr o f true) Q E s₁) E s):wpAny (model prog w) A (eval (.Attribute e f pos) env) Q E s:=
 Attribute_any_ h (by rw[arm_eval_Attribute,hb])
end
noncomputable def xq(K:Fr)(ta:TE)(f:Str):TE:=fun Z H Q=>ta Z H fun x H1=>∃a C dx fs v,x=.ref a/\H1 a=some (.ins C dx fs)/\Cls K C/\DG K C f/\fs.lookup f=some v/\Q v H1
noncomputable def ABm(K:Fr)(ta tv:TE)(f:Str):TS:=fun D Z H=>tv Z H fun y H1=>ta Z H1 fun x H2=>∃a C dx fs,x=.ref a/\H2 a=some (.ins C dx fs)/\Cls K C/\DG K C f/\fs.length<1000/\
 D.nx Z (upd H2 a (.ins C dx (DN f y fs)))
section
variable{X:Cx}{o e value:Expr}{f:Str}{pos pos' tpos:Pos}{ta tv:TE}
theorem Bl(he:PE X e ta)(hb:attributeBase e f X.env (eval e X.env)=eval e X.env):PE X (.Attribute e f pos) (xq X.K ta f):=by
 intro pins s Z H Q I h;refine vW hb (thn (he s Z H _ I h) fun u s1 hZ=>?_);obtain⟨x,H1,I1,rx,a,C,dx,fs,v,ex,ea,c,n,l,q⟩:=hZ;subst ex;obtain rfl:u=Value.ref a:=rx;exact bW I1 ea c n l fun u' s2 I2 ru=>⟨v,H1,I2,ru,q⟩
theorem Ex(ha:PE X o ta)(hv:PE X value tv)(hs:swapsWith value (some (.Attribute o f pos')) pos.line X.env=pure false):PS X (.Assign [.Attribute o f pos'] value pos) (ABm X.K ta tv f):=by
 intro pins s Z H D I h;refine plainObj_wpAny_Assign_Attribute (thn (hv s Z H _ I h) fun u s1 ⟨y,H1,I1,ry,q⟩=>thn (ha s1 Z H1 _ I1 q) fun ov s2 hZ=>?_) hs;obtain⟨x,H2,I2,rx,a,C,dx,fs,ex,ea,c,n,l,q2⟩:=hZ;subst ex;obtain rfl:ov=Value.ref a:=rx;exact aD I2 ea c n l ry fun s3 I3=>⟨Z,_,I3,q2⟩
end
section
variable{X:Cx}{pins:List (Addr×Obj)}{Z:St}{H:Hp}{s:Shared}{A:Around}{E:Value->Shared->Prop}{Q:Value->Shared->Prop}{c:Value}{b:Bool}
inductive NT(K:Fr)(H:Hp):V->Value->Prop where
 | non:NT K H .non (.type "NoneType")
 | bl (x:Bool):NT K H (.bl x) (.type "bool")
 | int (i:Int):NT K H (.int i) (.type "int")
 | str (x:Str):NT K H (.str x) (.type "str")
 | flt (x:UInt64):NT K H (.flt x) (.type "float")
 | lst {a:Addr} {xs:List V} (e:H a=some (.lst xs)):NT K H (.ref a) (.type "list")
 | frz {a:Addr} {o:Obj} {xs:List V} (e:H a=some (.frz o (.lst xs))):NT K H (.ref a) (.type "list")
 | tup {a:Addr} {xs:List V} (e:H a=some (.tup xs)):NT K H (.ref a) (.type "tuple")
 | dK {a:Addr} {kvs:List (Key×V)} (e:H a=some (.dK kvs)):NT K H (.ref a) (.type "dict")
 | dT {a:Addr} {kvs:List (List Key×V)} (e:H a=some (.dT kvs)):NT K H (.ref a) (.type "dict")
 | ins {a C dx:Addr} {fs:List (Str×V)} (e:H a=some (.ins C dx fs)) (cl:Cls K C) (ha:PySem.W.findIn K (.ref C) "__class__"=some (some (.builtin "object.__class__")))
  (hn:PySem.W.specialIn K (.builtin "object.__class__") "__get__"=some (some (.builtin "getset_descriptor.__get__"))) (htk:PySem.W.takesIn K (.builtin "object.__class__")=some true)
  (hm:PySem.W.mroIn K C (.type "object")=some true):NT K H (.ref a) (.ref C)
theorem jG{x:V}{t:Value}(I:Inv X pins Z H s)(rx:RelV x u)(ty:NT X.K H x t)(e:PySem.W.kitOne X.K t c=some b)(h:∀tk,Q (.bool b) { s with toks:=tk }):
 wpAny (model X.prog X.w) A (call (.builtin "isinstance") [u,c]) Q E s:=by
 cases ty with
 | non=>cases (show u=Value.none from rx);exact ja8 PySem.W.kitx_none I.kIn True.intro e (fun z=>nomatch z) h
 | bl y=>cases (show u=Value.bool y from rx);exact ja8 PySem.W.kitx_bool I.kIn True.intro e (fun z=>nomatch z) h
 | int i=>obtain⟨t,q⟩:=(show ∃t,u=Value.int i t from rx);cases q;exact ja8 PySem.W.kitx_int I.kIn True.intro e (fun z=>nomatch z) h
 | str y=>obtain⟨t,q⟩:=(show ∃t,u=Value.str y t from rx);cases q;exact ja8 PySem.W.kitx_str I.kIn True.intro e (fun z=>nomatch z) h
 | flt y=>obtain⟨t,q⟩:=(show ∃t,u=Value.float y t from rx);cases q;exact ja8 PySem.W.kitx_float I.kIn True.intro e (fun z=>nomatch z) h
 | @lst a xs ea=>
  cases (show u=Value.ref a from rx);obtain⟨_,_,n,_,h1⟩:=(show Ej X.prog X.w H s.heap a (.lst xs) from I.hok a _ ea);exact ja8 PySem.W.kitx_list I.kIn ⟨_,h1,rfl⟩ e (fun z=>nomatch z) h
 | @frz a ob xs ea=>
  cases (show u=Value.ref a from rx);obtain⟨_,_,_,n,_,h1⟩:=(show Ej X.prog X.w H s.heap a (.frz ob (.lst xs)) from I.hok a _ ea);exact ja8 PySem.W.kitx_list I.kIn ⟨_,h1,rfl⟩ e (fun z=>nomatch z) h
 | @tup a xs ea=>
  cases (show u=Value.ref a from rx);obtain⟨_,_,_,p⟩:=(show Ej X.prog X.w H s.heap a (.tup xs) from I.hok a _ ea);obtain⟨o,h1,h2,_⟩:=p;exact ja8 PySem.W.kitx_tuple I.kIn ⟨o,h1,h2⟩ e (fun z=>nomatch z) h
 | @dK a kvs ea=>
  cases (show u=Value.ref a from rx);obtain⟨_,_,vs,_,p⟩:=(show Ej X.prog X.w H s.heap a (.dK kvs) from I.hok a _ ea);obtain⟨o,es,ep,h1,h2,_⟩:=p;exact ja8 PySem.W.kitx_dict I.kIn ⟨o,h1,h2.1⟩ e (fun z=>nomatch z) h
 | @dT a kvs ea=>
  cases (show u=Value.ref a from rx);obtain⟨_,_,xs,_,o,es,ep,h1,h2,_⟩:=(show Ej X.prog X.w H s.heap a (.dT kvs) from I.hok a _ ea);exact ja8 PySem.W.kitx_dict I.kIn ⟨o,h1,h2.1⟩ e (fun z=>nomatch z) h
 | @ins a C dx fs ea cl ha hn htk hm=>
  cases (show u=Value.ref a from rx);obtain⟨mA,O,_⟩:=Qz I.hok ea;obtain⟨od,J,_⟩:=O.look;exact ja8 (PySem.W.kitx_own (cl.get _) cl.hd ha hn htk hm) I.kIn J e (fun z=>nomatch z) h
end
structure Ec(k:Nat)(A:Around):Prop where
 hd:A.handled=none
 dp:A.depth+3*k+5<recursionLimit
 un:A.units+16*k+200<cLine
 gd:A.guards=some []
theorem Ec.mono{j k:Nat}(r:Ec k A)(h:j<=k):Ec j A:=⟨r.hd,by have:=r.dp;lia,by have:=r.un;lia,r.gd⟩
theorem Ec.deeper{k:Nat}(r:Ec (k+1) A)(env:Env):Ec k (A.deeper env):=
 ⟨r.hd,by have:=r.dp;show A.depth+1+3*k+5<_;lia,by have:=r.un;show A.units+3+16*k+200<_;lia,r.gd⟩
theorem bN{C:Addr}{kw:List (Str×Value)}:(A.under (.builtin "type.__call__" ⟨.ref C::us,kw⟩)).depth=A.depth+1:=by
 first | rfl | simp[Around.under,Code.weight,Code.isCreation,Code.isGuard,Code.isCaller,Code.frames,Code.isFrame,guardIds]
theorem bL{C:Addr}{kw:List (Str×Value)}:(A.under (.builtin "type.__call__" ⟨.ref C::us,kw⟩)).units=A.units+1:=by
 first | rfl | simp[Around.under,Code.cUnits,Code.frames,Code.isFrame]
theorem Y9{C:Addr}{kw:List (Str×Value)}(h:A.guards=some []):(A.under (.builtin "type.__call__" ⟨.ref C::us,kw⟩)).guards=some []:=by
 have e:(Code.builtin "type.__call__" ⟨.ref C::us,kw⟩).guards=[]:=by
  unfold Code.guards;rw[xk (by show ¬guardIds.contains "type.__call__"=true;decide)]
 have e2:(A.under (.builtin "type.__call__" ⟨.ref C::us,kw⟩)).guards=pushGuards (Code.builtin "type.__call__" ⟨.ref C::us,kw⟩).guards A.guards:=rfl;rw[e2,e,h];rfl
theorem Ec.make{k:Nat}(r:Ec (k+1) A)(C:Addr)(us:List Value)(kw:List (Str×Value)):Ec k (A.under (.builtin "type.__call__" ⟨.ref C::us,kw⟩)):=
 ⟨r.hd,by have:=r.dp;rw[bN];lia,by have:=r.un;rw[bL];lia,Y9 r.gd⟩
theorem Ec.depth{k:Nat}(r:Ec k A):A.depth<recursionLimit:=by have:=r.dp;lia
theorem Ec.units{k:Nat}(r:Ec k A):A.units+64<cLine:=by have:=r.un;lia
noncomputable def YG:TA:=fun _ H Q=>Q [] H
noncomputable def wO(ta:TE)(tr:TA):TA:=fun Z H Q=>ta Z H fun x H1=>tr Z H1 fun xs H2=>Q (x::xs) H2
section
variable{X:Cx}{e:Expr}{es:List Expr}{te:TE}{t:TA}{pos:Pos}
theorem Ac:PA X [] YG:=fun _ _ _ _ H Q I h=>Calls.spliced_nil ⟨[],H,I,.nil,h⟩
theorem Aa(ha:PE X e te)(hr:PA X es t)(hs:starEach (e::es) X.env=(false,eval e X.env)::starEach es X.env:=by rfl):PA X (e::es) (wO te t):=by
 intro pos pins s Z H Q I h;rw[hs];show wpAny _ _ (spliced ((false,eval e X.env)::backTo pos (starEach es X.env))) _ _ s;refine Calls.spliced_cons (thn (ha s Z H _ I h) fun u s1 hZ=>?_);obtain⟨x,H1,I1,r1,q1⟩:=hZ;exact thn (hr (pos:=pos) pins s1 Z H1 _ I1 q1) fun us s2 ⟨xs,H2,I2,r2,q2⟩=>⟨x::xs,H2,I2,.cons r1 r2,q2⟩
noncomputable def ABG(t:TA):TE:=fun Z H Q=>t Z H fun xs H1=>xs.length<=sizeLine/\∀p,H1 p=none->Q (.ref p) (upd H1 p (.tup xs))
noncomputable def rH(t:TA):TE:=fun Z H Q=>t Z H fun xs H1=>xs.length<=sizeLine/\∀p,H1 p=none->Q (.ref p) (upd H1 p (.lst xs))
theorem BK{x1}(h:PA X es t):PE X (.Tuple es x1 pos) (ABG t):=by
 intro pins s Z H Q I hq;refine wpAny_Tuple_spliced (thn (h (pos:=pos) pins s Z H _ I hq) fun us s1 ⟨xs,H1,I1,r,z,q⟩=>⟨by rw[<-r.length];exact z,?_⟩);have hf:H1 s1.heap.objs.size=none:=I1.hok.fresh (ze _);refine⟨.ref s1.heap.objs.size,upd H1 s1.heap.objs.size (.tup xs),I1.laid (t':=s1.toks) (fun b u e=>jv _ e) (ze _) ?_,rfl,q _ hf⟩;exact⟨z,us,r,⟨_,zw _ rfl,rfl,_,rfl⟩⟩
theorem Ef(h:PA X es t):PE X (.List es pos) (rH t):=by
 intro pins s Z H Q I hq;refine wpAny_List_spliced (thn (h (pos:=pos) pins s Z H _ I hq) fun us s1 ⟨xs,H1,I1,r,z,q⟩=>⟨by rw[<-r.length];exact z,?_⟩);have hf:H1 s1.heap.objs.size=none:=I1.hok.fresh (ze _);refine⟨.ref s1.heap.objs.size,upd H1 s1.heap.objs.size (.lst xs),I1.laid (t':=s1.toks) (fun b u e=>jv _ e) (ze _) ?_,rfl,q _ hf⟩;exact⟨z,us,0,r,zw _ rfl⟩
end
noncomputable abbrev Sp:=List V->Hp->VK->XK->Prop
noncomputable abbrev CXT:=List Env->Hp->Shared->XK->Value->Shared->Prop
structure cP(P:Program)(w:World)(K:Fr)(mg:Str->Option Value)(base:Heap)(A:Around)(outer:List Env)(s:Shared)(H:Hp):Prop where
 frames:A.frames=some outer
 mod:Mod K mg base
 bs:∀b o,base.get? b=some o->s.heap.get? b=some o/\H b=none
 bsz:base.objs.size<=s.heap.objs.size
 funs:s.heap.FunFrames base outer
 frf:∀b∈frs outer,H b=none
 hok:HOk P w H s.heap
 bare:AllBare s.gens
noncomputable def CE(outer:List Env)(P:Program)(w:World)(H:Hp)(s:Shared)(Q:VK)(u:Value)(s':Shared):Prop:=
 ∃v H',s'.os=s.os/\AllBare s'.gens/\Un (frs outer) [] H H' s.heap s'.heap/\HOk P w H' s'.heap/\RelV v u/\Q v H'
noncomputable def CR(CX:CXT)(outer:List Env)(P:Program)(w:World)(H:Hp)(s:Shared)(Q:VK)(E:XK)(r:Result)(s':Shared):Prop:=
 match r with
 | .ok (.ret u)=>CE outer P w H s Q u s'
 | .ok _=>False
 | .error e=>CX outer H s E e s'
structure Es(P:Program)(w:World)(K:Fr)(mg:Str->Option Value)(base:Heap)(CX:CXT)(k:Nat)(f:Addr)(fd:FuncData)(ps:List Str)(sp:Sp):Prop where
 len:∀vs H Q E,sp vs H Q E->vs.length=ps.length
 run:∀(A:Around) (outer:List Env) (s:Shared) (H:Hp) (args:Args) (us:List Value) (vs:List V) (Q:VK) (E:XK),Ec k A->cP P w K mg base A outer s H->BindsTo s fd args (ps.zip us)->Vals vs us->sp vs H Q E->
  codeAny (model P w) A (.call (.ref f) args) (CR CX outer P w H s Q E) s
theorem cP.make{P:Program}{w:World}{mg:Str->Option Value}{base:Heap}{outer:List Env}{s:Shared}(e:cP P w K mg base A outer s H)(C:Addr)(us:List Value)(kw:List (Str×Value)):
 cP P w K mg base (A.under (.builtin "type.__call__" ⟨.ref C::us,kw⟩)) outer s H:=⟨by first | exact e.frames | (simpa [Around.under,Code.envs,Code.isFrame,pushEnvs] using e.frames),e.mod,e.bs,e.bsz,e.funs,e.frf,e.hok,e.bare⟩
section
variable{X:Cx}{pins:List (Addr×Obj)}{Z:St}{H:Hp}{s s':Shared}
theorem Inv.env0(I:Inv X pins Z H s):cP X.prog X.w X.K X.mg X.base X.A X.stack s H:=
 ⟨I.ok.frames,I.ok.mod,I.bs,zv I.ok.bsz I.sz,I.stack,I.stkFree,I.hok,I.bare⟩
theorem Inv.after{Q:VK}(I:Inv X pins Z H s)(h:CE X.stack X.prog X.w H s Q u s'):EP X pins Z Q u s':=by
 obtain⟨v,H',os,bare,un,hok,r,q⟩:=h;obtain⟨hh,g,d,t,os'⟩:=s';obtain rfl:os'=s.os:=os;exact⟨v,H',I.call (h':=hh) (g':=g) (d':=d) (t':=t) (ch:=[]) un hok bare (fun b z=>absurd z (by simp)),r,q⟩
end
noncomputable def dF(sp:Sp)(dvs:List V)(E:XK)(t:TA):TE:=fun Z H Q=>t Z H fun vs H1=>sp (vs++dvs) H1 Q E
noncomputable def YH(C:Addr)(m:Str)(sp:Sp)(dvs:List V)(E:XK)(ta:TE)(t:TA):TE:=fun Z H Q=>ta Z H fun x H1=>∃a dx fs,x=.ref a/\H1 a=some (.ins C dx fs)/\fs.lookup m=none/\
 t Z H1 fun vs H2=>sp (x::(vs++dvs)) H2 Q E
noncomputable def VB(C:Addr)(sp:Sp)(dvs:List V)(E:XK)(t:TA):TE:=fun Z H Q=>t Z H fun vs H1=>∀x dx,H1 x=none->H1 dx=none->dx≠x->
 sp (.ref x::(vs++dvs)) (upd (upd H1 dx (.own x)) x (.ins C dx [])) (fun v H2=>v=.non/\Q (.ref x) H2) E
noncomputable def Binds(K:Fr)(fd:FuncData)(ps:List Str)(ds:List Value):Prop:=
 ∀(s:Shared) (us:List Value),K.In s.heap->(us++ds).length=ps.length->BindsTo s fd ⟨us,[]⟩ (ps.zip (us++ds))
theorem Binds.all{fd:FuncData}{ps:List Str}(h:∀us:List Value,us.length=ps.length->bindArgs fd ⟨us,[]⟩=pure (ps.zip us)):Binds K fd ps []:=fun s us _ hl=>by
 rw[xz] at hl ⊢;exact .of_eq (h us hl)
noncomputable def KY(CX:CXT)(X:Cx)(E:XK):Prop:=∀(pins:List (Addr×Obj)) (Z:St) (H:Hp) (s:Shared) (e:Value) (s':Shared),Inv X pins Z H s->CX X.stack H s E e s'->X.xe e s'
section
variable{X:Cx}{CX:CXT}{k:Nat}{f C:Addr}{fd:FuncData}{ps:List Str}{sp:Sp}{dvs:List V}{ds:List Value}{E:XK}{x m:Str}{p pos apos:Pos}{e o:Expr}{es:List Expr}{ta:TE}{t:TA}
theorem N5{s:Shared}{Q:VK}{vs:List V}(F:Es X.prog X.w X.K X.mg X.base CX k f fd ps sp)(hr:Ec k X.A)(hb:Binds X.K fd ps ds)(hd:Vals dvs ds)(hx:KY CX X E)
 (I:Inv X pins Z H s)(r:Vals vs us)(h:sp (vs++dvs) H Q E):wpAny (model X.prog X.w) X.A (call (.ref f) us) (EP X pins Z Q) X.xe s:=by
 have r2:Vals (vs++dvs) (us++ds):=r.append hd;have hl:(us++ds).length=ps.length:=by rw[<-r2.length];exact F.len _ _ _ _ h
 refine wpAny_call (jn8 (F.run X.A X.stack s H ⟨us,[]⟩ (us++ds) (vs++dvs) Q E hr I.env0 (hb s us I.kIn hl) r2 h) fun r s' hq=>?_);cases r with
 | error e=>exact hx pins Z H s e s' I hq
 | ok fl=>
  cases fl with
  | ret u=>exact I.after hq
  | next=>exact False.elim hq
  | brk=>exact False.elim hq
  | cont=>exact False.elim hq
theorem uJ(F:Es X.prog X.w X.K X.mg X.base CX k f fd ps sp)(hr:Ec k X.A)(hg:Gl X x)(hm:X.mg x=some (.ref f))(hk:PySem.W.keepIn X.K (.ref f)=true)(hb:Binds X.K fd ps ds)(hd:Vals dvs ds)(hx:KY CX X E)
 (ha:PA X (e::es) t)(hdb:(x==("__debug__":Str))=false:=by decide)(he:starEach (e::es) X.env=(false,eval e X.env)::starEach es X.env:=by rfl)(hpl:(backTo pos (starEach es X.env)).any (·.1)=false:=by rfl):
 PE X (.Call (.Name x p) (e::es) [] pos) (dF sp dvs E t):=by
 intro pins s Z H Q I h;refine jb8 (Mq I hg hm ?_ hdb);refine jd2 (h₀:=X.base) I.ok.mod.kin hk (thn (ha (pos:=pos) pins s Z H _ I h) fun us s1 ⟨vs,H1,I1,r,q⟩=>⟨I1.kIn,?_⟩) he hpl;exact N5 F hr hb hd hx I1 r q
theorem uI{pl:Sem Bool}(he:PE X o ta)(c:Cls X.K C)(hm:Meth X.K C m f)(F:Es X.prog X.w X.K X.mg X.base CX k f fd ps sp)(hr:Ec k X.A)(hb:Binds X.K fd ps ds)(hd:Vals dvs ds)(hx:KY CX X E)(ha:PA X (e::es) t)
 (hst:starEach (e::es) X.env=(false,eval e X.env)::starEach es X.env:=by rfl)(hpl:(backTo pos (starEach es X.env)).any (·.1)=false:=by rfl)
 (ht:eval (.Call (.Attribute o m apos) (e::es) [] pos) X.env=(do
  let ov <-eval o X.env
  standAt apos.atName
  let (f,first) <-holding [ov] (getMethod ov m pl)
  callWith pos f first (backTo pos (starEach (e::es) X.env)) (backToKw pos (keywordEach [] X.env))):=by rfl):
 PE X (.Call (.Attribute o m apos) (e::es) [] pos) (YH C m sp dvs E ta t):=by
 intro pins s Z H Q I h;refine jf2 (pl:=pl) (thn (he s Z H _ I h) fun u s1 hZ=>?_) ht;obtain⟨x,H1,I1,rx,a,dx,fs,ex,ea,l,q⟩:=hZ;subst ex;obtain rfl:u=Value.ref a:=rx;refine JP I1 ea c hm l ?_;refine jd2 (first:=[.ref a]) (h₀:=X.base) I.ok.mod.kin hm.kp (thn (ha (pos:=pos) pins s1 Z H1 _ I1 q) fun us s2 ⟨vs,H2,I2,r,q2⟩=>⟨I2.kIn,?_⟩) hst hpl
 exact N5 (us:=.ref a::us) (vs:=.ref a::vs) F hr hb hd hx I2 (.cons rfl r) q2
theorem nF{pl:Sem Bool}(he:PE X o ta)(c:Cls X.K C)(hm:Meth X.K C m f)(F:Es X.prog X.w X.K X.mg X.base CX k f fd ps sp)(hr:Ec k X.A)(hb:Binds X.K fd ps ds)(hd:Vals dvs ds)(hx:KY CX X E)
 (ht:eval (.Call (.Attribute o m apos) [] [] pos) X.env=(do
  let ov <-eval o X.env
  standAt apos.atName
  let (f,first) <-holding [ov] (getMethod ov m pl)
  callWith pos f first (backTo pos (starEach [] X.env)) (backToKw pos (keywordEach [] X.env))):=by rfl):
 PE X (.Call (.Attribute o m apos) [] [] pos) (YH C m sp dvs E ta YG):=by
 intro pins s Z H Q I h;refine jf2 (pl:=pl) (thn (he s Z H _ I h) fun u s1 hZ=>?_) ht;obtain⟨x,H1,I1,rx,a,dx,fs,ex,ea,l,q⟩:=hZ;subst ex;obtain rfl:u=Value.ref a:=rx;refine JP I1 ea c hm l ?_;exact jp3 (first:=[.ref a]) I1.kIn hm.kp (N5 (us:=[.ref a]) (vs:=[.ref a]) F hr hb hd hx I1 (.cons rfl .nil) q)
structure Mk(K:Fr)(C f:Addr):Prop where
 makes:PySem.W.makesIn K C=true
 init:PySem.W.findIn K (.ref C) "__init__"=some (some (.ref f))
 fn:PySem.W.isFn K (.ref f)=true
 kp:PySem.W.keepIn K (.ref C)=true
theorem Ys{s:Shared}{Q:VK}{vs:List V}(M:Mk X.K C f)(F:Es X.prog X.w X.K X.mg X.base CX k f fd ps sp)(hr:Ec (k+1) X.A)(hb:Binds X.K fd ps ds)(hd:Vals dvs ds)
 (hx:KY CX X E)(I:Inv X pins Z H s)(r:Vals vs us)
 (h:∀x dx,H x=none->H dx=none->dx≠x->sp (.ref x::(vs++dvs)) (upd (upd H dx (.own x)) x (.ins C dx [])) (fun v H2=>v=.non/\Q (.ref x) H2) E):
 wpAny (model X.prog X.w) X.A (call (.ref C) us) (EP X pins Z Q) X.xe s:=by
 have hq:=h (s.heap.objs.size+1) s.heap.objs.size (I.hok.fresh (Nat.le_succ _)) (I.hok.fresh (ze _)) (vi (jo1 _));have I2:=Inv.made (C:=C) I;have r2:Vals (V.ref (s.heap.objs.size+1)::(vs++dvs)) (Value.ref (s.heap.objs.size+1)::(us++ds)):=.cons rfl (r.append hd);have hl:(Value.ref (s.heap.objs.size+1)::us++ds).length=ps.length:=by
  have e:=r2.length;rw[F.len _ _ _ _ hq] at e;exact e.symm
 refine wpAny_call (oF (f:=f) I.kIn M.makes M.init (jb3.mp M.fn) (jn8 (F.run _ X.stack _ _ ⟨Value.ref (s.heap.objs.size+1)::us,[]⟩ (Value.ref (s.heap.objs.size+1)::(us++ds)) _ _ E (hr.make C us [])
  (I2.env0.make C us []) (hb _ (Value.ref (s.heap.objs.size+1)::us) I2.kIn hl) r2 hq) fun r s' hq'=>?_))
 cases r with
 | error e=>exact hx pins Z _ _ e s' I2 hq'
 | ok fl=>
  cases fl with
  | ret u=>
   obtain⟨v,H',I3,rv,ev,q3⟩:=I2.after hq';subst ev;exact⟨rv,⟨V.ref (s.heap.objs.size+1),H',I3,rfl,q3⟩⟩
  | next=>exact False.elim hq'
  | brk=>exact False.elim hq'
  | cont=>exact False.elim hq'
theorem dw(M:Mk X.K C f)(F:Es X.prog X.w X.K X.mg X.base CX k f fd ps sp)(hr:Ec (k+1) X.A)(hg:Gl X x)(hm:X.mg x=some (.ref C))(hb:Binds X.K fd ps ds)(hd:Vals dvs ds)(hx:KY CX X E)
 (ha:PA X (e::es) t)(hdb:(x==("__debug__":Str))=false:=by decide)(he:starEach (e::es) X.env=(false,eval e X.env)::starEach es X.env:=by rfl)(hpl:(backTo pos (starEach es X.env)).any (·.1)=false:=by rfl):
 PE X (.Call (.Name x p) (e::es) [] pos) (VB C sp dvs E t):=by
 intro pins s Z H Q I h;refine jb8 (Mq I hg hm ?_ hdb);refine jd2 (h₀:=X.base) I.ok.mod.kin M.kp (thn (ha (pos:=pos) pins s Z H _ I h) fun us s1 ⟨vs,H1,I1,r,q⟩=>⟨I1.kIn,?_⟩) he hpl;exact Ys M F hr hb hd hx I1 r q
theorem nG(M:Mk X.K C f)(F:Es X.prog X.w X.K X.mg X.base CX k f fd ps sp)(hr:Ec (k+1) X.A)(hg:Gl X x)(hm:X.mg x=some (.ref C))(hb:Binds X.K fd ps ds)(hd:Vals dvs ds)(hx:KY CX X E)
 (hdb:(x==("__debug__":Str))=false:=by decide):PE X (.Call (.Name x p) [] [] pos) (VB C sp dvs E YG):=by
 intro pins s Z H Q I h;refine jb8 (Mq I hg hm ?_ hdb);exact jp3 I.kIn M.kp (Ys (us:=[]) M F hr hb hd hx I .nil h)
end
noncomputable def PK(X:Cx)(kws:List Keyword)(t:TA):Prop:=
 ∀(pos:Pos) (pins:List (Addr×Obj)) (s:Shared) (Z:St) (H:Hp) (Q:List V->Hp->Prop),Inv X pins Z H s->t Z H Q->wpAny (model X.prog X.w) X.A (evalAll ((backToKw pos (keywordEach kws X.env)).map (·.2))) (AP X pins Z Q) X.xe s
section
variable{X:Cx}{CX:CXT}{k:Nat}{f C:Addr}{fd:FuncData}{ps ks:List Str}{sp:Sp}{E:XK}{x m:Str}{p pos apos kpos:Pos}{e o:Expr}{es:List Expr}{kws:List Keyword}{te ta:TE}{t tk:TA}{nm:Option Str}
variable{g:List Value->List Value->List Value}{gV:List V->List V->List V}
end
structure Cu(N P:List Str)(sc:Scope):Prop where
 kind:sc.kind=.function
 co:sc.isCoroutine=false
 gen:sc.isGenerator=false
 nd:N.Nodup
 pre:N.take P.length=P
 par:∀x∈P,sc.names.lookup x=some .local\/sc.names.lookup x=some .cell
 nofree:∀y∈sc.names,y.2≠.free
theorem V5{kindOf:Str->Option NameKind}:∀{binds:List (Str×Value)} {m:Str->Option Value},(∀v,(x,v)∉binds)->bindL kindOf binds m x=m x
 | [],_,_=>rfl
 | (n,v)::r,m,h=>by
  unfold bindL;rw[V5 fun w hw=>h w (qh _ hw)];split
  ·have:x≠n:=by rintro rfl;exact h v qc
   simp[this]
  ·rfl
theorem V7{kindOf:Str->Option NameKind}:∀{binds:List (Str×Value)} {m:Str->Option Value},(∀v,(x,v)∉binds)->bindC kindOf binds m x=m x
 | [],_,_=>rfl
 | (n,v)::r,m,h=>by
  unfold bindC;rw[V7 fun w hw=>h w (qh _ hw)];split
  ·rfl
  ·have:x≠n:=by rintro rfl;exact h v qc
   simp[this]
theorem V6{kindOf:Str->Option NameKind}{v:Value}:∀{P:List Str} {vs:List Value} {i:Nat} {m:Str->Option Value},P.Nodup->P[i]?=some x->vs[i]?=some v->kindOf x=some .local->
 bindL kindOf (P.zip vs) m x=some v
 | [],_,_,_,_,h,_,_=>by simp at h
 | _::_,[],_,_,_,_,h,_=>by simp at h
 | p::P,w::vs,0,m,nd,h1,h2,hk=>by
  simp at h1 h2;subst h1;subst h2;show bindL kindOf ((p,w)::P.zip vs) m p=_;unfold bindL;rw[V5 fun v hv=>(jo7.mp nd).1 (List.of_mem_zip hv).1,xh hk];simp
 | p::P,w::vs,i+1,m,nd,h1,h2,hk=>by
  show bindL kindOf ((p,w)::P.zip vs) m x=_;unfold bindL;exact V6 (i:=i) (jo7.mp nd).2 (by simpa using h1) (by simpa using h2) hk
theorem V8{kindOf:Str->Option NameKind}{v:Value}:∀{P:List Str} {vs:List Value} {i:Nat} {m:Str->Option Value},P.Nodup->P[i]?=some x->vs[i]?=some v->kindOf x≠some .local->
 bindC kindOf (P.zip vs) m x=some v
 | [],_,_,_,_,h,_,_=>by simp at h
 | _::_,[],_,_,_,_,h,_=>by simp at h
 | p::P,w::vs,0,m,nd,h1,h2,hk=>by
  simp at h1 h2;subst h1;subst h2;show bindC kindOf ((p,w)::P.zip vs) m p=_;unfold bindC;rw[V7 fun v hv=>(jo7.mp nd).1 (List.of_mem_zip hv).1,xk hk];simp
 | p::P,w::vs,i+1,m,nd,h1,h2,hk=>by
  show bindC kindOf ((p,w)::P.zip vs) m x=_;unfold bindC;exact V8 (i:=i) (jo7.mp nd).2 (by simpa using h1) (by simpa using h2) hk
noncomputable def start(N:List Str)(vs:List V):St:=vs.map some++List.replicate (N.length-vs.length) none
noncomputable def Ux(CX:CXT)(P:Program)(w:World)(K:Fr)(mg:Str->Option Value)(base:Heap)(N:List Str)(qual:Str)(scope:Scope)(f:Addr)(cd:Value)(A:Around)(outer:List Env)(s:Shared)(H:Hp)(E:XK):Cx where
 prog:=P
 w:=w
 K:=K
 mg:=mg
 base:=base
 A:=A.deeper (envOfC qual scope s.heap.objs.size f cd)
 N:=N
 s₀:=s
 H₀:=H
 env:=envOfC qual scope s.heap.objs.size f cd
 outer:=outer
 stack:=envOfC qual scope s.heap.objs.size f cd::outer
 ex:=[]
 calm:=true
 fn:=fun _=>true
 pn:=[]
 xe:=fun e s'=>wpAny (model P w) (A.deeper (envOfC qual scope s.heap.objs.size f cd)) («leaving» (envOfC qual scope s.heap.objs.size f cd) e) (fun _ s''=>CX outer H s E e s'') (fun e' s''=>CX outer H s E e' s'') s'
theorem ZZ{sc:Scope}{n:Nat}(h:sc.names.lookup x=some .cell):∃c,(cellsFrom n sc.names []).lookup x=some c:=by
 have q:=PySem.W.cellsFrom_some sc.names n [] (.inl h);exact jg4.mp q
theorem jH{CX:CXT}{P:Program}{w:World}{mg:Str->Option Value}{base:Heap}{N ps:List Str}{qual:Str}{scope:Scope}{f:Addr}{cd:Value}{outer:List Env}{s s1:Shared}{E:XK}{vs:List V}
 (S:Cu N ps scope)(hd:A.handled=none)(e0:cP P w K mg base A outer s H)(hl:vs.length=ps.length)(r:Vals vs us)
 (x:InCallC s s.heap.objs.size (bindL (envOfC qual scope s.heap.objs.size f cd).kindOf (ps.zip us) fun _=>none) (cellsFrom (s.heap.objs.size+1) scope.names []) (bindC (envOfC qual scope s.heap.objs.size f cd).kindOf (ps.zip us) fun _=>none) s1):
 Inv (Ux CX P w K mg base N qual scope f cd A outer s H E) [] (start N vs) H s1:=by
 have hpl:ps.length<=N.length:=by have:=yk List.length S.pre;rw[jc0] at this;lia
 obtain⟨h1,tk,rfl,hk⟩:=x.done;have noA:∀b:Addr,b∉(Ux CX P w K mg base N qual scope f cd A outer s H E).ex:=fun b z=>absurd (show b∈([]:List Addr) from z) (by simp);refine⟨⟨e0.mod,S.kind,rfl,rfl,ze _,fun y z c h1 h2=>?_,fun y hy=>?_,fun y c _ h=>?_,fun _=>hd,Around.frames_deeper e0.frames,.inr ⟨rfl,rfl⟩,fun b z=>absurd z (noA b),e0.bs,e0.bsz,fun b _ _=>noA b,fun b z=>absurd z (noA b),e0.funs,e0.frf⟩,
  rfl,e0.bare,Un.kept hk,⟨_,x.toInCall.ns,fun i y v h1 h2 h3=>?_⟩,fun y c h=>⟨_,x.cell y c h⟩,e0.hok.fresh (ze _),fun y c h=>?_,fun p hp=>absurd (show p∈([]:List (Addr×Obj)) from hp) (by simp),e0.hok.kept hk,?_⟩
 ·exact name_of_addr x.apart (jh4 h1) (jh4 h2)
 ·have hy:scope.names.lookup y=some .cell\/scope.names.lookup y=some .free:=hy;rcases hy with hy | hy
  ·exact ZZ hy
  ·exact absurd rfl (S.nofree _ (jh4 hy))
 ·exact Nat.le_of_lt (x.above y c (jh4 h))
 ·have hi:i<vs.length:=by
   unfold start at h2;by_cases hi:i<vs.length
   ·exact hi
   ·rw[je3 (by simpa using hi)] at h2;rw[List.getElem?_replicate] at h2;split at h2<;>cases h2
  have ha:vs[i]?=some v:=by
   unfold start at h2;rw[jf6 (by simpa using hi),xo] at h2;cases e:vs[i]? with
   | none=>rw[e] at h2;cases h2
   | some a=>rw[e] at h2;cases h2;rfl
  obtain⟨u,hu,rv⟩:=r.get ha;have hp:ps[i]?=some y:=by
   rw[<-S.pre,jk5 (by lia)];exact h1
  have ndP:ps.Nodup:=by rw[<-S.pre];exact S.nd.sublist (List.take_sublist _ _)
  refine⟨u,rv,?_⟩;rcases S.par y (zh hp) with k | k
  ·exact .inl ⟨k,V6 ndP hp hu k⟩
  ·obtain⟨c,e⟩:=ZZ (n:=s.heap.objs.size+1) k;refine .inr ⟨.inl k,c,e,?_⟩;have q:=x.cell y c e;rw[V8 ndP hp hu (by show scope.names.lookup y≠_;rw[k];decide)] at q;exact q
 ·exact e0.hok.fresh (Nat.le_of_lt (x.above y c (jh4 h)))
 ·unfold start;show _=N.length;rw[zk,js,jb2];lia
theorem xK{CX:CXT}{P:Program}{w:World}{mg:Str->Option Value}{base:Heap}{k:Nat}{f:Addr}{name qual:Str}{params:Arguments}{body:List Stmt}{scope:Scope}{dV kV doc pm cdv ct oc:Value}{an od:Option Addr}
 {osl:Array (Option Value)}{N ps:List Str}{sp:Sp}(lk:K.lookup f=some ⟨oc,od,.func (PySem.W.fnOf name qual params body scope dV kV doc pm an cdv ct),osl⟩)(hcd:PySem.W.codeIn K cdv qual=true)(S:Cu N ps scope)
 (len:∀vs H Q E,sp vs H Q E->vs.length=ps.length)
 (hbody:∀(A:Around) (outer:List Env) (s:Shared) (H:Hp) (vs:List V) (Q:VK) (E:XK),Ec k (A.deeper (envOfC qual scope s.heap.objs.size f cdv))->sp vs H Q E->
  ∃t,PSs (Ux CX P w K mg base N qual scope f cdv A outer s H E) body t/\t { nx:=fun _ H'=>Q .non H',rt:=Q } (start N vs) H):
 Es P w K mg base CX (k+1) f (PySem.W.fnOf name qual params body scope dV kV doc pm an cdv ct) ps sp:=by
 refine⟨len,fun A outer s H args us vs Q E hr e0 hb r hsp=>?_⟩;have hl:=len _ _ _ _ hsp;have KX:K.In s.heap:=e0.mod.kin.keeps fun b o e=>(e0.bs b o e).1;have lim:s.heap.NoLimit:=e0.mod.nolimit.keeps fun b o e=>(e0.bs b o e).1;have hkind:∀y∈ps.zip us,scope.names.lookup y.1=some .local\/(scope.names.lookup y.1=some .cell/\((cellsFrom (s.heap.objs.size+1) scope.names []).lookup y.1).isSome=true):=fun⟨n,v⟩ hy=>by
  rcases S.par n (List.of_mem_zip hy).1 with q | q
  ·exact .inl q
  ·exact .inr ⟨q,PySem.W.cellsFrom_some _ _ _ (.inl q)⟩
 refine codeAny_call_function hr.depth (KX _ _ lk) rfl S.co S.gen rfl (PySem.W.codeRec_of KX hcd) (hb _ _ _ _ ?_);refine wpAny_newFunctionEnv_cells S.kind hkind fun env he s1 x=>?_;subst he;refine⟨lim.keeps x.toInCall.keep,codeAny_func ?_⟩;obtain⟨t,ht,hq⟩:=hbody A outer s H vs Q E (hr.deeper _) hsp;have I:Inv (Ux CX P w K mg base N qual scope f cdv A outer s H E) [] (start N vs) H s1:=jH S hr.hd e0 hl r x;refine ja5 (ht s1 (start N vs) H _ I hq) (fun fl s' hs=>?_) fun e s' hs=>hs;have fin:∀{Z':St} {H':Hp} {v:V} {u:Value},Inv (Ux CX P w K mg base N qual scope f cdv A outer s H E) [] Z' H' s'->RelV v u->Q v H'->CE outer P w H s Q u s':=
  fun{Z' H' v u} J rv q=>⟨v,H',J.os,J.bare,J.base,J.hok,rv,q⟩
 cases fl with
 | ret u=>
  obtain⟨v,Z',H',J,rv,q⟩:=hs;exact fin J rv q
 | next=>
  obtain⟨Z',H',J,q⟩:=hs;exact fin (v:=V.non) (u:=Value.none) J rfl q
 | brk=>
  obtain⟨_,_,_,q⟩:=hs;exact False.elim q
 | cont=>
  obtain⟨_,_,_,q⟩:=hs;exact False.elim q
section
variable{X:Cx}{x:Str}{p pos:Pos}{e:Expr}{es:List Expr}{t:TA}{id T:String}{r:List V->Hp->VK->Prop}
noncomputable def tCB(r:List V->Hp->VK->Prop)(t:TA):TE:=fun Z H Q=>t Z H fun vs H1=>r vs H1 Q
theorem BL(hc:Hq X (.builtin id) r)(hg:Gl X x)(hm:X.mg x=none)(hv:bootBuiltins x=some (.builtin id))(ha:PA X (e::es) t)(hn:x≠"__name__":=by decide)(hdb:(x==("__debug__":Str))=false:=by decide)
 (he:starEach (e::es) X.env=(false,eval e X.env)::starEach es X.env:=by rfl)(hpl:(backTo pos (starEach es X.env)).any (·.1)=false:=by rfl):PE X (.Call (.Name x p) (e::es) [] pos) (tCB r t):=by
 intro pins s Z H Q I h;refine jb8 (Hl I hg hm hv ?_ hn hdb);exact PyProof.Rows.callWith_builtin1 (thn (ha (pos:=pos) pins s Z H _ I h) fun us s1 ⟨vs,H1,I1,r1,q1⟩=>hc pins s1 Z H1 vs us Q I1 r1 q1) he hpl
theorem BW(hc:Hq X (.type T) r)(hg:Gl X x)(hm:X.mg x=none)(hv:bootBuiltins x=some (.type T))(ha:PA X (e::es) t)(hn:x≠"__name__":=by decide)(hdb:(x==("__debug__":Str))=false:=by decide)
 (he:starEach (e::es) X.env=(false,eval e X.env)::starEach es X.env:=by rfl)(hpl:(backTo pos (starEach es X.env)).any (·.1)=false:=by rfl):PE X (.Call (.Name x p) (e::es) [] pos) (tCB r t):=by
 intro pins s Z H Q I h;refine jb8 (Hl I hg hm hv ?_ hn hdb);exact vc (thn (ha (pos:=pos) pins s Z H _ I h) fun us s1 ⟨vs,H1,I1,r1,q1⟩=>hc pins s1 Z H1 vs us Q I1 r1 q1) he hpl
end
end L2
namespace HT
open PySem PyProof.Rows
section
open PySem.SeqAt
open PySem.AutoSeq1 (wpAny_loadPart')
open PySem.MeetsSeq PySem.MeetsSeq2 PySem.MeetsSeq3
end
section
variable{prog:Program}{w:World}{A:Around}{E:Value->Shared->Prop}{s:Shared}
noncomputable def sIx(n d:Nat):Option Int->Nat
 | none=>d
 | some v=>if v<0 then (v+(n:Int)).toNat else min v.toNat n
theorem sIx_none(n d:Nat):sIx n d none=d:=rfl
theorem sIx_nat(n d k:Nat):sIx n d (some (k:Int))=min k n:=by
 show(if (k:Int)<0 then ((k:Int)+(n:Int)).toNat else min (k:Int).toNat n)=min k n;rw[xk (by lia),xp]
end
end HT
namespace L2
open PySem PySem.Spec PyProof.Rows
noncomputable abbrev TO:=St->Hp->(Option Int->Hp->Prop)->Prop
noncomputable def PO(X:Cx)(e:Option Expr)(t:TO):Prop:=
 ∀ ⦃pins:List (Addr×Obj)⦄ (s:Shared) (Z:St) (H:Hp) (Q:Option Int->Hp->Prop),Inv X pins Z H s->t Z H Q->
  wpAny (model X.prog X.w) X.A (evalPart e X.env) (fun u s'=>∃o H',Inv X pins Z H' s'/\IsPart u o/\Q o H') X.xe s
noncomputable def dB:TO:=fun _ H Q=>Q none H
noncomputable def wJ(t:TE):TO:=fun Z H Q=>t Z H fun x H1=>∃i,x=.int i/\Q (some i) H1
theorem intsAre_of{ns:List Int}:∀{us:List Value},Vals (ns.map V.int) us->IntsAre us ns:=by
 induction ns with
 | nil=>intro us r;rw[jk6] at r;cases r;exact .nil
 | cons n ns ih=>
  intro us r;rw[zn] at r;cases r with
  | cons r1 r2=>
   obtain⟨t,e⟩:=r1;subst e;exact .cons n t (ih r2)
section
variable{X:Cx}{e:Expr}{te:TE}{lo hi:Option Expr}{tl th:TO}{pos p2:Pos}
theorem El:PO X none dB:=by
 intro pins s Z H Q I h;rw[evalPart_none];exact xy ⟨none,H,I,.none,h⟩
theorem Cr(h:PE X e te):PO X (some e) (wJ te):=by
 intro pins s Z H Q I hw;rw[evalPart_some];refine thn (h s Z H _ I hw) fun u s1 hZ=>?_;obtain⟨x,H1,I1,r1,q1⟩:=hZ;obtain⟨i,rfl,q⟩:=q1;obtain⟨t,rfl⟩:=r1;exact⟨some i,H1,I1,.int i t,q⟩
noncomputable def SlR(X:Cx)(r:V->Option Int->Option Int->Hp->VK->Prop):Prop:=
 ∀(pins:List (Addr×Obj)) (s:Shared) (Z:St) (H:Hp) (x:V) (v vl vu:Value) (lo hi:Option Int) (sl:Addr) (Q:VK),Inv X pins Z H s->RelV x v->s.heap.IsSliceOf sl vl vu .none->IsPart vl lo->IsPart vu hi->r x lo hi H Q->
  ∃T id,typeLookup (.type T) "__getitem__"=pure (some (.builtin id))/\s.TypeIs v T/\wpAny (model X.prog X.w) X.A (getItem v (.ref sl)) (EP X pins Z Q) X.xe s
noncomputable def tSl(r:V->Option Int->Option Int->Hp->VK->Prop)(te:TE)(tl th:TO):TE:=fun Z H Q=>te Z H fun x H1=>tl Z H1 fun l H2=>th Z H2 fun u H3=>r x l u H3 Q
theorem Ck{r:V->Option Int->Option Int->Hp->VK->Prop}(hr:SlR X r)(he:PE X e te)(hl:PO X lo tl)(hu:PO X hi th):PE X (.Subscript e (.Slice lo hi none p2) pos) (tSl r te tl th):=by
 intro pins s Z H Q I h;refine Subscript_ (thn (he s Z H _ I h) fun v s1 hZ=>?_);obtain⟨x,H1,I1,r1,q1⟩:=hZ;refine wpAny_Slice (thn (hl s1 Z H1 _ I1 q1) fun vl s2 ⟨l,H2,I2,pl,q2⟩=>thn (hu s2 Z H2 _ I2 q2) fun vu s3 hZ=>?_);obtain⟨u,H3,I3,pu,q3⟩:=hZ;rw[evalPart_none];refine xy ?_;have I4:Inv X pins Z H3 { s3 with heap:=s3.heap.push { cls:=.type "slice",data:=.fields #[vl,vu,.none] } }:=I3.kept (t':=s3.toks) fun b ob q=>jv _ q;obtain⟨T,id,hT,ht,hg⟩:=hr pins { s3 with heap:=s3.heap.push { cls:=.type "slice",data:=.fields #[vl,vu,.none] } } Z H3 x v vl vu l u s3.heap.objs.size Q I4 r1 (Heap.IsSliceOf.new ..) pl pu q3;show wpAny (model X.prog X.w) X.A (subscriptTail e (.Slice lo hi none p2) v (.ref s3.heap.objs.size)) (EP X pins Z Q) X.xe { s3 with heap:=s3.heap.push { cls:=.type "slice",data:=.fields #[vl,vu,.none] } };exact tail_any (ops:=[.ref s3.heap.objs.size,v]) ht hT hg (by with_unfolding_all rfl)
noncomputable def HW(xs:List V)(lo hi:Option Int):List V:=(xs.drop (HT.sIx xs.length 0 lo)).take (HT.sIx xs.length xs.length hi-HT.sIx xs.length 0 lo)
theorem ZV(xs:List V)(lo hi:Option Int):(HW xs lo hi).length<=xs.length:=by
 unfold HW;rw[jc0,jb0];lia
end
noncomputable def ixN(n:Nat)(i:Int):Option Nat:=if 0<=i then (if i<n then some i.toNat else none) else if -(n:Int)<=i then some (i+n).toNat else none
noncomputable def atI{α:Type}(xs:List α)(i:Int):Option α:=(ixN xs.length i).bind fun j=>xs[j]?
theorem fD{n:Nat}{i:Int}{j:Nat}(h:ixN n i=some j):seqIndex? i n=some j/\j<n/\ -(n:Int)<=i/\i<n:=by
 unfold ixN at h;by_cases h0:0<=i
 ·rw[xh h0] at h;by_cases h1:i<n
  ·rw[xh h1] at h;have e:i.toNat=j:=uu h;exact⟨by rw[seqIndex_of h0 h1,e],by lia,by lia,h1⟩
  ·rw[xk h1] at h;cases h
 ·rw[xk h0] at h;by_cases h1: -(n:Int)<=i
  ·rw[xh h1] at h;have e:(i+n).toNat=j:=uu h;exact⟨by rw[seqIndex_neg (by lia) h1,e],by lia,h1,by lia⟩
  ·rw[xk h1] at h;cases h
theorem Xv{α:Type}{xs:List α}{i:Int}{v:α}(h:atI xs i=some v):∃j,seqIndex? i xs.length=some j/\xs[j]?=some v/\j<xs.length/\ -(xs.length:Int)<=i/\i<xs.length:=by
 unfold atI at h;cases e:ixN xs.length i with
 | none=>rw[e] at h;cases h
 | some j=>
  rw[e] at h;obtain⟨h1,h2,h3,h4⟩:=fD e;exact⟨j,h1,h,h2,h3,h4⟩
theorem Dm{α:Type}{xs:List α}{j:Nat}{v:α}(h:xs[j]?=some v):atI xs (j:Int)=some v:=by
 have hj:j<xs.length:=(qv.mp h).1;have e:ixN xs.length (j:Int)=some j:=by
  unfold ixN;rw[xh (by lia),xh (by lia)];simp
 unfold atI;rw[e];exact h
noncomputable def vo(b:Expr):Prop:=∀o i,subscripted b false o i=operate [o,i] (getItem o i)
noncomputable def IxR(X:Cx)(r:R2):Prop:=
 ∀(value slice:Expr) (pins:List (Addr×Obj)) (s:Shared) (Z:St) (H:Hp) (x y:V) (v u:Value) (Q:VK),Inv X pins Z H s->RelV x v->RelV y u->r x y H Q->
  subscripted slice false v u=operate [v,u] (getItem v u)->wpAny (model X.prog X.w) X.A (subscriptTail value slice v u) (EP X pins Z Q) X.xe s
noncomputable def MtR(X:Cx)(id:String)(r:V->List V->Hp->VK->Prop):Prop:=
 ∀(pins:List (Addr×Obj)) (s:Shared) (Z:St) (H:Hp) (x:V) (xs:List V) (v:Value) (us:List Value) (Q:VK),Inv X pins Z H s->RelV x v->Vals xs us->r x xs H Q->
  wpAny (model X.prog X.w) X.A (call (.builtin id) (v::us)) (EP X pins Z Q) X.xe s
section
variable{X:Cx}{a b:Expr}{ta tb:TE}{pos:Pos}
theorem Dp{r:R2}(hr:IxR X r)(ha:PE X a ta)(hb:PE X b tb)(hs:vo b:=by exact fun _ _=>rfl):PE X (.Subscript a b pos) (tOp r ta tb):=by
 intro pins s Z H Q I h;exact Subscript_ (AAi ha hb I h fun v u s2 x y H2 I2 rx ry q=>hr a b pins s2 Z H2 x y v u Q I2 rx ry q (hs _ _))
noncomputable def uF(K:Fr):R2:=fun x y H Q=>∃p xs i v,x=.ref p/\y=.int i/\SqL K H p xs/\atI xs i=some v/\Q v H
noncomputable def uE(K:Fr):R2:=fun x y H Q=>∃p xs i v,x=.ref p/\y=.int i/\SqT K H p xs/\atI xs i=some v/\Q v H
noncomputable def ADV:R2:=fun x y H Q=>∃z i c,x=.str z/\y=.int i/\z.length<=sizeLine/\atI z.cps.toList i=some c/\Q (.str ⟨#[c]⟩) H
theorem FZ:IxR X (uF X.K):=by
 intro value slice pins s Z H x y v u Q I rx ry h hs;obtain⟨p,xs,i,z,rfl,rfl,hq,he,q⟩:=h;cases rx;obtain⟨t,rfl⟩:=ry;obtain⟨its,r,pl,hz⟩:=I.list hq;obtain⟨j,h1,h2,h3,h4,h5⟩:=Xv he;obtain⟨w,ew,rw'⟩:=r.get h2;have hl:=r.length;have hn:=LC;have fin:EP X pins Z Q w s:=⟨z,H,I,rw',q⟩;by_cases h0:0<=i
 ·have hj:i.toNat=j:=by
   rw[seqIndex_of h0 h5] at h1;exact uu h1
  exact item_listR pl.isList h0 (by lia) (by rw[hj];simpa using ew) fin hs
 ·have hj:(i+(its.toArray.size:Int)).toNat=j:=by
   rw[seqIndex_neg (by lia) h4] at h1;rw[xb,<-hl];exact uu h1
  exact subscriptTail_builtinR (x:=w) pl.isList.typeIs slot_list_getitem.lookup
   (wpAny_getItem_list_neg (Q:=fun r s'=>r=w/\EP X pins Z Q r s') pl.isList (by lia) (by rw[xb]<;>lia) (by lia) (by rw[hj];simpa using ew) ⟨rfl,fin⟩) hs
theorem LQ:IxR X (uE X.K):=by
 intro value slice pins s Z H x y v u Q I rx ry h hs;obtain⟨p,xs,i,z,rfl,rfl,hq,he,q⟩:=h;cases rx;obtain⟨t,rfl⟩:=ry;obtain⟨its,r,pl,hz⟩:=I.tuple hq;obtain⟨j,h1,h2,h3,h4,h5⟩:=Xv he;obtain⟨w,ew,rw'⟩:=r.get h2;have hl:=r.length;have hn:=LC;have fin:EP X pins Z Q w s:=⟨z,H,I,rw',q⟩;exact subscriptTail_builtinR (x:=w) pl.typeIs slot_tuple_getitem.lookup
  (getItem_tuple (j:=j) (Q:=fun r s'=>r=w/\EP X pins Z Q r s') pl (by lia) (by lia) (by rw[xb,<-hl];exact h1) (by simpa using ew) ⟨rfl,fin⟩) hs
theorem oV:IxR X ADV:=by
 intro value slice pins s Z H x y v u Q I rx ry h hs;obtain⟨z,i,c,rfl,rfl,hz,he,q⟩:=h;obtain⟨t,rfl⟩:=rx;obtain⟨t',rfl⟩:=ry;obtain⟨j,h1,h2,h3,h4,h5⟩:=Xv he;have hl:z.cps.toList.length=z.length:=by simp[Str.length]
 rw[hl] at h1 h4 h5;have hn:=LC;exact tail_any (typeIs_str s z t) slot_str_getitem.lookup (getItem_str (c:=c) (by
  have e1:decide (i< -(2^63:Int))=false:=decide_eq_false (by lia);have e2:decide (i>=2^63)=false:=decide_eq_false (by lia);rw[e1,e2,Bool.or_false]) (by rw[h1];simpa using h2) ⟨.str ⟨#[c]⟩,H,I.tok _,⟨_,rfl⟩,q⟩) hs
theorem bK(its:List Value)(n j:Nat)(u:Value):Obj.mapSeq (·.setIfInBounds j u) { cls:=.type "list",data:=.seq its.toArray n }={ cls:=.type "list",data:=.seq (its.set j u).toArray n }:=by
 simp[Obj.mapSeq]
theorem Inv.lst{pins:List (Addr×Obj)}{Z:St}{H:Hp}{s:Shared}{p:Addr}{xs:List V}(I:Inv X pins Z H s)(h:H p=some (.lst xs)):
 ∃(its:List Value) (n:Nat),Vals xs its/\s.heap.get? p=some { cls:=.type "list",data:=.seq its.toArray n }/\xs.length<=sizeLine:=by
 obtain⟨z,its,n,r,e⟩:=I.hok p _ h;exact⟨its,n,r,e,z⟩
theorem Inv.lstUpd{pins:List (Addr×Obj)}{Z:St}{H:Hp}{s:Shared}{p:Addr}{xs ys:List V}{its its':List Value}{n n':Nat}{f:Obj->Obj}(I:Inv X pins Z H s)(h:H p=some (.lst xs))
 (ho:s.heap.get? p=some { cls:=.type "list",data:=.seq its.toArray n })(hf:f { cls:=.type "list",data:=.seq its.toArray n }={ cls:=.type "list",data:=.seq its'.toArray n' })(r:Vals ys its')(hz:ys.length<=sizeLine)(t:Nat):
 Inv X pins Z (upd H p (.lst ys)) { s with heap:=s.heap.update p f,toks:=t }:=by
 have e:(s.heap.update p f).get? p=some { cls:=.type "list",data:=.seq its'.toArray n' }:=by
  rw[je7 f ho (by rw[hf]<;>rfl),hf]
 refine I.write (x:=p) (e:=p) (by rw[h];trivial) (.inl rfl) (fun b u hb q=>(ja4 _ _ (Ne.symm hb)).trans q) ⟨_,e⟩ ?_;exact⟨hz,its',n',r,e⟩
noncomputable def wg:V->V->V->Hp->(Hp->Prop)->Prop:=fun o i v H Q=>∃p xs k j,o=.ref p/\i=.int k/\H p=some (.lst xs)/\ixN xs.length k=some j/\Q (upd H p (.lst (xs.set j v)))
theorem set_list:ACq X wg:=by
 intro pins s Z H o i v ov iv u Q I ro ri rv h;obtain⟨p,xs,k,j,rfl,rfl,hp,hj,q⟩:=h;cases ro;obtain⟨t,rfl⟩:=ri;obtain⟨its,n,r,ho,hz⟩:=I.lst hp;obtain⟨h1,h2,h3,h4⟩:=fD hj;have hl:=r.length;have hn:=LC;have I':Inv X pins Z (upd H p (.lst (xs.set j v))) { s with heap:=s.heap.update p (Obj.mapSeq (·.setIfInBounds j u)) }:=
  I.lstUpd hp ho (bK its n j u) (r.set rv j) (by rw[List.length_set];exact hz) s.toks
 by_cases h0:0<=k
 ·have hk:k.toNat=j:=by
   rw[seqIndex_of h0 h4] at h1;exact uu h1
  exact PySem.W.ki_setAt ho h0 (by lia) (by rw[xb,<-hl];exact h4) (by rw[hk];exact⟨_,I',q⟩)
 ·have hk:(k+(its.toArray.size:Int)).toNat=j:=by
   rw[seqIndex_neg (by lia) h3] at h1;rw[xb,<-hl];exact uu h1
  exact PySem.W.ki_setBack ho (by lia) (by rw[xb,<-hl];exact h3) (by lia) (by rw[hk];exact⟨_,I',q⟩)
theorem Wg(lo hi:Option Int)(n:Nat):(sliceBounds lo hi none n).1=((HT.sIx n 0 lo:Nat):Int)/\(sliceBounds lo hi none n).2.1=((HT.sIx n n hi:Nat):Int)/\(sliceBounds lo hi none n).2.2=1:=by
 refine⟨?_,?_,rfl⟩
 ·cases lo with
  | none=>simp[sliceBounds,HT.sIx]
  | some i=>
   simp only[sliceBounds,HT.sIx,Option.getD_none,show(1:Int)>0 by decide,if_true];by_cases h:i<0
   ·simp only[h,if_true]<;>lia
   ·simp only[h,if_false]<;>lia
 ·cases hi with
  | none=>simp[sliceBounds,HT.sIx]
  | some i=>
   simp only[sliceBounds,HT.sIx,Option.getD_none,show(1:Int)>0 by decide,if_true];by_cases h:i<0
   ·simp only[h,if_true]<;>lia
   ·simp only[h,if_false]<;>lia
theorem Uc(its:List Value)(lo hi:Option Int):slicePick its.toArray lo hi none=((its.drop (HT.sIx its.length 0 lo)).take (HT.sIx its.length its.length hi-HT.sIx its.length 0 lo)).toArray:=by
 obtain⟨h1,h2,h3⟩:=Wg lo hi its.toArray.size;unfold slicePick;rw[h1,h2,h3];simp only[sliceRange_one,pick_run,xb]<;>rfl
noncomputable def ABr(K:Fr):V->Option Int->Option Int->Hp->VK->Prop:=fun x lo hi H Q=>∃a xs,x=.ref a/\SqL K H a xs/\∀p,H p=none->Q (.ref p) (upd H p (.lst (HW xs lo hi)))
theorem Ew:SlR X (ABr X.K):=by
 intro pins s Z H x v vl vu lo hi sl Q I rx hs pl pu h;obtain⟨a,xs,rfl,hx,q⟩:=h;cases rx;obtain⟨its,r,ht,hz⟩:=I.list hx;have hlen:=r.length;refine⟨"list",_,slot_list_getitem.lookup,ht.isList.typeIs,?_⟩;refine wpAny_getItem_list_slice ht.isList hs pl pu .none (by simp) ?_ (by rw[xb]<;>lia);rw[Uc,<-hlen];refine⟨.ref s.heap.objs.size,_,I.laid (t':=s.toks) (o:=.lst (HW xs lo hi)) (fun b ob q=>jv _ q) (ze _) ?_,rfl,q _ (I.hok.fresh (ze _))⟩;exact⟨zv (ZV xs lo hi) hz,_,0,(r.drop (HT.sIx xs.length 0 lo)).take (HT.sIx xs.length xs.length hi-HT.sIx xs.length 0 lo),zw _ rfl⟩
noncomputable def PL:V->Bool
 | .non=>true
 | .bl _=>true
 | .int _=>true
 | .str _=>true
 | _=>false
noncomputable def eqV:V->V->Bool
 | .non,.non=>true
 | .bl a,.bl b=>a==b
 | .bl a,.int b=>(if a then 1 else 0)==b
 | .int a,.bl b=>a==(if b then 1 else 0)
 | .int a,.int b=>a==b
 | .str a,.str b=>a==b
 | _,_=>false
theorem AAQ{A:Around}{s:Shared}{y x:V}{u v:Value}(ry:RelV y u)(rx:RelV x v)(fy:PL y=true)(fx:PL x=true):SeqAt.EqAt A s u v (eqV y x):=by
 cases y with
 | non=>
  cases ry;cases x with
  | non=>cases rx;exact SeqAt.EqAt.same _
  | bl b=>cases rx;exact SeqAt.EqAt.none_bool b
  | int b=>obtain⟨t,rfl⟩:=rx;exact SeqAt.EqAt.none_int b t
  | str b=>obtain⟨t,rfl⟩:=rx;exact SeqAt.EqAt.none_str b t
  | _=>exact absurd (show false=true from fx) zi
 | bl a=>
  cases ry;cases x with
  | non=>cases rx;exact SeqAt.EqAt.bool_none a
  | bl b=>cases rx;exact SeqAt.EqAt.bool_bool a b
  | int b=>obtain⟨t,rfl⟩:=rx;exact SeqAt.EqAt.bool_int a b t
  | str b=>obtain⟨t,rfl⟩:=rx;exact SeqAt.EqAt.bool_str a b t
  | _=>exact absurd (show false=true from fx) zi
 | int a=>
  obtain⟨t',rfl⟩:=ry;cases x with
  | non=>cases rx;exact SeqAt.EqAt.int_none a t'
  | bl b=>cases rx;exact SeqAt.EqAt.int_bool a t' b
  | int b=>obtain⟨t,rfl⟩:=rx;exact SeqAt.EqAt.int_int a t' b t
  | str b=>obtain⟨t,rfl⟩:=rx;exact SeqAt.EqAt.int_str a t' b t
  | _=>exact absurd (show false=true from fx) zi
 | str a=>
  obtain⟨t',rfl⟩:=ry;cases x with
  | non=>cases rx;exact SeqAt.EqAt.str_none a t'
  | bl b=>cases rx;exact SeqAt.EqAt.str_bool a t' b
  | int b=>obtain⟨t,rfl⟩:=rx;exact SeqAt.EqAt.str_int a t' b t
  | str b=>obtain⟨t,rfl⟩:=rx;exact SeqAt.EqAt.str_str a t' b t
  | _=>exact absurd (show false=true from fx) zi
 | _=>exact absurd (show false=true from fy) zi
noncomputable def eqU(x:V)(u:Value):Bool:=match u with
 | .none=>eqV .non x
 | .bool b=>eqV (.bl b) x
 | .int i _=>eqV (.int i) x
 | .str z _=>eqV (.str z) x
 | _=>false
theorem pI{x y:V}{u:Value}(r:RelV y u)(f:PL y=true):eqU x u=eqV y x:=by
 cases y with
 | non=>cases r;rfl
 | bl b=>cases r;rfl
 | int i=>obtain⟨t,rfl⟩:=r;rfl
 | str z=>obtain⟨t,rfl⟩:=r;rfl
 | _=>exact absurd (show false=true from f) zi
theorem NQ{x:V}:∀{xs:List V} {us:List Value},Vals xs us->xs.all PL=true->us.any (eqU x)=xs.any fun y=>eqV y x
 | _,_,.nil,_=>rfl
 | y::xs,u::us,.cons r t,f=>by
  rw[List.all_cons,yb] at f;rw[jl1,jl1,pI r f.1,NQ t f.2]
theorem Jw{A:Around}{s:Shared}{x:V}{v:Value}(rx:RelV x v)(fx:PL x=true):∀{xs:List V} {us:List Value},Vals xs us->xs.all PL=true->∀u∈us,SeqAt.EqAt A s u v (eqU x u)
 | _,_,.nil,_=>fun u hu=>by cases hu
 | y::xs,u::us,.cons r t,f=>fun u' hu=>by
  rw[List.all_cons,yb] at f;rcases qq.mp hu with rfl | hu
  ·rw[pI r f.1];exact AAQ r rx f.1 fx
  ·exact Jw rx fx t f.2 u' hu
noncomputable def inV(x:V)(xs:List V):Bool:=xs.any fun y=>eqV y x
noncomputable def rIn(K:Fr)(neg:Bool):R2:=fun x y H Q=>∃p xs,y=.ref p/\(SqL K H p xs\/SqT K H p xs)/\PL x=true/\xs.all PL=true/\Q (.bl (if neg then !inV x xs else inV x xs)) H
theorem iV:OpR X (compareOp .In) (rIn X.K false):=by
 intro pins s Z H x y v u Q I rx ry h;obtain⟨p,xs,rfl,hq,fx,fs,q⟩:=h;cases ry;rcases hq with hq | hq
 ·obtain⟨its,r,pl,hz⟩:=I.list hq;refine SeqAt.in_listAt (eqU x) pl.isList (fun w hw=>Jw rx fx r fs w (by simpa using hw)) ⟨.bl _,H,I,rfl,?_⟩;rw[show its.toArray.any (eqU x)=its.any (eqU x) by simp,NQ r fs];exact q
 ·obtain⟨its,r,pl,hz⟩:=I.tuple hq;refine SeqAt.in_tupleAt (eqU x) pl (fun w hw=>Jw rx fx r fs w (by simpa using hw)) ⟨.bl _,H,I,rfl,?_⟩;rw[show its.toArray.any (eqU x)=its.any (eqU x) by simp,NQ r fs];exact q
theorem XC:OpR X (compareOp .NotIn) (rIn X.K true):=by
 intro pins s Z H x y v u Q I rx ry h;obtain⟨p,xs,rfl,hq,fx,fs,q⟩:=h;cases ry;rcases hq with hq | hq
 ·obtain⟨its,r,pl,hz⟩:=I.list hq;refine SeqAt.notIn_listAt (eqU x) pl.isList (fun w hw=>Jw rx fx r fs w (by simpa using hw)) ⟨.bl _,H,I,rfl,?_⟩;rw[show its.toArray.any (eqU x)=its.any (eqU x) by simp,NQ r fs];exact q
 ·obtain⟨its,r,pl,hz⟩:=I.tuple hq;refine SeqAt.notIn_tupleAt (eqU x) pl (fun w hw=>Jw rx fx r fs w (by simpa using hw)) ⟨.bl _,H,I,rfl,?_⟩;rw[show its.toArray.any (eqU x)=its.any (eqU x) by simp,NQ r fs];exact q
theorem Bj:Hq X (.builtin "len") (fun xs H Q=>∃p ys,xs=[.ref p]/\(SqL X.K H p ys\/SqT X.K H p ys)/\Q (.int ys.length) H):=by
 intro pins s Z H xs us Q I r h;obtain⟨p,ys,rfl,hq,q⟩:=h;obtain⟨u,rfl,rx⟩:=vals1 r;cases rx;have hn:=LC;rcases hq with hq | hq
 ·obtain⟨its,r',pl,hz⟩:=I.list hq;have hlen:=r'.length;exact Calls.call_len_list pl.isList (by simp only[xb]<;>lia) ⟨.int ys.length,H,I.tok _,⟨s.toks+1,by rw[xb,hlen]⟩,q⟩
 ·obtain⟨its,r',pl,hz⟩:=I.tuple hq;have hlen:=r'.length;exact len_tuple pl (by simp only[xb]<;>lia) ⟨.int ys.length,H,I.tok _,⟨s.toks+1,by rw[xb,hlen]⟩,q⟩
theorem EY:Hq X (.builtin "len") (fun xs H Q=>∃z,xs=[.str z]/\z.length<=sizeLine/\Q (.int z.length) H):=by
 intro pins s Z H xs us Q I r h;obtain⟨z,rfl,hz,q⟩:=h;obtain⟨u,rfl,t,rfl⟩:=vals1 r;have hn:=LC;exact len_str (by lia) ⟨.int z.length,H,I.tok _,⟨_,rfl⟩,q⟩
theorem Xl:Hq X (.type "list") (fun xs H Q=>∃p ys,xs=[.ref p]/\(SqL X.K H p ys\/SqT X.K H p ys)/\∀l,H l=none->Q (.ref l) (upd H l (.lst ys))):=by
 intro pins s Z H xs us Q I r h;obtain⟨p,ys,rfl,hq,q⟩:=h;obtain⟨u,rfl,rx⟩:=vals1 r;cases rx;have fin:∀(its:List Value),Vals ys its->ys.length<=sizeLine->∀(h':Heap) (c':Nat),(∀b o',s.heap.get? b=some o'->h'.get? b=some o')->
  h'.get? s.heap.objs.size=some { cls:=.type "list",dict:=none,data:=.seq its.toArray c',slots:= #[] }->EP X pins Z Q (.ref s.heap.objs.size) { s with heap:=h' }:=fun its r' hz h' c' kp e=>
  ⟨.ref s.heap.objs.size,_,I.laid (t':=s.toks) kp (ze _) (show Ej X.prog X.w _ h' _ (.lst ys) from ⟨hz,its,c',r',e⟩),rfl,q _ (I.hok.fresh (ze _))⟩
 rcases hq with hq | hq
 ·obtain⟨its,r',pl,hz⟩:=I.list hq;have hlen:=r'.length;obtain⟨o,ho,hc,n,hd⟩:=pl.isList;exact call_list_seq p (.inl rfl) ho hc hd (fun h' c' kp e=>fin its r' hz h' c' kp e) (by simp only[xb]<;>lia)
 ·obtain⟨its,r',pl,hz⟩:=I.tuple hq;have hlen:=r'.length;obtain⟨o,ho,hc,n,hd⟩:=pl;exact call_list_seq p (.inr rfl) ho hc hd (fun h' c' kp e=>fin its r' hz h' c' kp e) (by simp only[xb]<;>lia)
theorem Ig:Hq X (.type "tuple") (fun xs H Q=>∃p ys,xs=[.ref p]/\((SqL X.K H p ys/\∀l,H l=none->Q (.ref l) (upd H l (.tup ys)))\/(SqT X.K H p ys/\Q (.ref p) H))):=by
 intro pins s Z H xs us Q I r h;obtain⟨p,ys,rfl,h⟩:=h;obtain⟨u,rfl,rx⟩:=vals1 r;cases rx;rcases h with ⟨hq,q⟩ | ⟨hq,q⟩
 ·obtain⟨its,r',pl,hz⟩:=I.list hq;have hlen:=r'.length;refine call_tuple_list pl.isList (fun h' kp=>?_) (by simp only[xb]<;>lia);have I1:Inv X pins Z H { s with heap:=h' }:=I.kept (t':=s.toks) kp;have I2:Inv X pins Z (upd H h'.objs.size (.tup ys)) { s with heap:=h'.push { cls:=.type "tuple",data:=.seq its.toArray } }:=
   I1.laid (t':=s.toks) (fun b o e=>jv _ e) (ze _) (show Ej X.prog X.w _ _ _ (.tup ys) from ⟨hz,its,r',IsTup.new _ _⟩)
  exact⟨.ref h'.objs.size,_,I2,rfl,q _ (I1.hok.fresh (ze _))⟩
 ·obtain⟨its,r',pl,hz⟩:=I.tuple hq;exact call_tuple_same pl ⟨.ref p,H,I,rfl,q⟩
noncomputable def tyV(K:Fr)(T:String)(x:V)(H:Hp):Prop:=match x with
 | .str _=>T="str"
 | .int _=>T="int"
 | .ref p=>(T="list"/\∃xs,SqL K H p xs)\/(T="tuple"/\∃o,K.lookup p=some o/\o.cls=.type "tuple"/\o.dict=none)\/
  (T="dict"/\((∃kvs,H p=some (.dK kvs))\/∃kvs,H p=some (.dT kvs)))\/(T="set"/\∃S n,H p=some (.set S n))
 | _=>False
theorem kJ{pins:List (Addr×Obj)}{Z:St}{H:Hp}{s:Shared}{T:String}{x:V}{v:Value}(I:Inv X pins Z H s)(r:RelV x v)(ty:tyV X.K T x H):
 s.TypeIs v T/\∀a,v=.ref a->∃ob,s.heap.get? a=some ob/\ob.dict=none:=by
 cases x with
 | str z=>
  obtain⟨t,rfl⟩:=r;cases (show T="str" from ty);exact⟨typeIs_str s z t,fun _ e=>nomatch e⟩
 | int i=>
  obtain⟨t,rfl⟩:=r;cases (show T="int" from ty);exact⟨typeIs_int s i t,fun _ e=>nomatch e⟩
 | ref p=>
  cases r;rcases ty with ⟨rfl,xs,hq⟩ | ⟨rfl,o,hk,hc,hd⟩ | ⟨rfl,hk⟩ | ⟨rfl,S,n,hk⟩
  ·obtain⟨its,_,pl,_⟩:=I.list hq;refine⟨pl.isList.typeIs,fun a e=>?_⟩;cases e;obtain⟨o,n,e,c,hd,_⟩:=pl;exact⟨o,e,hd⟩
  ·refine⟨⟨o,I.kIn p o hk,hc⟩,fun a e=>?_⟩;cases e;exact⟨o,I.kIn _ o hk,hd⟩
  ·have z:∃o,s.heap.get? p=some o/\o.ExactDict:=by
    rcases hk with ⟨kvs,hk⟩ | ⟨kvs,hk⟩
    ·obtain⟨_,_,_,_,o,_,_,e,ex,_⟩:=I.hok p _ hk;exact⟨o,e,ex⟩
    ·obtain⟨_,_,_,_,o,_,_,e,ex,_⟩:=I.hok p _ hk;exact⟨o,e,ex⟩
   obtain⟨o,e,ex⟩:=z;refine⟨⟨o,e,ex.1⟩,fun a e2=>?_⟩;cases e2;exact⟨o,e,ex.2.1⟩
  ·obtain⟨o,_,_,_,e,ex,_⟩:=I.hok p _ hk;refine⟨⟨o,e,ex.1⟩,fun a e2=>?_⟩;cases e2;exact⟨o,e,ex.2.1⟩
 | _=>exact False.elim ty
noncomputable def ABQ(K:Fr)(T:String)(r:V->List V->Hp->VK->Prop)(to:TE):TE:=fun Z H Q=>to Z H fun x H1=>tyV K T x H1/\r x [] H1 Q
noncomputable def tBM(K:Fr)(T:String)(r:V->List V->Hp->VK->Prop)(to:TE)(t:TA):TE:=fun Z H Q=>to Z H fun x H1=>tyV K T x H1/\t Z H1 fun xs H2=>r x xs H2 Q
variable{o e:Expr}{es:List Expr}{to:TE}{t:TA}{name:Str}{apos cpos:Pos}{T id:String}{r:V->List V->Hp->VK->Prop}
theorem az(pa:PlainAttrs T)(slot:Slot T name id)(hty:typeOf (.builtin id)=pure (.type "method_descriptor"))(hm:MtR X id r)(ho:PE X o to)
 (hbase:attributeBase o name X.env (eval o X.env)=eval o X.env:=by rfl)(hline:(apos.endLine==cpos.line)=true:=by rfl):PE X (.Call (.Attribute o name apos) [] [] cpos) (ABQ X.K T r to):=by
 intro pins s Z H Q I h;refine wpAny_Call_method0_late hbase hline (thn (ho s Z H _ I h) fun v s1 hZ=>?_);obtain⟨x,H1,I1,r1,ty,q1⟩:=hZ;obtain⟨h1,h2⟩:=kJ I1 r1 ty;exact⟨T,id,pa,slot,hty,h1,h2,Calls.callWith_builtin rfl (PySem.evalArgs_none (hm pins s1 Z H1 x [] v [] Q I1 r1 .nil q1))⟩
theorem Gn(pa:PlainAttrs T)(slot:Slot T name id)(hty:typeOf (.builtin id)=pure (.type "method_descriptor"))(hm:MtR X id r)(ho:PE X o to)(ha:PA X (e::es) t)
 (hbase:attributeBase o name X.env (eval o X.env)=eval o X.env:=by rfl)
 (hfew:((backTo cpos (starEach (e::es) X.env)).all (fun x=>!x.1)&&(backToKw cpos (keywordEach [] X.env)).all (fun x=>x.1.isSome)
  &&decide ((e::es).length+([]:List Keyword).length+(if ([]:List Keyword).isEmpty then 0 else 1)<30))=true:=by rfl)
 (hline:(apos.endLine==cpos.line)=true:=by rfl)(hs:starEach (e::es) X.env=(false,eval e X.env)::starEach es X.env:=by rfl)(hplain:(backTo cpos (starEach es X.env)).any (·.1)=false:=by rfl):
 PE X (.Call (.Attribute o name apos) (e::es) [] cpos) (tBM X.K T r to t):=by
 intro pins s Z H Q I h;refine wpAny_Call_method_late hbase hfew hline rfl (thn (ho s Z H _ I h) fun v s1 hZ=>?_);obtain⟨x,H1,I1,r1,ty,q1⟩:=hZ;obtain⟨h1,h2⟩:=kJ I1 r1 ty;refine⟨T,id,pa,slot,hty,h1,h2,?_⟩;have hA:=ha (pos:=cpos) pins s1 Z H1 _ I1 q1;rw[hs] at hA ⊢;refine Calls.callWith_builtin (by show(false||(backTo cpos (starEach es X.env)).any (·.1))=false;rw[hplain]<;>rfl) (Calls.evalArgs_plain ?_);exact thn hA fun us s2 ⟨vs,H2,I2,r2,q2⟩=>hm pins s2 Z H2 x vs v us Q I2 r1 r2 q2
end
noncomputable def MtM(X:Cx)(id:String)(r:V->List V->Hp->VK->Prop):Prop:=
 ∀(pins:List (Addr×Obj)) (s:Shared) (Z:St) (H:Hp) (x:V) (xs:List V) (v:Value) (us:List Value) (Q:VK),Inv X pins Z H s->RelV x v->Vals xs us->r x xs H Q->
  wpAny (model X.prog X.w) X.A (call (.builtin id) (v::us)) (EP X pins Z Q) X.xe s
theorem Vals.one{x:V}{us:List Value}(h:Vals [x] us):∃u,us=[u]/\RelV x u:=by cases h with | cons r h=>cases h;exact⟨_,rfl,r⟩
theorem Vals.zero:∀{us:List Value},Vals [] us->us=[]
 | _,.nil=>rfl
theorem Vals.rep{xs:List V}{us:List Value}(h:Vals xs us):∀k:Nat,Vals (List.replicate k xs).flatten (List.replicate k us).flatten
 | 0=>.nil
 | k+1=>by
  rw[ja0,ja0,jd7,jd7];exact Vals.append h (Vals.rep h k)
theorem foldl_rep(its:List Value):∀(k:Nat) (acc:List Value),
 List.foldl (fun x1 x2=>x1++x2) acc.toArray (List.replicate k its.toArray)=(acc++(List.replicate k its).flatten).toArray
 | 0,acc=>by simp
 | k+1,acc=>by
  have e:acc.toArray++its.toArray=(acc++its).toArray:=by simp
  have e2:(acc++its)++(List.replicate k its).flatten=acc++(List.replicate (k+1) its).flatten:=by
   rw[ja0,jd7,jc5]
  rw[<-e2,<-foldl_rep its k (acc++its),<-e,ja0,List.foldl_cons]
section
variable{X:Cx}{pins:List (Addr×Obj)}{Z:St}{H:Hp}{s:Shared}{l b:Addr}{xs ys zs:List V}
theorem Inv.lset{its its':List Value}{n:Nat}{f:Array Value->Array Value}{t':Nat}(I:Inv X pins Z H s)(hH:H l=some (.lst xs))
 (e:s.heap.get? l=some { cls:=.type "list",data:=.seq its.toArray n })(hf:f its.toArray=its'.toArray)(hv:Vals ys its')(hz:ys.length<=sizeLine):
 Inv X pins Z (upd H l (.lst ys)) { s with heap:=s.heap.update l (Obj.mapSeq f),toks:=t' }:=by
 have q:=PySem.IsL.update e f;rw[hf] at q;refine I.write (x:=l) (e:=l) (by rw[hH];exact trivial) (.inl rfl) (fun b' u hb hu=>(ja4 s.heap (Obj.mapSeq f) (Ne.symm hb)).trans hu) ⟨_,q⟩ ?_;exact⟨hz,its',_,hv,q⟩
theorem Inv.lnew{its:List Value}{t':Nat}(I:Inv X pins Z H s)(hv:Vals ys its)(hz:ys.length<=sizeLine):
 Inv X pins Z (upd H s.heap.objs.size (.lst ys)) { s with heap:=s.heap.push { cls:=.type "list",data:=.seq its.toArray },toks:=t' }:=
 I.laid (fun _ _ q=>jv _ q) (ze _) ⟨hz,its,0,hv,zw _ rfl⟩
theorem Inv.fresh(I:Inv X pins Z H s):H s.heap.objs.size=none:=I.hok.fresh (ze _)
theorem Inv.lstM(I:Inv X pins Z H s)(hH:H l=some (.lst xs)):xs.length<=sizeLine/\∃(its:List Value) (n:Nat),Vals xs its/\xs.length=its.length/\s.heap.get? l=some { cls:=.type "list",data:=.seq its.toArray n }:=by
 obtain⟨z,its,n,r,e⟩:=I.hok l _ hH;exact⟨z,its,n,r,r.length,e⟩
theorem Y6{n:Nat}(h:n<=sizeLine):Builtin.List.listTooLong n=false:=by
 unfold Builtin.List.listTooLong;exact decide_eq_false (by lia)
end
section
variable{X:Cx}
noncomputable def uG:V->List V->Hp->VK->Prop:=fun x vs H Q=>∃l xs y,x=.ref l/\vs=[y]/\H l=some (.lst xs)/\xs.length<sizeLine/\Q .non (upd H l (.lst (xs++[y])))
theorem Vd:MtM X "list.append" uG:=by
 intro pins s Z H x vs v us Q I rx rv h;obtain⟨l,xs,y,rfl,rfl,hH,hz,q⟩:=h;cases rx;obtain⟨u,rfl,ru⟩:=rv.one;obtain⟨z,its,n,r,hl,e⟩:=I.lstM hH;refine call_meets F.slot_list_append ⟨_,e,rfl⟩ F.entry_list_append (F.args_list_append_2 _ _) (PySem.list_append l its.toArray n u (by rw[xb];lia)) ⟨e,?_⟩;refine⟨.non,_,I.lset (its':=its++[u]) hH e (by simp) (r.append (.cons ru .nil)) ?_,rfl,q⟩;rw[zk,List.length_singleton];lia
noncomputable def Qx:V->List V->Hp->VK->Prop:=fun x vs H Q=>∃l b xs zs,x=.ref l/\vs=[.ref b]/\H l=some (.lst xs)/\H b=some (.lst zs)/\xs.length+zs.length<=sizeLine/\Q .non (upd H l (.lst (xs++zs)))
theorem Il:MtM X "list.extend" Qx:=by
 intro pins s Z H x vs v us Q I rx rv h;obtain⟨l,b,xs,zs,rfl,rfl,hH,hB,hz,q⟩:=h;cases rx;obtain⟨u,rfl,ru⟩:=rv.one;cases ru;obtain⟨z,its,n,r,hl,e⟩:=I.lstM hH;obtain⟨z2,its2,n2,r2,hl2,e2⟩:=I.lstM hB;have hsz:its.toArray.size+its2.toArray.size<=sizeLine:=by rw[xb,xb];lia
 have hlong:¬(!its.toArray.isEmpty&&Builtin.List.listTooLong (its.toArray.size+its2.toArray.size))=true:=by
  rw[Y6 hsz,Bool.and_false];exact zi
 refine call_meets F.slot_list_extend ⟨_,e,rfl⟩ F.entry_list_extend (F.args_list_extend_2 _ _)
  (AutoSeq1.list_extend_list_list_0 l its.toArray n b its2.toArray n2 hlong (by rw[xb];lia) (by lia)) ⟨e,e2,?_⟩
 refine⟨.non,_,I.lset (its':=its++its2) hH e (by simp) (r.append r2) ?_,rfl,q⟩;rw[zk];lia
noncomputable def ABv:R2:=fun x y H Q=>∃l b xs zs,x=.ref l/\y=.ref b/\H l=some (.lst xs)/\H b=some (.lst zs)/\xs.length+zs.length<=sizeLine/\∀p,H p=none->Q (.ref p) (upd H p (.lst (xs++zs)))
theorem bF:OpR X (binaryOp .Add) ABv:=by
 intro pins s Z H x y v u Q I rx ry h;obtain⟨l,b,xs,zs,rfl,rfl,hH,hB,hz,q⟩:=h;cases rx;cases ry;obtain⟨z,its,n,r,hl,e⟩:=I.lstM hH;obtain⟨z2,its2,n2,r2,hl2,e2⟩:=I.lstM hB;refine PySem.P.add_list e e2 ?_ (by rw[xb,xb];lia);have ea:its.toArray++its2.toArray=(its++its2).toArray:=by simp
 rw[ea];exact⟨.ref _,_,I.lnew (t':=s.toks) (r.append r2) (by rw[zk];lia),rfl,q _ I.fresh⟩
noncomputable def ABs:R2:=fun x y H Q=>∃l k xs,x=.ref l/\y=.int k/\H l=some (.lst xs)/\ -(2^63)<=k/\k<2^63/\xs.length*k.toNat<=sizeLine/\
 ∀p,H p=none->Q (.ref p) (upd H p (.lst (List.replicate k.toNat xs).flatten))
theorem len_rep{α:Type}(xs:List α)(k:Nat):(List.replicate k xs).flatten.length=k*xs.length:=by
 induction k with
 | zero=>simp
 | succ k ih=>rw[ja0,jd7,zk,ih,jp7,Nat.add_comm]
theorem bD:OpR X (binaryOp .Mult) ABs:=by
 intro pins s Z H x y v u Q I rx ry h;obtain⟨l,k,xs,rfl,rfl,hH,h1,h2,hz,q⟩:=h;cases rx;obtain⟨t,rfl⟩:=ry;obtain⟨z,its,n,r,hl,e⟩:=I.lstM hH;have hlen:its.toArray.size*k.toNat<=sizeLine:=by rw[xb,<-hl];exact hz
 have hcap:¬its.toArray.size*k.toNat>(2^63-1)/8:=by
  have:(sizeLine:Nat)<=(2^63-1)/8:=by decide
  lia
 have hfit:¬(!Builtin.List.listFitsIndex k)=true:=by
  rw[fitsIndex_both h1 h2];exact zi
 have hlong:¬Builtin.List.listTooLong (its.toArray.size*k.toNat)=true:=by
  rw[Y6 hlen];exact zi
 have hnew:List.foldl (fun x1 x2=>x1++x2) #[] (List.replicate (if its.toArray.isEmpty=true then 0 else k.toNat) its.toArray)=(List.replicate k.toNat its).flatten.toArray:=by
  have f0:∀m:Nat,List.foldl (fun x1 x2=>x1++x2) #[] (List.replicate m its.toArray)=(List.replicate m its).flatten.toArray:=fun m=>by
   have:=foldl_rep its m [];rw[jl5] at this;exact this
  rw[f0];cases its with
  | nil=>simp
  | cons a r'=>rw[xk (by simp)]
 refine wpAny_binaryOp_repeat_ref (T:="list") (U:="int") (by decide) ⟨_,e,rfl⟩ (fun s'=>typeIs_int s' k t) noFill_list_mul F.fills_int_mul F.slot_int_rmul repeat_list F.slot_int_index.lookup
  (call_meets F.slot_int_rmul (typeIs_int s k t) F.entry_int_rmul (F.args_int_rmul_2 _ _) (int___rmul___int_list k t l its.toArray n)
   ⟨e,rfl,⟨_,e,rfl⟩,call_meets F.slot_list_mul ⟨_,e,rfl⟩ F.entry_list_mul (F.args_list_mul_2 _ _) (AutoListH.list___mul___list_int_3 l its.toArray n k t hfit hcap hlong) ⟨e,?_⟩⟩)
 rw[hnew];exact⟨.ref _,_,I.lnew (t':=s.toks) (r.rep k.toNat) (by rw[len_rep,Nat.mul_comm];exact hz),rfl,q _ I.fresh⟩
end
section
variable{prog:Program}{w:World}{A:Around}{E:Value->Shared->Prop}{s:Shared}
end
section
variable{X:Cx}
end
end L2
namespace Att
open PySem PySem.W PySem.Calls PyProof.Rows
theorem Qc{P:Params}{h:Heap}:∀(ns:List Int) (vs:List Value),WellAll P h vs (ns.map WData.int)->IntsAre vs ns:=by
 intro ns
 induction ns with
 | nil=>
  intro vs w;rw[jk6] at w;cases w;exact .nil
 | cons n ns ih=>
  intro vs w;rw[zn] at w;cases w with
  | cons a b=>
   cases a;exact .cons _ _ (ih _ b)
theorem gj{l:OpenLaw}{n:Nat}(hn:l.most=some n){P:Params}{h:Heap}{args:List WData}{vals:List Value}
 (hpre:l.row.toRowW.claim.pre args=true)(hwl:WellAll P h vals args):
 ∃a vs ns,vals=[Value.ref a]/\args=[WData.list (ns.map WData.int)]/\h.get? a=some { cls:=.type "list",data:=.seq vs.toArray }/\IntsAre vs ns/\ns.length<=n:=by
 have hsh:WShape.hasAll [] args [.list .int]=true:=(pre_splitW hpre).1;have hc:l.pre.holds [] { args:=args }=true:=(pre_splitW hpre).2;obtain⟨d,r,rfl,h1,h2⟩:=hasAllW_cons hsh;obtain rfl:=hasAllW_nil h2;obtain⟨xs,rfl,h3⟩:=hasW_list h1;obtain⟨ns,rfl⟩:=items_int h3;have hlen:ns.length<=n:=by
  unfold OpenLaw.pre at hc;have h4:(WTm.not (.lt (.lit (.int (n:Int))) (.len (.arg 0)))).holds [] { args:=[.list (ns.map .int)] }=true:=by
   have h4:=(holds_andW hc).1;rw[hn] at h4;exact h4
  have h5:=condW_of h4 (w_not (w_lt w_lit (w_len_list (w_arg rfl))));rw[js] at h5;refine Nat.le_of_not_lt fun q=>?_;have q':(n:Int)<((ns.length:Nat):Int):=by lia
  first
   | (rw [decide_eq_true q'] at h5;exact absurd h5 (by decide))
   | (simp at h5;lia)
 cases hwl with
 | cons w1 w2=>
  cases w2;cases w1 with
  | list ho hall=>exact⟨_,_,ns,rfl,rfl,ho,Qc ns _ hall,hlen⟩
theorem iR(l:OpenLaw)(args:List WData):l.row.toRowW.claim.post args (.bool true) args=true:=
 postW_of (r:=l.row.toRowW) (X:=(true==true))
  (show WShape.has [] (.bool true) .bool=true by first | rfl | decide | simp[WShape.has,WShape.arms,WShape.armsAll])
  (show (WTm.eq .res (.lit (.bool true))).value [] { args:=args,res:=some (.bool true),after:=args }=some (.bool (true==true)) from w_eq_bool (w_res rfl) w_lit) rfl
section
variable{prog:Program}{w:World}{A:Around}{E:Value->Shared->Prop}{s:Shared}{K:Frag}
end
end Att
namespace L2
open PySem PySem.Spec PyProof.Rows
theorem U7:∀{vs:List Value} {ns:List Int},IntsAre vs ns->Vals (ns.map V.int) vs
 | _,_,.nil=>.nil
 | _,_,.cons n t h=>.cons ⟨t,rfl⟩ (U7 h)
noncomputable def Only(H:Hp):Prop:=∀b,H b=none\/∃o xs,H b=some (.frz o (.lst xs))
theorem oJ{P:Program}{w:World}{K:Fr}{mg mb:Str->Option Value}{CX:CXT}{k:Nat}{fa a:Addr}{fd:FuncData}{x:Str}{sp:Sp}{s₁:Shared}{vs:List Value}{ns:List Int}
 (KX:K.In s₁.heap)(hns:s₁.heap.Ns mainGlobals mg)(hb:s₁.heap.Ns builtinsNs mb)(hbb:∀x:Str,x≠"__name__"->mb x=bootBuiltins x)(hlim:s₁.heap.NoLimit)(hg:s₁.gens= #[])
 (ha:s₁.heap.get? a=some { cls:=.type "list",data:=.seq vs.toArray })(hi:IntsAre vs ns)(hl:ns.length<=sizeLine)(hr:Ec k callerA)
 (F:∀base:Heap,K.In base->base.Ns mainGlobals mg->Es P w K mg base CX k fa fd [x] sp)(hbind:∀(s:Shared) (u:Value),BindsTo s fd ⟨[u],[]⟩ [(x,u)])
 (hsp:∀H:Hp,Only H->SqL K H a (ns.map V.int)->sp [.ref a] H (fun v _=>v=.bl true) fun _ _ _=>False)
 (hCX:∀H e s',CX [] H s₁ (fun _ _ _=>False) e s'->False):
 codeAny (model P w) callerA (.call (.ref fa) ⟨[.ref a],[]⟩) (fun r s'=>r=.ok (.ret (.bool true))/\OldK s₁.heap s'.heap/\s'.os=s₁.os/\AllBare s'.gens) s₁:=by
 have rv:=U7 hi;have lenV:=hi.length;have core:∀H:Hp,Only H->SqL K H a (ns.map V.int)->HOk P w H s₁.heap->(∀b,H b≠none->b=a)->(H a≠none->K.lookup a=none)->
  codeAny (model P w) callerA (.call (.ref fa) ⟨[.ref a],[]⟩) (fun r s'=>r=.ok (.ret (.bool true))/\OldK s₁.heap s'.heap/\s'.os=s₁.os/\AllBare s'.gens) s₁:=by
  intro H hO hS hok hA hK;have ab:∀{b:Addr} {o:Obj},s₁.heap.get? b=some o->H b=none->(Xe s₁.heap H).get? b=some o:=fun e n=>o7 e n;have noA:∀{b:Addr} {o:Obj} {es:Array DictEntry} {ep:Nat},s₁.heap.get? b=some o->o.data=.dict es ep->H b=none:=fun{b o es ep} e d=>by
   cases q:H b with
   | none=>rfl
   | some u=>
    have e':b=a:=hA b (by rw[q];simp);subst e';rw[ha] at e;cases e;have d':Data.seq vs.toArray _=Data.dict es ep:=d;cases d'
  have nsK:∀{b:Addr} {m:Str->Option Value},s₁.heap.Ns b m->(Xe s₁.heap H).Ns b m:=fun{b m} ⟨o,es,ep,e,d,r⟩=>⟨o,es,ep,ab e (noA e d),d,r⟩;have hKb:K.In (Xe s₁.heap H):=fun b o e=>ab (KX b o e) (by
   cases q:H b with
   | none=>rfl
   | some u=>
    have e':b=a:=hA b (by rw[q];simp);subst e';rw[hK (by rw[q];simp)] at e;cases e)
  have hM:Mod K mg (Xe s₁.heap H):=⟨hKb,nsK hns,⟨mb,nsK hb,hbb⟩,let ⟨mc,h1,h2⟩:=hlim;⟨mc,nsK h1,h2⟩⟩;have e0:cP P w K mg (Xe s₁.heap H) callerA [] s₁ H:=⟨rfl,hM,fun b o e=>uQ e,jp5 (jK _ _),trivial,fun b hb=>absurd (show b∈([]:List Addr) from hb) (by simp),hok,.of_eq hg⟩;refine jn8 ((F _ hKb (nsK hns)).run callerA [] s₁ H ⟨[.ref a],[]⟩ [.ref a] [.ref a] _ _ hr e0 (hbind s₁ (.ref a)) (.cons rfl .nil) (hsp H hO hS)) fun r s' h=>?_;cases r with
  | error e=>exact(hCX H e s' h).elim
  | ok fl=>
   cases fl with
   | next=>exact False.elim h
   | brk=>exact False.elim h
   | cont=>exact False.elim h
   | ret u=>
    obtain⟨v,H',os,bare,un,hok',r',q⟩:=h;have q':v=.bl true:=q;subst q';obtain rfl:u=Value.bool true:=r';refine⟨rfl,OldK.of_keep fun b o e=>?_,os,bare⟩;cases q:H b with
    | none=>exact un.keep b o e q (by intro z;exact absurd (show b∈([]:List Addr) from z) (by simp)) (by simp)
    | some u=>
     rcases hO b with z | ⟨ob,xs,z⟩
     ·rw[q] at z;cases z
     ·have z2:=un.frzs b ob _ z;obtain⟨e1,_⟩:=hok b _ z;obtain⟨e2,_⟩:=hok' b _ z2;rw[e] at e1;cases e1;exact e2
 cases hk:K.lookup a with
 | some o=>
  have e:=KX a o hk;rw[ha] at e;cases e;refine core (fun _=>none) (fun _=>.inl rfl) (.inr ⟨_,vs.toArray,_,hk,rfl,rfl,rfl,by rw[xb,lenV];exact hl,by simpa using rv⟩) (fun b u z=>by have z':(none:Option HO)=some u:=z;cases z') (fun b z=>absurd rfl z) fun z=>absurd rfl z
 | none=>
  refine core (fun b=>if b=a then some (.frz { cls:=.type "list",data:=.seq vs.toArray } (.lst (ns.map V.int))) else none) (fun b=>?_) (.inl (.inr ⟨{ cls:=.type "list",data:=.seq vs.toArray },xh rfl⟩)) (fun b u z=>?_) (fun b z=>?_) fun _=>hk
  ·by_cases hb:b=a
   ·exact .inr ⟨_,_,xh hb⟩
   ·exact .inl (xk hb)
  ·by_cases hb:b=a
   ·have z':=(xh hb).symm.trans z;cases z';subst hb;exact⟨ha,by rw[js];exact hl,vs,_,rv,ha⟩
   ·have z':=(xk hb).symm.trans z;cases z'
  ·by_cases hb:b=a
   ·exact hb
   ·exact absurd (xk hb) z
noncomputable def inClass(s:Stmt)(j:Nat):Stmt:=match s with
 | .ClassDef _ _ _ body _ _ _ _ _ _ _=>body.getD j (.Pass ⟨0,0,0,0⟩)
 | _=>.Pass ⟨0,0,0,0⟩
noncomputable def Ey(s:Stmt):Arguments:=match s with
 | .FunctionDef _ a _ _ _ _ _ _ _ _=>a
 | _=>{ posonlyargs:=[],args:=[],vararg:=none,kwonlyargs:=[],kw_defaults:=[],kwarg:=none,defaults:=[] }
noncomputable def DQ(s:Stmt):List Stmt:=match s with
 | .FunctionDef _ _ b _ _ _ _ _ _ _=>b
 | _=>[]
noncomputable def BP(s:Stmt):Scope:=match s with
 | .FunctionDef _ _ _ _ _ _ sc _ _ _=>sc
 | _=>{ kind:=.function,names:=[],isGenerator:=false,isCoroutine:=false }
noncomputable abbrev CX0:CXT:=fun _ _ _ _ _ _=>False
noncomputable abbrev E0:XK:=fun _ _ _=>False
theorem Ma{X:Cx}:KY CX0 X E0:=fun _ _ _ _ _ _ _ h=>h.elim
structure Fun(K:Fr)(x qual:Str)(st:Stmt)(f:Addr)(fd:FuncData):Prop where
 ex:∃(oc:Value) (od:Option Addr) (kV doc pm:Value) (an:Option Addr) (cdv ct:Value) (osl:Array (Option Value)),
  fd=PySem.W.fnOf x qual (Ey st) (DQ st) (BP st) .none kV doc pm an cdv ct/\K.lookup f=some ⟨oc,od,.func fd,osl⟩/\PySem.W.codeIn K cdv qual=true
 kp:PySem.W.keepIn K (.ref f)=true
section
variable{P:Program}{w:World}{K:Fr}{mg:Str->Option Value}{base:Heap}
theorem Fun.ok{x qual:Str}{st:Stmt}{f:Addr}{fd:FuncData}{N ps:List Str}{k:Nat}{sp:Sp}(F:Fun K x qual st f fd)(S:Cu N ps (BP st))(len:∀{vs H Q E},sp vs H Q E->vs.length=ps.length)
 (hbody:∀{cdv:Value} {A:Around} {outer:List Env} {s:Shared} (nd:N.Nodup) (H:Hp) (vs:List V) (Q:VK) (E:XK),Ec k (A.deeper (envOfC qual (BP st) s.heap.objs.size f cdv))->sp vs H Q E->
  ∃t,PSs (Ux CX0 P w K mg base N qual (BP st) f cdv A outer s H E).nox (DQ st) t/\t { nx:=fun _ H'=>Q .non H',rt:=Q } (start N vs) H):Es P w K mg base CX0 (k+1) f fd ps sp:=by
 obtain⟨oc,od,kV,doc,pm,an,cdv,ct,osl,rfl,lk,hcd⟩:=F.ex;refine xK lk hcd S (fun _ _ _ _=>len) fun A outer s H vs Q E hr hsp=>?_;obtain⟨t,h,q⟩:=hbody S.nd H vs Q E hr hsp;exact⟨t,h.nox,q⟩
theorem Fun.binds{x qual:Str}{st:Stmt}{f:Addr}{fd:FuncData}{ps:List Str}(F:Fun K x qual st f fd)
 (h:∀(kV doc pm:Value) (an:Option Addr) (cdv ct:Value) (us:List Value),us.length=ps.length->bindArgs (PySem.W.fnOf x qual (Ey st) (DQ st) (BP st) .none kV doc pm an cdv ct) ⟨us,[]⟩=pure (ps.zip us)):Binds K fd ps []:=by
 obtain⟨oc,od,kV,doc,pm,an,cdv,ct,osl,rfl,lk,hcd⟩:=F.ex;exact .all (h kV doc pm an cdv ct)
theorem pC{x qual:Str}{st:Stmt}{f:Addr}{oc:Value}{od an:Option Addr}{osl:Array (Option Value)}{kV doc pm cdv ct:Value}(l:K.lookup f=some ⟨oc,od,.func (PySem.W.fnOf x qual (Ey st) (DQ st) (BP st) .none kV doc pm an cdv ct),osl⟩)
 (c:PySem.W.codeIn K cdv qual=true)(k:PySem.W.keepIn K (.ref f)=true):Fun K x qual st f (PySem.W.fnOf x qual (Ey st) (DQ st) (BP st) .none kV doc pm an cdv ct):=⟨⟨oc,od,kV,doc,pm,an,cdv,ct,osl,rfl,l,c⟩,k⟩
end
theorem fH{A:Around}{k:Nat}(hr:Ec k A):A.units+1<cLine:=yv (jk2 (by decide:1<=64) _) hr.units
theorem Dq{n:Nat}(h:n<=1000):n<sizeLine:=yv h (by decide)
section
variable{X:Cx}
theorem pv(i:Nat){x:Str}{pos:Pos}(hN:X.N[i]?=some x:=by rfl)(hv:Vis X.env.scope x:=by first | exact Or.inl rfl | exact Or.inr (Or.inl rfl) | exact Or.inr (Or.inr rfl))(hd:(x==("__debug__":Str))=false:=by decide)
 (hcd:(x==("__classdict__":Str))=false:=by decide):PE X (.Name x pos) (Lh i):=nA hN hv hd hcd
end
theorem Dz{A B:Prop}(h:B):if false=true then A else B:=by
 rw[xk zi];exact h
theorem Ek{A B:Prop}(h:A):if true=true then A else B:=by
 rw[xh rfl];exact h
theorem Hm{c A B:Prop}[Decidable c](hc:c)(h:B):if (!decide c)=true then A else B:=by
 rw[decide_eq_true hc];exact Dz h
noncomputable def Az(H H':Hp):Prop:=∀b o,H b=some o->H' b=some o
theorem Az.refl(H:Hp):Az H H:=fun _ _ h=>h
theorem Az.trans{H H1 H2:Hp}(a:Az H H1)(b:Az H1 H2):Az H H2:=fun c o h=>b c o (a c o h)
theorem Az.free{H H':Hp}(e:Az H H'){l:Addr}(h:H' l=Option.none):H l=Option.none:=by
 cases q:H l with
 | none=>rfl
 | some o=>
  rw[e l o q] at h;cases h
theorem Az.seq{K:Fr}{H H':Hp}{a:Addr}{xs:List V}(e:Az H H')(h:SqL K H a xs):SqL K H' a xs:=by
 rcases h with (h | ⟨o,h⟩) | h
 ·exact .inl (.inl (e _ _ h))
 ·exact .inl (.inr ⟨o,e _ _ h⟩)
 ·exact .inr h
end L2
set_option maxHeartbeats 4000000
namespace L2
open PySem PySem.Spec PyProof.Rows
noncomputable def Bt(k:Nat)(x:Int):Prop:=x.natAbs<2^k
theorem Bt.bits{k:Nat}{x:Int}(h:Bt k x):Builtin.Int.intBits x<=k:=PySem.intBits_le_iff.mpr h
theorem Bt.mono{k m:Nat}{x:Int}(h:Bt k x)(l:k<=m):Bt m x:=xa h (va (by decide) l)
theorem Bt.le{k:Nat}{x y:Int}(h:Bt k y)(l:x.natAbs<=y.natAbs):Bt k x:=yv l h
theorem Bt.mul{k m:Nat}{x y:Int}(h:Bt k x)(g:Bt m y):Bt (k+m) (x*y):=by
 unfold Bt at*
 rw[jm6,jo9];exact Nat.mul_lt_mul'' h g
theorem Bt.add{k:Nat}{x y:Int}(h:Bt k x)(g:Bt k y):Bt (k+1) (x+y):=by
 unfold Bt at*
 have:=Int.natAbs_add_le x y;rw[Nat.pow_succ];lia
noncomputable def gJ(i j:Int):Prop:=∃n m:Nat,Bt n i/\Bt m j/\n+m<=134217728
theorem gJ.ok{i j:Int}(h:gJ i j):IntMulOk i j:=by
 obtain⟨n,m,h1,h2,h3⟩:=h;have a:=h1.bits;have b:=h2.bits;have hs:((Builtin.Int.intBits i+Builtin.Int.intBits j:Nat):Int)<=2^27:=by
  have e:(2:Int)^27=134217728:=by decide
  rw[e];lia
 have hb:Builtin.Int.intTooBig ((Builtin.Int.intBits i+Builtin.Int.intBits j:Nat):Int)=false:=decide_eq_false (Int.not_lt.mpr hs);unfold IntMulOk
 first
  | (rw [show (((Builtin.Int.intBits i:Nat):Int)+((Builtin.Int.intBits j:Nat):Int))=((Builtin.Int.intBits i+Builtin.Int.intBits j:Nat):Int) by lia,hb];simp)
  | (rw [hb];simp)
  | (intro z;simp only[yb] at z;simp_all)
variable{H:Hp}{Q:VK}
section
variable{X:Cx}{a b c:Expr}{ta tb tc:TE}{pos:Pos}
theorem CP:OpR X (binaryOp .Mult) (rI gJ fun i j=>.int (i*j)):=opI fun _ _ _ _ _ _ _ hc q=>mul_int q hc.ok
theorem O9{j:Int}(h:Bt 9000 j):j.natAbs.log2<9000:=by
 by_cases h0:j.natAbs=0
 ·rw[h0];ac_rfl
 ·exact(Nat.log2_lt h0).mpr h
noncomputable def qi(_ j:Int):Prop:=0<j/\Bt 9000 j
noncomputable def ACx(_ j:Int):Prop:=j≠0/\Bt 9000 j
theorem Ba:OpR X (binaryOp .FloorDiv) (rI qi fun i j=>.int (i/j)):=opI fun i j _ _ _ _ _ hc q=>by
 have h1:(0:Int)<j:=hc.1;exact floordiv_int (by lia) (by rw[Int.fdiv_eq_ediv_of_nonneg i (by lia)];exact q) (.inl (PyProof.noPylong_of_log2 (O9 hc.2)))
theorem nY:OpR X (binaryOp .FloorDiv) (rI ACx fun i j=>.int (i.fdiv j)):=opI fun i j _ _ _ _ _ hc q=>
 floordiv_int hc.1 q (.inl (PyProof.noPylong_of_log2 (O9 hc.2)))
noncomputable def ADu(i j:Int):Prop:=0<=j/\∃n:Nat,Bt n i/\(n:Int)+j<=134217728
theorem Mg:OpR X (binaryOp .LShift) (rI ADu fun i j=>.int (i*2^j.toNat)):=opI fun i j _ _ _ _ _ hc q=>by
 obtain⟨h0,n,hn,h1⟩:=hc;have:=hn.bits;refine lshift_int h0 ?_ q;have e:(2:Int)^27=134217728:=by decide
 rw[e];lia
noncomputable def zE(K:Fr):List V->Hp->VK->Prop:=fun xs H Q=>∃x c t b,xs=[x,.ty c]/\NT K H x t/\PySem.W.kitOne K t (.type c)=some b/\Q (.bl b) H
theorem S8:Hq X (.builtin "isinstance") (zE X.K):=by
 intro pins s Z H xs us Q I r h;obtain⟨x,c,t,b,rfl,ty,e,q⟩:=h;obtain⟨u,w',rfl,r1,r2⟩:=vals2 r;cases (show w'=Value.type c from r2);exact jG I r1 ty e fun tk=>⟨.bl b,H,I.tok tk,rfl,q⟩
structure Cal(P:Program)(w:World)(K:Fr)(mg:Str->Option Value)(base:Heap)(k:Nat)(x:Str)(ps:List Str)(sp:Sp):Prop where
 ex:∃(f:Addr) (fd:FuncData),Es P w K mg base CX0 k f fd ps sp/\Binds K fd ps []/\PySem.W.keepIn K (.ref f)=true/\mg x=some (.ref f)
theorem Af{k:Nat}{x:Str}{ps:List Str}{sp:Sp}{e:Expr}{es:List Expr}{t:TA}{p:Pos}(C:Cal X.prog X.w X.K X.mg X.base k x ps sp)(ha:PA X (e::es) t)(hr:Ec k X.A:=by walk_at"hr")(hg:Gl X x:=by exact rfl)
 (hdb:(x==("__debug__":Str))=false:=by decide)(he:starEach (e::es) X.env=(false,eval e X.env)::starEach es X.env:=by rfl)(hpl:(backTo pos (starEach es X.env)).any (·.1)=false:=by rfl):
 PE X (.Call (.Name x p) (e::es) [] pos) (dF sp [] E0 t):=by
 obtain⟨f,fd,F,b,kp,m⟩:=C.ex;exact uJ F hr hg m kp b .nil Ma ha hdb he hpl
noncomputable def ABP(t:TS):TS:=fun D Z H=>∃J:St->Hp->Prop,t { D with nx:=J } Z H/\∀Z' H',J Z' H'->D.nx Z' H'
theorem Fe{st:Stmt}{t:TS}(h:PS X st t):PS X st (ABP t):=by
 intro pins s Z H D I hw;obtain⟨J,h1,h2⟩:=hw;refine thn (h s Z H { D with nx:=J } I h1) fun f s1 q=>?_;cases f with
 | next=>
  obtain⟨Z',H',I',q⟩:=q;exact⟨Z',H',I',h2 _ _ q⟩
 | ret v=>exact q
 | brk=>exact q
 | cont=>exact q
theorem FP{t:TS}{D:Ends}{Z:St}(J:St->Hp->Prop)(h1:t { D with nx:=J } Z H)(h2:∀Z' H',J Z' H'->D.nx Z' H'):ABP t D Z H:=⟨J,h1,h2⟩
theorem ABp{g:Int->Int->V}{i j:Int}(h:Q (g i j) H):rI0 g (.int i) (.int j) H Q:=⟨i,j,rfl,rfl,h⟩
theorem Du{C:Int->Int->Prop}{g:Int->Int->V}{i j:Int}(c:C i j)(h:Q (g i j) H):rI C g (.int i) (.int j) H Q:=⟨i,j,rfl,rfl,c,h⟩
theorem ADS{g:Int->V}{i:Int}(h:Q (g i) H):rU g (.int i) H Q:=⟨i,rfl,h⟩
theorem ABq{x y:V}(s:tG x y=true)(h:Q (.bl (decide (x=y))) H):rEq x y H Q:=⟨s,h⟩
theorem ABo{x y:V}(s:tG x y=true)(h:Q (.bl (!decide (x=y))) H):rNe x y H Q:=⟨s,h⟩
theorem dj{k:Bool}{Q:Bool->Prop}(h:Q k):∃k',V.bl k=.bl k'/\Q k':=⟨k,rfl,h⟩
theorem aX(n:String):RelV (.ty n) (.type n):=rfl
theorem Cq(i:Int)(t:Tok):RelV (.int i) (.int i t):=⟨t,rfl⟩
theorem Ft{Z:St}{Q:List V->Hp->Prop}(h:Q [] H):YG Z H Q:=h
theorem MF{K:Fr}{n:Nat}{t:TGs}{a:Addr}{xs:List V}{Z:St}{Q:St->Hp->Prop}(hs:SqT K H a xs)(hl:xs.length=n)(h:t xs Z H Q):pA K n t (.ref a) Z H Q:=⟨a,xs,rfl,hs,hl,h⟩
theorem mX{t:TG}{u:TGs}{v:V}{r:List V}{Z:St}{Q:St->Hp->Prop}(h:t v Z H fun Z' H'=>u r Z' H' Q):Vl t u (v::r) Z H Q:=⟨v,r,rfl,h⟩
theorem tu{Z:St}{Q:St->Hp->Prop}(h:Q Z H):ux [] Z H Q:=⟨rfl,h⟩
theorem Av{K:Fr}{p:Addr}{xs:List V}{i:Int}{v:V}(hs:SqT K H p xs)(e:atI xs i=some v)(h:Q v H):uE K (.ref p) (.int i) H Q:=⟨p,xs,i,v,rfl,rfl,hs,e,h⟩
theorem Bq{K:Fr}{p:Addr}{xs:List V}{i:Int}{v:V}(hs:SqL K H p xs)(e:atI xs i=some v)(h:Q v H):uF K (.ref p) (.int i) H Q:=⟨p,xs,i,v,rfl,rfl,hs,e,h⟩
theorem Rm{K:Fr}{x:V}{c:String}{t:Value}{b:Bool}(ty:NT K H x t)(e:PySem.W.kitOne K t (.type c)=some b)(h:Q (.bl b) H):zE K [x,.ty c] H Q:=⟨x,c,t,b,rfl,ty,e,h⟩
theorem Hn{c A B:Prop}[Decidable c](hc:c)(h:A):if decide c=true then A else B:=by
 rw[decide_eq_true hc];exact Ek h
theorem CJ{c A B:Prop}[Decidable c](hc:¬c)(h:B):if decide c=true then A else B:=by
 rw[decide_eq_false hc];exact Dz h
theorem oW{c A B:Prop}[Decidable c](hc:¬c)(h:A):if (!decide c)=true then A else B:=by
 rw[decide_eq_false hc];exact Ek h
theorem CK{c A B:Prop}[Decidable c](h1:c->A)(h2:¬c->B):if decide c=true then A else B:=by
 by_cases h:c
 ·exact Hn h (h1 h)
 ·exact CJ h (h2 h)
theorem Az.tup{K:Fr}{H':Hp}{a:Addr}{xs:List V}(e:Az H H')(h:SqT K H a xs):SqT K H' a xs:=by
 rcases h with (h | ⟨o,h⟩) | h
 ·exact .inl (.inl (e _ _ h))
 ·exact .inl (.inr ⟨o,e _ _ h⟩)
 ·exact .inr h
theorem Ar{p:Addr}(h:H p=none)(o:HO):Az H (upd H p o):=fun b u q=>by rw[Ax (Bm q h)];exact q
theorem Fi{i j:Int}(h0:0<j)(h1:j<18446744073709551616):qi i j:=⟨h0,Bt.mono (k:=64) (by unfold Bt;lia) (by decide)⟩
theorem mz(k:Nat):(0:Int)<1*2^k:=by
 have e:(1:Int)*2^k=((2^k:Nat):Int):=by rw[jg2];simp
 rw[e];have:=ki k;lia
theorem Dl(x y:Nat):Builtin.bitAnd (x:Int) (y:Int)=((x &&& y:Nat):Int):=PyProof.Rows.bitAnd_pp (jl0 x) (jl0 y)
theorem UJ(x:Nat):decide ((0:Int)<=Builtin.bitNot (x:Int))=false:=decide_eq_false (by unfold Builtin.bitNot;lia)
theorem Gx(x y:Nat):Builtin.bitOr (x:Int) (y:Int)=((x ||| y:Nat):Int):=by
 have e:∀z:Int,Builtin.bitNot (Builtin.bitNot z)=z:=fun z=>by unfold Builtin.bitNot;lia
 unfold Builtin.bitOr Builtin.bitAnd;rw[UJ,UJ];dsimp only;rw[e,e,e,xp,xp]
theorem UG(x y:Nat):Builtin.bitXor (x:Int) (y:Int)=((x ^^^ y:Nat):Int):=by
 show Builtin.bitOr (x:Int) (y:Int)-Builtin.bitAnd (x:Int) (y:Int)=_;rw[Gx,Dl];have h:x ||| y=(x ^^^ y)+(x &&& y):=by
  have a:(x ^^^ y) &&& (x &&& y)=0:=by
   refine vx fun i=>?_;rw[ja7,jp0,ja7,jd4];cases x.testBit i<;>cases y.testBit i<;>rfl
  have b:x ||| y=(x ^^^ y) ||| (x &&& y):=by
   refine vx fun i=>?_;rw[jc8,jc8,jp0,ja7];cases x.testBit i<;>cases y.testBit i<;>rfl
  have c:=PyProof.Rows.bitOr_and ((x ^^^ y:Nat):Int) ((x &&& y:Nat):Int);rw[Gx,Dl,a,<-b] at c;lia
 lia
end
end L2
namespace Att
open PySem PySem.W PySem.Calls PyProof.Rows
theorem O3:∀{ns:List Int} {n:Int},n∈ns->Builtin.Int.intBits n<=WData.weightAll (ns.map WData.int)
 | m::ns,n,h=>by
  rw[zn];show _<=WData.weight (.int m)+1+WData.weightAll (ns.map WData.int);rcases qq.mp h with rfl | h
  ·have e:WData.weight (.int n)=Builtin.Int.intBits n:=by first | rfl | (unfold Builtin.Int.intBits;rfl) | simp[WData.weight,Builtin.Int.intBits]
   lia
  ·have:=O3 h;lia
theorem Zv{ns:List Int}(h:WData.layableAll [WData.list (ns.map WData.int)]=true):∀n∈ns,L2.Bt 1048576 n:=fun n hn=>by
 have h1:WData.layable (WData.list (ns.map WData.int))=true:=(Bool.and_eq_true_iff.mp h).1;have h2:WData.weight (WData.list (ns.map WData.int))<=2^20:=jd8 (Bool.and_eq_true_iff.mp h1).2;have h3:=O3 hn;have e:WData.weight (WData.list (ns.map WData.int))=WData.weightAll (ns.map WData.int):=by first | rfl | simp[WData.weight]
 refine PySem.intBits_le_iff.mp ?_;lia
theorem attach_callB{l:OpenLaw}{n:Nat}{q:Program}{loose:List Str}{XP:(Str->Option Value)->Heap->Prop}{YP:World->Heap->Prop}{d:DefRec}
 (hn:l.most=some n)(hdf:d.params.defaults=[])
 (call:∀(w:World) (s₀ s₁:Shared) (mg mb:Str->Option Value) (fa:Addr) (o:Obj) (pm cd doc:Value) (a:Addr) (vs:List Value) (ns:List Int),
  Ground q loose [] XP w s₀ mg mb s₁.heap->YP w s₁.heap->
  s₁.heap.get? fa=some o->o.data=.func (docDef d.name d.params d.body d.scope pm cd doc)->s₁.heap.CodeRec cd d.name->mg d.name=some (.ref fa)->
  s₁.heap.get? a=some { cls:=.type "list",data:=.seq vs.toArray }->IntsAre vs ns->ns.length<=n->(∀n∈ns,L2.Bt 1048576 n)->s₁.gens= #[]->
  codeAny (model l.prog w) callerA (.call (.ref fa) ⟨[.ref a],[]⟩) (fun r s'=>r=.ok (.ret (.bool true))/\OldK s₁.heap s'.heap/\s'.os=s₁.os/\AllBare s'.gens) s₁):
 WalkO q loose XP YP l.row.toRowW d [] (fun f vs=>PySem.call f vs):=by
 intro w s₀ s₁ mg mb G Y fa o pm cd doc dV kV ho hd hcd hD hmg hg args vals as hpre hlay hrd hwl hlo;obtain rfl:dV=.none:=Dflts.none hD hdf;obtain rfl:kV=.none:=Dflts.noKw hD;obtain⟨a,vs,ns,rfl,rfl,hobj,hints,hlen⟩:=gj hn hpre hwl;refine enter_call (jn8 (call w s₀ s₁ mg mb fa o pm cd doc a vs ns G Y ho (fd_plain hd) hcd hmg hobj hints hlen (Zv hlay) hg) fun r s' hq=>?_);obtain⟨rfl,h2,h3,h4⟩:=hq;exact⟨.inl ⟨.bool true,.bool true,[],rfl,fun _=>rfl,.bool true,iR l _,fun _=>⟨List.Pairwise.nil,fun _ hm=>(nomatch hm)⟩⟩,h2,h3,h4⟩
end Att
namespace L2
open PySem PySem.Spec PyProof.Rows
noncomputable def dO(K:Fr):Sp:=fun vs H Q _=>∃(a:Addr) (ns:List Int),vs=[.ref a]/\SqL K H a (ns.map V.int)/\ns.length<=63/\(∀n∈ns,Bt 1048576 n)/\∀H',Q (.bl true) H'
theorem j8{l:PySem.W.OpenLaw}{k:Nat}{q:Program}{loose:List Str}{XP:(Str->Option Value)->Heap->Prop}{YP:World->Heap->Prop}{d:DefRec}{K:Params->Fr}
 (hn:l.most=some 63)(hdf:d.params.defaults=[])(hr:Ec k callerA)
 (hY:∀(w:World) (h:Heap),YP w h->(K w.params).In h)
 (F:∀(w:World) (mg:Str->Option Value) (fa:Addr) (h:Heap),(K w.params).In h->h.Ns mainGlobals mg->mg d.name=some (.ref fa)->
  ∃fd:FuncData,(∀(s:Shared) (u:Value),BindsTo s fd ⟨[u],[]⟩ [("_law_script",u)])/\
   ∀base:Heap,(K w.params).In base->base.Ns mainGlobals mg->Es l.prog w (K w.params) mg base CX0 k fa fd ["_law_script"] (dO (K w.params))):
 PySem.W.WalkO q loose XP YP l.row.toRowW d [] (fun f vs=>PySem.call f vs):=by
 refine Att.attach_callB hn hdf fun w s₀ s₁ mg mb fa o pm cd doc a vs ns G Y ho hd hcd hmg hobj hints hlen hbits hg=>?_;have KX:=hY w _ Y;obtain⟨fd,hb,hF⟩:=F w mg fa _ KX G.T.g hmg;exact oJ KX G.T.g G.T.b G.T.builtins G.T.nolimit hg hobj hints (zv hlen (by decide)) hr hF hb (fun H hO hS=>⟨a,ns,rfl,hS,hlen,hbits,fun _=>rfl⟩) fun H e s'=>fun z=>z
noncomputable def La(X:Cx)(M:List Str)(x:Str)(scope:Scope)(cl:List (Str×Addr))(C:Addr)(s₀:Shared)(H₀:Hp)(fp:List Addr):Cx:=
 { X with N:=x::M,s₀:=s₀,H₀:=H₀,env:=compEnvC scope cl C X.env,outer:=X.stack,ex:=fp,fn:=fun _=>false,pn:=[],xe:=fun _ _=>False }
noncomputable def Cw(X:Cx)(M:List Str)(xs:List Str)(scope:Scope)(cl:List (Str×Addr))(C:Addr)(s₀:Shared)(H₀:Hp)(fp:List Addr):Cx:=
 { X with N:=xs++M,s₀:=s₀,H₀:=H₀,env:=compEnvC scope cl C X.env,outer:=X.stack,ex:=fp,fn:=fun _=>false,pn:=[],xe:=fun _ _=>False }
structure Nb(X:Cx)(M:List Str)(xs:List Str)(scope:Scope)(cl:List (Str×Addr)):Prop where
 clos:closureFor scope X.env=pure cl
 cell:∀y∈scope.names,y.2≠.cell
 kind:scope.kind=.function
 names:∀y∈scope.names,y.2=.local->scope.names.lookup y.1=some .local
 xl:∀x∈xs,scope.names.lookup x=some .local
 nd:(xs++M).Nodup
 len:M.length=X.N.length
 sub:∀y c,cl.lookup y=some c->X.env.cells.lookup y=some c
 has:∀y,((relabel scope X.env).names.lookup y=some .cell\/(relabel scope X.env).names.lookup y=some .free)->∃c,cl.lookup y=some c
 vis:∀(i:Nat) (y:Str),M[i]?=some y->Vis (relabel scope X.env) y->X.N[i]?=some y/\((relabel scope X.env).names.lookup y=some .cell\/(relabel scope X.env).names.lookup y=some .free)/\(X.env.scope.names.lookup y=some .cell\/X.env.scope.names.lookup y=some .free)
noncomputable abbrev Xy(X:Cx)(M:List Str)(x:Str)(scope:Scope)(cl:List (Str×Addr)):Prop:=Nb X M [x] scope cl
noncomputable def jo(X:Cx)(ifs:List Expr)(t:TT):Prop:=
 ∀(pins:List (Addr×Obj)) (s:Shared) (Z:St) (H:Hp) (Q:Bool->Hp->Prop),Inv X pins Z H s->t Z H Q->
  wpAny (model X.prog X.w) X.A (forIn ifs true fun c r=>if r=true then do let ok <-isTrue c X.env (eval c X.env);pure (ForInStep.yield ok) else pure (ForInStep.yield r)) (TP X pins Z Q) X.xe s
noncomputable def cg:TT:=fun _ H Q=>Q true H
variable{K:Fr}{Z:St}{H:Hp}{xs:List V}{scope:Scope}{elt iter:Expr}{pos:Pos}{tt:TT}{te:TE}{x:Str}{Q:VK}{ta:TA}
section
variable{X:Cx}
theorem Ep:jo X [] cg:=fun pins s Z H Q I h=>by
 rw[jp8];exact xy ⟨H,I,h⟩
theorem Rq{c:Expr}{t:TT}(hc:PT X c t):jo X [c] t:=fun pins s Z H Q I h=>by
 rw[jl2];refine qf ?_;rw[xh rfl];refine qf (thn (hc s Z H Q I h) fun b s1 q=>xy ?_);dsimp only;rw[jp8];exact xy q
noncomputable def dD(wi:TI)(tt:TT)(te:TE):TE:=fun Z H Q=>wi Z H fun J H1=>∀D,H1 D=none->∃W:Nat->Nat->List V->Hp->Prop,(∃m,W 0 m [] (upd H1 D (.lst [])))/\
 ∀i m ys H2,W i m ys H2->H2 D=some (.lst ys)/\((J.stop i H2/\Q (.ref D) H2)\/(J.go i H2/\ys.length<sizeLine/\∃m',m'<m/\∀x H3,J.yld i H2 x H3->
  tt (some x::Z) H3 fun b H4=>if b=true then te (some x::Z) H4 fun y H5=>H5 D=some (.lst ys)/\W (i+1) m' (ys++[y]) (upd H5 D (.lst (ys++[y]))) else W (i+1) m' ys H4))
noncomputable def gH(tt:TT)(te:TE)(Z:St)(Q:VK):It->Hp->Prop:=fun J H1=>∀D,H1 D=none->∃W:Nat->Nat->List V->Hp->Prop,(∃m,W 0 m [] (upd H1 D (.lst [])))/\
 ∀i m ys H2,W i m ys H2->H2 D=some (.lst ys)/\((J.stop i H2/\Q (.ref D) H2)\/(J.go i H2/\ys.length<sizeLine/\∃m',m'<m/\∀x H3,J.yld i H2 x H3->
  tt (some x::Z) H3 fun b H4=>if b=true then te (some x::Z) H4 fun y H5=>H5 D=some (.lst ys)/\W (i+1) m' (ys++[y]) (upd H5 D (.lst (ys++[y]))) else W (i+1) m' ys H4))
theorem pR{M:List Str}{pins:List (Addr×Obj)}{s:Shared}{xs:List Str}{cl:List (Str×Addr)}{C:Addr}{fp:List Addr}(I:Inv X pins Z H s)(ok:Nb X M xs scope cl)(hC:s.heap.objs.size<=C)
 (hf:∀b∈fp,Ka X pins H b)(hb:∀b∈fp,b<s.heap.objs.size):(Cw X M xs scope cl C s H fp).Ok where
 mod:=I.ok.mod
 kind:=ok.kind
 glob:=I.ok.glob
 blt:=I.ok.blt
 above:=hC
 inj:=fun y z c h1 h2=>I.ok.inj y z c (ok.sub y c h1) (ok.sub z c h2)
 has:=ok.has
 cab:=fun y c h=>by cases h
 hd:=I.ok.hd
 frames:=I.ok.frames
 stk:=.inl rfl
 exf:=fun b h=>⟨vi (xa (hb b h) hC),fun y c e=>(hf b h).2.2.2.2.1 y c (ok.sub y c e)⟩
 bs:=I.bs
 bsz:=zv I.ok.bsz I.sz
 noex:=fun b o e h=>by
  rcases(hf b h).2.2.2.1 with z | z
  ·exact I.ok.noex b o e z
  ·exact absurd (xa (zo (I.ok.bs b o e).1) z) (jf0 _)
 exfs:=fun b h z=>by
  rcases qq.mp (I.stkSub b z) with e | e
  ·exact(hf b h).2.1 e
  ·exact(hf b h).2.2.1 e
 funs:=I.stack
 frf:=I.stkFree
noncomputable def UT(k:Nat)(g:TG)(tt:TT)(te:TE)(Z:St)(Q:VK):It->Hp->Prop:=fun J H1=>∀D,H1 D=none->∃W:Nat->Nat->List V->Hp->Prop,(∃m,W 0 m [] (upd H1 D (.lst [])))/\
 ∀i m ys H2,W i m ys H2->H2 D=some (.lst ys)/\((J.stop i H2/\Q (.ref D) H2)\/(J.go i H2/\ys.length<sizeLine/\∃m',m'<m/\∀x H3,J.yld i H2 x H3->∀ρ:St,ρ.length=k->
  g x (ρ++Z) H3 fun σ2 H4=>∃ρ2:St,ρ2.length=k/\σ2=ρ2++Z/\tt σ2 H4 fun b H5=>if b=true then te σ2 H5 fun y H6=>H6 D=some (.lst ys)/\W (i+1) m' (ys++[y]) (upd H6 D (.lst (ys++[y]))) else W (i+1) m' ys H5))
noncomputable def lC(k:Nat)(wi:TI)(g:TG)(tt:TT)(te:TE):TE:=fun Z H Q=>wi Z H (UT k g tt te Z Q)
section
variable{prog:Program}{w:World}{A:Around}{R:Result->Shared->Prop}
noncomputable abbrev NB(prog:Program)(w:World)(A:Around)(env:Env)(R:Result->Shared->Prop):Value->Shared->Prop:=notedBy (model prog w) A env fun e s'=>R (.error e) s'
theorem bx{s:Shared}{tg:Expr}{ifs:List Expr}{it acc:Value}{env:Env}(I:Nat->Shared->Prop)
 (turn:∀n s,I n s->wpAny (model prog w) A (pyNext it)
  (fun r s1=>match r with
   | none=>R (.ok .next) s1
   | some v=>wpAny (model prog w) A (letOwnedTupleGo tg it v)
    (fun _ s2=>wpAny (model prog w) A (assign tg env v)
     (fun _ s3=>wpAny (model prog w) A (forIn ifs true fun c r=>if r=true then (isTrue c env (eval c env) >>= fun ok=>pure (ForInStep.yield ok)) else pure (ForInStep.yield r))
      (fun b s4=>if b=true then wpAny (model prog w) A (eval elt env)
       (fun x s5=>wpAny (model prog w) A (call (.builtin "list.append") [acc,x]) (fun _ s6=>∃m,m<n/\I m s6) (NB prog w A env R) s5) (NB prog w A env R) s4
       else ∃m,m<n/\I m s4) (NB prog w A env R) s3) (NB prog w A env R) s2) (NB prog w A env R) s1) (NB prog w A env R) s)
 (n:Nat)(h:I n s):codeAny (model prog w) A (.compLoop (.ListComp elt [⟨tg,iter,ifs,0⟩] scope pos) 0 it acc env) R s:=by
 refine codeAny_loop rfl I (fun n s hI=>?_) n h;refine(show wpAny _ A ((compTurn (.ListComp elt [⟨tg,iter,ifs,0⟩] scope pos) 0 it acc env).onRaise _) _ _ s from wpAny_noted ?_);rw[compTurn_list];refine qf (wpAny_standAt (qf (ja5 (turn n s hI) (fun r s1 h1=>?_) fun _ _ z=>z)));cases r with
 | none=>exact xy h1
 | some v=>
  refine qf (ja5 h1 (fun _ s2 h2=>?_) fun _ _ z=>z);refine qf (ja5 h2 (fun _ s3 h3=>qf (ja5 h3 (fun b s4 h4=>?_) fun _ _ z=>z)) fun _ _ z=>z);cases b with
  | false=>exact xy ⟨rfl,h4⟩
  | true=>
   refine qf (qf (ja5 h4 (fun x s5 h5=>?_) fun _ _ z=>z));exact qf (ja5 h5 (fun _ s6 h6=>xy (xy ⟨rfl,h6⟩)) fun _ _ z=>z)
end
theorem S5{M:List Str}{tg:Expr}{xs:List Str}{ifs:List Expr}{cl:List (Str×Addr)}{g:TG}(hc:X.calm=true)(ok:Nb X M xs scope cl)
 (ht:∀C s₀ H₀ fp,jo (Cw X M xs scope cl C s₀ H₀ fp) ifs tt)(hg:∀C s₀ H₀ fp,PG (Cw X M xs scope cl C s₀ H₀ fp) tg g)(he:∀C s₀ H₀ fp,PE (Cw X M xs scope cl C s₀ H₀ fp) elt te)
 {pins:List (Addr×Obj)}{Z:St}{H2:Hp}{s2:Shared}{it:Addr}{fp:List Addr}{tn:Nat->Heap->Prop}{J:It}{Q:VK}(I2:Inv X pins Z H2 s2)(T:Turn X.prog X.w X.K tg J fp it tn)(st2:tn 0 s2.heap)(f2:∀b∈fp,Ka X pins H2 b)
 (hW:UT xs.length g tt te Z Q J H2)(post:Value->Addr->Result->Shared->Prop)
 (fin:∀D C H3 s4,Inv X pins Z H3 s4->(∃m,s4.heap.Ns C m)->Ka X pins H3 C->Q (.ref D) H3->post (.ref D) C (.ok .next) s4):
 wpAny (model X.prog X.w) X.A (newList []) (fun acc s₃=>wpAny (model X.prog X.w) X.A (newFunctionEnv scope X.env.globals cl [] X.env.qual none .none (some X.env)) (fun cenv s₄=>
  codeAny (model X.prog X.w) X.A (.compStart (.ListComp elt [⟨tg,iter,ifs,0⟩] scope pos) 0 (.ref it) acc { cenv with scope:=relabel scope X.env }) (post acc cenv.locals) s₄) X.xe s₃) X.xe s2:=by
 refine jm5 (wpAny_newFunctionEnv ok.cell (by intro y hy;simp at hy) (fun h₁ hns₁ hsb₁=>?_) ok.kind);dsimp only at hns₁ hsb₁ ⊢;generalize hH2:s2.heap.push { cls:=.type "list",dict:=none,data:=.seq ([]:List Value).toArray }=G2 at hns₁ hsb₁ ⊢;have hC:G2.objs.size=s2.heap.objs.size+1:=by rw[<-hH2,ji0]
 have hDC:s2.heap.objs.size≠G2.objs.size:=by rw[hC];exact vi (jo1 _)
 have hCle:s2.heap.objs.size<=G2.objs.size:=by rw[hC];exact Nat.le_succ _
 have below:∀b,b<s2.heap.objs.size->b≠G2.objs.size/\b≠s2.heap.objs.size:=fun b hb=>⟨by rw[hC];exact vi (Nat.lt_succ_of_lt hb),vi hb⟩;have old:∀b o,s2.heap.get? b=some o->h₁.get? b=some o:=fun b o e=>hsb₁.extBut b o (below b (zo e)).1 (jv _ (hH2 ▸ jv _ e));have hacc:h₁.get? s2.heap.objs.size=some { cls:=.type "list",data:=.seq ([]:List Value).toArray }:=hsb₁.extBut _ _ hDC (jv _ (hH2 ▸ zw _ rfl));have fpb:∀b∈fp,b<s2.heap.objs.size:=fun b hb=>by
  obtain⟨o,e,_⟩:=T.obj _ _ st2 b hb;exact zo e
 have hD0:H2 s2.heap.objs.size=none:=I2.hok.fresh (ze _);have hC0:H2 G2.objs.size=none:=I2.hok.fresh hCle;generalize hDD:s2.heap.objs.size=D at*
 generalize hCC:G2.objs.size=C at*
 obtain⟨W,⟨m0,w0⟩,turn⟩:=hW D hD0;have okX:(Cw X M xs scope cl C s2 H2 fp).Ok:=pR I2 ok (by rw[hDD];exact hCle) f2 (by rw[hDD];exact fpb);have lenN:(List.replicate xs.length none++Z:St).length=(Cw X M xs scope cl C s2 H2 fp).N.length:=by
  show(List.replicate xs.length none++Z).length=(xs++M).length;rw[zk,zk,jb2,I2.len,ok.len]
 have locs:∀(h':Heap) (m:Str->Option Value),(∀y c,X.env.cells.lookup y=some c->∀v,s2.heap.IsCell c v->h'.IsCell c v)->
  ∀(j:Nat) (y:Str) (v:V),(xs++M)[j]?=some y->(List.replicate xs.length none++Z:St)[j]?=some (some v)->Vis (relabel scope X.env) y->∃u,RelV v u/\Look (compEnvC scope cl C X.env) h' m y u:=by
  intro h' m hcell j y v e1 e2 e3;rcases Nat.lt_or_ge j xs.length with jl | jl
  ·rw[jf6 (by rw[jb2];exact jl),List.getElem?_replicate,xh jl] at e2;cases e2
  ·obtain⟨i,rfl⟩:∃i,j=xs.length+i:=⟨j-xs.length,by lia⟩;have e0:M[i]?=some y:=by
    rw[je3 (vj _ _),Nat.add_sub_cancel_left] at e1;exact e1
   have e2':Z[i]?=some (some v):=by
    rw[je3 (by rw[jb2];exact vj _ _),jb2,Nat.add_sub_cancel_left] at e2;exact e2
   obtain⟨e1',k1,k2⟩:=ok.vis i y e0 e3;obtain⟨m2,_,hl⟩:=I2.loc;obtain⟨u,r,l⟩:=hl i y v e1' e2' (k2.elim (fun z=>.inr (.inl z)) fun z=>.inr (.inr z));obtain⟨c',hc'⟩:=ok.has y k1;rcases l with ⟨z,_⟩ | ⟨_,c,hcc,z⟩
   ·have z':X.env.scope.names.lookup y=some .local:=z;rcases k2 with q | q<;>(rw [q] at z';cases z')
   ·have q:=ok.sub y c' hc';rw[hcc] at q;cases q;exact⟨u,r,.inr ⟨k1,c',hc',hcell y c' hcc _ z⟩⟩
 have I0:Inv (Cw X M xs scope cl C s2 H2 fp) [] (List.replicate xs.length none++Z) (upd H2 D (.lst [])) { s2 with heap:=h₁,toks:=s2.toks+([]:List (Str×Value)).length }:=by
  refine⟨okX,rfl,I2.bare,?_,⟨_,hns₁,locs h₁ _ (fun y c e v z=>?_)⟩,fun y c e=>?_,?_,fun y c e=>?_,fun p hp=>?_,?_,lenN⟩
  ·exact Un.laid old (jp5 hDD) hD0
  ·obtain⟨o,ho,hd⟩:=z;exact⟨o,old c o ho,hd⟩
  ·obtain⟨v,o,ho,hd⟩:=I2.cell y c (ok.sub y c e);exact⟨v,o,old c o ho,hd⟩
  ·show upd H2 D (.lst []) C=none;rw[Ax (Ne.symm hDC)];exact hC0
  ·have hn:=I2.freeC y c (ok.sub y c e);obtain⟨v,o,ho,hd⟩:=I2.cell y c (ok.sub y c e);rw[Ax (fun z=>by have:=zo ho;rw[hDD,z] at this;exact jf0 _ this)];exact hn
  ·exact absurd hp (by show p∉([]++[]:List (Addr×Obj));simp)
  ·refine I2.hok.laid old (jp5 hDD) ⟨ve _,[],_,.nil,hacc⟩
 have fpk:∀{H':Hp},(∀b∈fp,H' b=none)->∀b∈fp,Ka (Cw X M xs scope cl C s2 H2 fp) [] H' b:=fun hn b hb=>by
  refine⟨hn b hb,(below b (fpb b hb)).1,okX.exfs b hb,.inl hb,fun y c e=>(f2 b hb).2.2.2.2.1 y c (ok.sub y c e),fun p hp=>?_⟩;exact absurd hp (by show p∉([]++[]:List (Addr×Obj));simp)
 have loop:∀s₃:Shared,s₃={ s2 with heap:=h₁,toks:=s2.toks+([]:List (Str×Value)).length }->
  codeAny (model X.prog X.w) X.A (.compLoop (.ListComp elt [⟨tg,iter,ifs,0⟩] scope pos) 0 (.ref it) (.ref D) (compEnvC scope cl C X.env))
   (post (.ref D) C) s₃:=by
  rintro s₃ rfl;refine bx (fun n s'=>∃i ys w' H',w'.length=xs.length/\Inv (Cw X M xs scope cl C s2 H2 fp) [] (w'++Z) H' s'/\tn i s'.heap/\(∀b∈fp,H' b=none)/\W i n ys H') ?_ m0
   ⟨0,[],List.replicate xs.length none,_,jb2,I0,T.keep _ _ _ st2 (fun b _ o e=>old b o e),fun b hb=>by rw[Ax (below b (fpb b hb)).2];exact(f2 b hb).1,w0⟩
  rintro n s3 ⟨i,ys,w3,H3,l3,I3,st3,fr3,wt⟩;obtain⟨hD3,hh⟩:=turn i n ys H3 wt;rcases hh with ⟨stop,q⟩ | ⟨go,hlen,m',hm,step⟩
  ·refine thn (T.done (Cw X M xs scope cl C s2 H2 fp) rfl rfl rfl hc i [] s3 (w3++Z) H3 _ I3 (fpk fr3) st3 stop) fun r s4 ⟨hr,I4⟩=>?_;subst hr;obtain⟨m4,hn4,_⟩:=id I4.loc;have hC4:H3 C=none:=I4.free;exact fin D C H3 s4 (I2.call' (ch:=fp) I4.os I4.base I4.hok I4.bare fun b hb=>⟨(f2 b hb).2.2.2.1,(f2 b hb).2.1,(f2 b hb).2.2.2.2.1,(f2 b hb).2.2.2.2.2⟩) ⟨m4,hn4⟩ (I2.fpOk (by rw[hDD];exact hCle) hC4) q
  ·refine ja5 (T.item (Cw X M xs scope cl C s2 H2 fp) rfl rfl rfl hc i [] s3 (w3++Z) H3 (fun _ _=>False) I3 (fpk fr3) st3 go) (fun r s4 h4=>?_) (fun _ _ z=>z.elim);obtain⟨u,hr,h4⟩:=h4;subst hr;refine ja5 h4 (fun _ s4 h4=>?_) (fun _ _ z=>z.elim);obtain⟨x',H5,I5,r5,y5,st5,fr5⟩:=h4;have I5':=I5.pinned (fpk fr5) (T.obj _ _ st5);refine ja5 (hg C s2 H2 fp s4 _ H5 x' u _ I5' r5 (step x' H5 y5 w3 l3)) (fun _ s6 h6=>?_) (fun _ _ z=>z.elim);obtain⟨σ6,H6,I6,w6,l6,rfl,q6⟩:=h6;have back:∀{s7:Shared} {H7:Hp} {w7:St},Inv (Cw X M xs scope cl C s2 H2 fp) ([]++Rp fp s4.heap) (w7++Z) H7 s7->tn (i+1) s7.heap/\(∀b∈fp,H7 b=none)/\Inv (Cw X M xs scope cl C s2 H2 fp) [] (w7++Z) H7 s7:=fun{s7 H7 w7} I7=>by
    refine⟨T.keep _ _ _ st5 fun b hb o e=>(I7.pin (b,o) (yy _ (yy _ (JM hb e)))).1,fun b hb=>?_,I7.unpinned⟩;obtain⟨o,e,d⟩:=T.obj _ _ st5 b hb;exact(I7.pin (b,o) (yy _ (yy _ (JM hb e)))).2.1
   refine ja5 (ht C s2 H2 fp _ s6 _ H6 _ I6 q6) (fun ok' s7 h7=>?_) (fun _ _ z=>z.elim);obtain⟨H7,I7,q7⟩:=h7;cases ok' with
   | false=>
    have q7':W (i+1) m' ys H7:=by simpa using q7
    rw[xk zi];obtain⟨b1,b2,b3⟩:=back I7;exact⟨m',hm,i+1,ys,_,H7,l6,b3,b1,b2,q7'⟩
   | true=>
    rw[xh rfl] at q7 ⊢;refine ja5 (he C s2 H2 fp s7 _ H7 _ I7 q7) (fun y s8 h8=>?_) (fun _ _ z=>z.elim);obtain⟨v8,H8,I8,r8,hD8,w8⟩:=h8;refine ja5 (Vd (X:=Cw X M xs scope cl C s2 H2 fp) _ s8 _ H8 (.ref D) [v8] (.ref D) [y] (fun _ H9=>H9=upd H8 D (.lst (ys++[v8]))) I8 rfl (.cons r8 .nil) ⟨D,ys,v8,rfl,rfl,hD8,hlen,rfl⟩) (fun _ s9 h9=>?_) (fun _ _ z=>z.elim);obtain⟨v9,H9,I9,_,e9⟩:=h9;subst e9;obtain⟨b1,b2,b3⟩:=back I9;exact⟨m',hm,i+1,_,_,_,l6,b3,b1,b2,w8⟩
 exact codeAny_compStart_list (loop _ rfl) (T.self _ 0 _ _ _ (T.keep _ _ _ st2 (fun b _ o e=>old b o e)) (loop _ rfl))
theorem jb{M:List Str}{px:Pos}{ifs:List Expr}{cl:List (Str×Addr)}(hc:X.calm=true)(ok:Xy X M x scope cl)
 (ht:∀C s₀ H₀ fp,jo (La X M x scope cl C s₀ H₀ fp) ifs tt)(he:∀C s₀ H₀ fp,PE (La X M x scope cl C s₀ H₀ fp) elt te)
 {pins:List (Addr×Obj)}{Z:St}{H2:Hp}{s2:Shared}{it:Addr}{fp:List Addr}{tn:Nat->Heap->Prop}{J:It}{Q:VK}(I2:Inv X pins Z H2 s2)(T:Turn X.prog X.w X.K (.Name x px) J fp it tn)(st2:tn 0 s2.heap)(f2:∀b∈fp,Ka X pins H2 b)
 (hW:gH tt te Z Q J H2)(post:Value->Addr->Result->Shared->Prop)
 (fin:∀D C H3 s4,Inv X pins Z H3 s4->(∃m,s4.heap.Ns C m)->Ka X pins H3 C->Q (.ref D) H3->post (.ref D) C (.ok .next) s4):
 wpAny (model X.prog X.w) X.A (newList []) (fun acc s₃=>wpAny (model X.prog X.w) X.A (newFunctionEnv scope X.env.globals cl [] X.env.qual none .none (some X.env)) (fun cenv s₄=>
  codeAny (model X.prog X.w) X.A (.compStart (.ListComp elt [⟨.Name x px,iter,ifs,0⟩] scope pos) 0 (.ref it) acc { cenv with scope:=relabel scope X.env }) (post acc cenv.locals) s₄) X.xe s₃) X.xe s2:=
 S5 (g:=Im 0) hc ok ht (fun C s₀ H₀ fp=>Cg ok.nd rfl (.inl (lookup_relabel_local (ok.xl _ (.head _)))) (.inr (lookup_relabel_local (ok.xl _ (.head _))))) he I2 T st2 f2 (fun D hD=>by
  obtain⟨W,w0,turn⟩:=hW D hD;refine⟨W,w0,fun i m ys H3 wt=>?_⟩;obtain⟨hD3,hh⟩:=turn i m ys H3 wt;refine⟨hD3,hh.imp id fun h=>?_⟩;obtain⟨go,hlen,m',hm,step⟩:=h;refine⟨go,hlen,m',hm,fun x' H5 y5 ρ hρ=>?_⟩
  match ρ,hρ with
  | [a],_=>exact⟨[some x'],rfl,rfl,step x' H5 y5⟩) post fin
theorem FT{M:List Str}{px:Pos}{ifs:List Expr}{cl:List (Str×Addr)}{wi:TI}(hc:X.calm=true)(ok:Xy X M x scope cl)(hi:PI X (.Name x px) iter wi)
 (ht:∀C s₀ H₀ fp,jo (La X M x scope cl C s₀ H₀ fp) ifs tt)(he:∀C s₀ H₀ fp,PE (La X M x scope cl C s₀ H₀ fp) elt te)
 (hs:∀x,foldedSetIterable iter X.env x=pure x:=by intro _;rfl):
 PE X (.ListComp elt [⟨.Name x px,iter,ifs,0⟩] scope pos) (dD wi tt te):=by
 intro pins s Z H Q I h;rw[eval_ListComp];refine wpAny_comprehension_free (use:=none) rfl hs ok.clos ok.kind ok.names (thn (hi s Z H _ I h) fun xv s1 h1=>thn h1 fun itv s2 h2=>?_);obtain⟨it,fp,tn,J,H2,e,I2,T,st2,f2,hW⟩:=h2;subst e;refine jb hc ok ht he I2 T st2 f2 hW (compPost (model X.prog X.w) X.A X.xe none (EP X pins Z Q)) fun D C H3 s4 I4 hm fC q=>?_;obtain⟨m,hn⟩:=hm;exact⟨m,hn,fun h' hsb=>⟨.ref D,H3,I4.turned (t':=s4.toks) (fun b o hb e=>hsb.extBut b o hb e) fC.1 fC.2.1 fC.2.2.2.1 fC.2.2.2.2.1 fC.2.2.2.2.2,rfl,q⟩⟩
theorem X7:∀{bs:List Bool} {us:List Value},Vals (bs.map V.bl) us->us=bs.map Value.bool
 | [],_,.nil=>rfl
 | b::bs,u::us,.cons r t=>by
  cases (show u=Value.bool b from r);rw[X7 t];rfl
theorem aa(bs:List Bool):((List.range bs.length).all fun i=>(bs[i]?).getD true)=bs.all id:=by
 induction bs with
 | nil=>rfl
 | cons b bs ih=>
  rw[qo,List.range_succ_eq_map,List.all_cons,List.all_map,List.all_cons,<-ih];rfl
theorem ur{s:Shared}{h':Heap}{o:Obj}(hk:∀b x,b∉[s.heap.objs.size]->(s.heap.push o).get? b=some x->h'.get? b=some x):∀b x,s.heap.get? b=some x->h'.get? b=some x:=
 fun b x e=>hk b x (fun hm=>by rw[xc.mp hm] at e;exact jf0 _ (zo e)) (jv _ e)
theorem S9(hc:X.calm=true):Hq X (.builtin "all") (fun xs H Q=>∃(p:Addr) (bs:List Bool),xs=[.ref p]/\SqL X.K H p (bs.map V.bl)/\Q (.bl (bs.all id)) H):=by
 intro pins s Z H xs us Q I r h;obtain⟨p,bs,rfl,hq,q⟩:=h;obtain⟨u,rfl,ru⟩:=vals1 r;cases (show u=Value.ref p from ru);obtain⟨its,rv,pl,_⟩:=I.list hq;obtain rfl:=X7 rv;have hl:=pl.isList;have hlt:p<s.heap.objs.size:=by obtain⟨_,e,_⟩:=id hl;exact zo e
 refine call_all_walk (wpAny_pyIter_list hl ?_);refine⟨s.heap.objs.size,[s.heap.objs.size,p],[s.heap.objs.size],(bs.map Value.bool).toArray.size,_,_,fun i=>(bs[i]?).getD true,rfl,Walks.list (A:=X.A.in1) (I.ok.hd hc) _ p (vi hlt) (bs.map Value.bool).toArray,
  ⟨⟨_,zw _ rfl,rfl,rfl⟩,hl.push _⟩,fun i v s' Q' E' hP hQ=>?_,fun h' tk hk=>?_⟩
 ·have hP':(bs.map Value.bool)[i]?=some v:=by simpa using hP
  rw[xo] at hP';cases e:bs[i]? with
  | none=>rw[e] at hP';cases hP'
  | some b=>
   rw[e] at hP';cases hP';simp only[e,Option.getD_some] at hQ;exact jb4 hQ
 ·have e:((List.range (bs.map Value.bool).toArray.size).all fun i=>(bs[i]?).getD true)=bs.all id:=by
   rw[xb,js];exact aa bs
  rw[e];exact⟨.bl _,H,I.kept (ur hk),rfl,q⟩
theorem lookup_mem{κ β:Type}[BEq κ][LawfulBEq κ]{k:κ}{v:β}:∀{l:List (κ×β)},l.lookup k=some v->(k,v)∈l
 | (a,b)::r,h=>by
  rw[List.lookup_cons] at h;cases e:k==a with
  | true=>
   rw[e] at h;cases h;rw[eq_of_beq e];exact qc
  | false=>
   rw[e] at h;exact qh _ (lookup_mem h)
theorem Uu{env:Env}(h:∀y∈scope.names,y.2≠.free):(relabel scope env).names=scope.names:=
 map_eq_self fun x hx=>by
  obtain⟨n,k⟩:=x;have:(k==NameKind.free)=false:=by simpa using h _ hx
  simp[this]
theorem GZ(N:List Str)(hN:X.N=N)(hf:∀y∈scope.names,y.2≠.free/\y.2≠.cell)(hk:scope.kind=.function)(hn:∀y∈scope.names,y.2=.local->scope.names.lookup y.1=some .local)
 (hx:scope.names.lookup x=some .local)(nd:(x::N).Nodup)(vis:∀y∈N,scope.names.lookup y≠some .local):Xy X N x scope []:=by
 have e:=Uu (env:=X.env) fun y hy=>(hf y hy).1;refine⟨closureFor_none fun y hy=>(hf y hy).1,fun y hy=>(hf y hy).2,hk,hn,fun y h=>xc.mp h ▸ hx,nd,by rw[hN],fun y c h=>(by cases h),fun y h=>?_,fun i y hy h=>?_⟩
 ·rw[e] at h;rcases h with h | h
  ·exact absurd rfl (hf _ (lookup_mem h)).2
  ·exact absurd rfl (hf _ (lookup_mem h)).1
 ·rcases h with h | h | h
  ·rw[e] at h;exact absurd h (vis y (zh hy))
  ·rw[e] at h;exact absurd rfl (hf _ (lookup_mem h)).2
  ·rw[e] at h;exact absurd rfl (hf _ (lookup_mem h)).1
structure Walk(J:It)(ok:Hp->Prop)(xs:List V):Prop where
 go:∀i H,ok H->i<xs.length->J.go i H
 yld:∀i H x H',ok H->J.yld i H x H'->i<xs.length->H'=H/\xs[i]?=some x
 stop:∀i H,ok H->xs.length<=i->J.stop i H
theorem Ng{a:Addr}:Walk (Itl K a) (fun H=>SqL K H a xs) xs:=
 ⟨fun i H h hi=>⟨xs,xs[i],h,by simp[hi]⟩,fun i H x H' h y hi=>⟨y.1,y.2 xs h⟩,fun i H h hi=>⟨xs,h,hi⟩⟩
theorem j6{a:Addr}:Walk (Itt K a) (fun H=>SqT K H a xs) xs:=
 ⟨fun i H h hi=>⟨xs,xs[i],h,by simp[hi]⟩,fun i H x H' h y hi=>⟨y.1,y.2 xs h⟩,fun i H h hi=>⟨xs,h,hi⟩⟩
theorem j7{lo:Int}{n:Nat}:Walk (Itr lo n) (fun _=>True) ((List.range n).map fun i=>V.int (lo+(i:Nat))):=
 ⟨fun i H _ hi=>(by show i<n;simpa using hi),fun i H x H' _ y hi=>⟨y.1,by
  have hi':i<n:=by simpa using hi
  rw[y.2];simp[hi']⟩,fun i H _ hi=>(by show n<=i;simpa using hi)⟩
theorem fY{J:It}{ok:Hp->Prop}(Wk:Walk J ok xs)(hz:xs.length<sizeLine)(hok:∀D ys,H D=none->ok (upd H D (.lst ys)))(p:V->Bool)(f:V->V)
 (ht:∀x∈xs,∀D ys (Q':Bool->Hp->Prop),H D=none->Q' (p x) (upd H D (.lst ys))->tt (some x::Z) (upd H D (.lst ys)) Q')
 (he:∀x∈xs,p x=true->∀D ys (Q':VK),H D=none->Q' (f x) (upd H D (.lst ys))->te (some x::Z) (upd H D (.lst ys)) Q')
 (h:∀D,H D=none->Q (.ref D) (upd H D (.lst ((xs.filter p).map f)))):
 ∀D,H D=none->∃W:Nat->Nat->List V->Hp->Prop,(∃m,W 0 m [] (upd H D (.lst [])))/\
  ∀i m ys H2,W i m ys H2->H2 D=some (.lst ys)/\((J.stop i H2/\Q (.ref D) H2)\/(J.go i H2/\ys.length<sizeLine/\∃m',m'<m/\∀x H3,J.yld i H2 x H3->
   tt (some x::Z) H3 fun b H4=>if b=true then te (some x::Z) H4 fun y H5=>H5 D=some (.lst ys)/\W (i+1) m' (ys++[y]) (upd H5 D (.lst (ys++[y]))) else W (i+1) m' ys H4)):=by
 intro D hD;refine⟨fun i m ys H2=>i<=xs.length/\m=xs.length-i/\ys=((xs.take i).filter p).map f/\H2=upd H D (.lst ys),⟨_,ve _,rfl,by simp,rfl⟩,?_⟩;rintro i m ys H2 ⟨hi,rfl,hys,rfl⟩;refine⟨Ai,?_⟩;by_cases hlt:i<xs.length
 ·have hl:ys.length<=i:=by
   rw[hys,js];exact zv (jn3 _ _) (by rw[jc0];lia)
  refine .inr ⟨Wk.go i _ (hok D ys hD) hlt,by lia,xs.length-(i+1),by lia,fun x H3 hy=>?_⟩;obtain⟨e3,ex⟩:=Wk.yld i _ x H3 (hok D ys hD) hy hlt;subst e3;have hm:x∈xs:=zh ex;have et:xs.take (i+1)=xs.take i++[x]:=by rw[Qr,ex];rfl
  refine ht x hm D ys _ hD ?_;cases hp:p x with
  | false=>
   rw[xk zi];refine⟨hlt,rfl,?_,rfl⟩;rw[et,List.filter_append,hys];simp[hp]
  | true=>
   rw[xh rfl];refine he x hm hp D ys _ hD ⟨Ai,hlt,rfl,?_,by rw[qx]⟩;rw[et,List.filter_append,hys];simp[hp]
 ·have e:i=xs.length:=by lia
  subst e;refine .inl ⟨Wk.stop _ _ (hok D ys hD) (ze _),?_⟩;rw[hys,jc1];exact h D hD
theorem W3{R:It->Hp->Prop}(h:ta Z H fun vs H1=>∃j:Int,vs=[.int j]/\ -(2^62)<=j/\j<2^62/\R (Itr 0 j.toNat) H1):xG ta Z H R:=h
theorem tZ{R:It->Hp->Prop}(h:ta Z H fun vs H1=>∃i j:Int,vs=[.int i,.int j]/\(-(2^62)<=i/\i<2^62/\ -(2^62)<=j/\j<2^62)/\R (Itr i (j-i).toNat) H1):ACa ta Z H R:=h
theorem GD{wi:TI}(h:wi Z H (gH tt te Z Q)):dD wi tt te Z H Q:=h
theorem Hx{J:It}{ok:Hp->Prop}(Wk:Walk J ok xs)(hz:xs.length<sizeLine)(hok:∀D ys,H D=none->ok (upd H D (.lst ys)))(p:V->Bool)(f:V->V)
 (ht:∀x∈xs,∀D ys (Q':Bool->Hp->Prop),H D=none->Q' (p x) (upd H D (.lst ys))->tt (some x::Z) (upd H D (.lst ys)) Q')
 (he:∀x∈xs,p x=true->∀D ys (Q':VK),H D=none->Q' (f x) (upd H D (.lst ys))->te (some x::Z) (upd H D (.lst ys)) Q')
 (h:∀D,H D=none->Q (.ref D) (upd H D (.lst ((xs.filter p).map f)))):gH tt te Z Q J H:=fY Wk hz hok p f ht he h
theorem bz{i:Nat}{a:Addr}(ei:Z[i]?=some (some (.ref a)))(hS:SqT K H a xs)(hz:xs.length<sizeLine)(p:V->Bool)(f:V->V)
 (ht:∀x∈xs,∀D ys (Q':Bool->Hp->Prop),H D=none->Q' (p x) (upd H D (.lst ys))->tt (some x::Z) (upd H D (.lst ys)) Q')
 (he:∀x∈xs,p x=true->∀D ys (Q':VK),H D=none->Q' (f x) (upd H D (.lst ys))->te (some x::Z) (upd H D (.lst ys)) Q')
 (h:∀D,H D=none->Q (.ref D) (upd H D (.lst ((xs.filter p).map f)))):dD (uv K (Lh i)) tt te Z H Q:=
 by unfold dD uv;exact N6 ei ⟨a,rfl,⟨_,hS⟩,fY j6 hz (fun D ys hD=>(Ar hD _).tup hS) p f ht he h⟩
theorem Kc{Q:Bool->Hp->Prop}(h:Q true H):cg Z H Q:=h
theorem Ie{cl:List (Str×Addr)}(xs M N:List Str)(hl:M.length=N.length)(hN:X.N=N)(clos:closureFor scope X.env=pure cl)(hc:(scope.names.all fun y=>y.2 != .cell)=true)(hk:scope.kind=.function)
 (hn:(scope.names.all fun y=>y.2 != .local||scope.names.lookup y.1==some .local)=true)(hx:(xs.all fun x=>scope.names.lookup x==some .local)=true)(nd:(xs++M).Nodup)
 (hs:∀p∈cl,X.env.cells.lookup p.1=some p.2)
 (hh:((relabel scope X.env).names.all fun p=>(p.2 != .cell&&p.2 != .free)||(cl.lookup p.1).isSome)=true)
 (hv:((M.zip N).all fun q=>match (relabel scope X.env).names.lookup q.1 with
  | some .local=>false
  | some .cell=>q.1==q.2&&(X.env.scope.names.lookup q.1==some .cell||X.env.scope.names.lookup q.1==some .free)
  | some .free=>q.1==q.2&&(X.env.scope.names.lookup q.1==some .cell||X.env.scope.names.lookup q.1==some .free)
  | _=>true)=true):Nb X M xs scope cl:=by
 refine⟨clos,fun y hy=>?_,hk,fun y hy hl=>?_,(fun x hm=>by simpa using ja9.mp hx x hm),nd,by rw[hN];exact hl,fun y c h=>hs _ (lookup_mem h),fun y h=>?_,fun i y hy h=>?_⟩
 ·have:=ja9.mp hc y hy;simpa using this
 ·have:=ja9.mp hn y hy;simpa [hl] using this
 ·rcases h with h | h
  ·have:=ja9.mp hh _ (lookup_mem h);exact jg4.mp (by simpa using this)
  ·have:=ja9.mp hh _ (lookup_mem h);exact jg4.mp (by simpa using this)
 ·have hi:i<N.length:=by
   have:=(qv.mp hy).1;lia
  have hz:(y,N[i])∈M.zip N:=by
   have:(M.zip N)[i]?=some (y,N[i]):=List.getElem?_zip_eq_some.mpr ⟨hy,by simp[hi]⟩;exact zh this
  have z:=ja9.mp hv _ hz;have fin:y=N[i]->X.N[i]?=some y:=fun e=>by rw[hN,e];simp[hi]
  rcases h with h | h | h
  ·dsimp only at z;rw[h] at z;cases z
  ·dsimp only at z;rw[h] at z;simp only[yb,jb3,ji3] at z;exact⟨fin z.1,.inl h,z.2⟩
  ·dsimp only at z;rw[h] at z;simp only[yb,jb3,ji3] at z;exact⟨fin z.1,.inr h,z.2⟩
theorem Ez{cl:List (Str×Addr)}(M N:List Str)(hl:M.length=N.length)(hN:X.N=N)(clos:closureFor scope X.env=pure cl)(hc:(scope.names.all fun y=>y.2 != .cell)=true)(hk:scope.kind=.function)
 (hn:(scope.names.all fun y=>y.2 != .local||scope.names.lookup y.1==some .local)=true)(hx:scope.names.lookup x=some .local)(nd:(x::M).Nodup)
 (hs:∀p∈cl,X.env.cells.lookup p.1=some p.2)
 (hh:((relabel scope X.env).names.all fun p=>(p.2 != .cell&&p.2 != .free)||(cl.lookup p.1).isSome)=true)
 (hv:((M.zip N).all fun q=>match (relabel scope X.env).names.lookup q.1 with
  | some .local=>false
  | some .cell=>q.1==q.2&&(X.env.scope.names.lookup q.1==some .cell||X.env.scope.names.lookup q.1==some .free)
  | some .free=>q.1==q.2&&(X.env.scope.names.lookup q.1==some .cell||X.env.scope.names.lookup q.1==some .free)
  | _=>true)=true):Xy X M x scope cl:=Ie [x] M N hl hN clos hc hk hn (by simp[hx]) nd hs hh hv
noncomputable def jr(lo c:Int)(n:Nat):It:=⟨fun i _=>i<n,fun i H x H'=>H'=H/\x=.int (lo+i*c),fun i _=>n<=i⟩
theorem YC{P:Program}{w:World}{tg:Expr}(it:Addr)(lo c:Int)(n:Nat):Turn P w K tg (jr lo c n) [it] it (fun i h=>IsRangeIter h it (lo+(i:Nat)*c) ((n:Int)-(i:Nat)) c) where
 mem:=by simp
 obj:=fun i h st b hb=>by
  have e:b=it:=by simpa using hb
  subst e;exact⟨_,st,fun v z=>by
   have z':Data.fields _=Data.cell v:=z;cases z'⟩
 keep:=fun i h h' st k=>k it (by simp) _ st
 item:=by
  intro X hP hw hK hc i pins s Z H E I hf st hg;subst hP hw hK;obtain⟨f0,f1,f2,f3,f4,f5⟩:=hf it (by simp);have W:=Walks.range (prog:=X.prog) (w:=X.w) (I.ok.hd hc) it lo c n;refine W.item i s _ _ hg st fun v h' tk hv st' kk=>?_;obtain⟨t,rfl⟩:=hv;have I1:Inv X pins Z H { s with heap:=h',toks:=tk }:=I.turned (fun b o hb e=>kk b o (by simpa using hb) e) f0 f1 f3 f4 f5;exact⟨_,rfl,ZG (s:={ s with heap:=h',toks:=tk }) (n:="range_iterator") st' rfl rfl (by decide) ⟨.int (lo+i*c),H,I1,⟨t,rfl⟩,⟨rfl,rfl⟩,st',fun b hb=>(hf b hb).1⟩⟩
 done:=by
  intro X hP hw hK hc i pins s Z H E I hf st hg;subst hP hw hK;obtain⟨f0,f1,f2,f3,f4,f5⟩:=hf it (by simp);exact wpAny_pyNext_range_end (I.ok.hd hc) st (by have:n<=i:=hg;lia) fun h' eb=>⟨rfl,I.turned (t':=s.toks) (fun b o hb e=>eb b o hb e) f0 f1 f3 f4 f5⟩
 self:=fun _ _ _ _ _ st h=>wpAny_pyIter_rangeiter st h
noncomputable def xF(ta:TA):TI:=fun Z H R=>ta Z H fun vs H1=>∃i j c:Int,vs=[.int i,.int j,.int c]/\0<c/\c<1073741824/\Builtin.Range.small i j c=true/\∃n:Nat,(n:Int)=Builtin.Range.rangeSize i j c/\R (jr i c n) H1
theorem VN{tg:Expr}{a b d:Expr}{p:Pos}(hg:Gl X "range")(hm:X.mg "range"=none)(ha:PA X [a,b,d] ta)(hs:starEach [a,b,d] X.env=(false,eval a X.env)::starEach [b,d] X.env:=by rfl)
 (hpl:(backTo pos (starEach [b,d] X.env)).any (·.1)=false:=by rfl):PI X tg (.Call (.Name "range" p) [a,b,d] [] pos) (xF ta):=by
 intro pins s Z H R I h;refine Call_ (Hl I hg hm boot_range (vc (thn (ha (pos:=pos) pins s Z H _ I h) fun us s1 hZ=>?_) hs hpl));obtain⟨vs,H1,I1,r1,q1⟩:=hZ;obtain⟨lo,hi,c,e,c0,c1,sm,n,hn,q⟩:=q1;subst e;cases r1 with
 | cons r rr=>
  cases rr with
  | cons r' rr=>
   cases rr with
   | cons r'' rr=>
    cases rr;obtain⟨t,rfl⟩:=r;obtain⟨t',rfl⟩:=r';obtain⟨t'',rfl⟩:=r'';refine PySem.call_range_3 (by lia) ?_ (Or.inl (PyProof.noPylong_small (by lia)));refine wpAny_pyIter_range (IsRange.new ..) sm ?_;have I2:Inv X pins Z H1 { s1 with heap:=s1.heap.push { cls:=.type "range",data:=.fields #[.int lo t,.int hi t',.int c t''] },toks:=s1.toks }:=I1.kept fun b o e=>jv _ e;refine⟨(s1.heap.push { cls:=.type "range",data:=.fields #[.int lo t,.int hi t',.int c t''] }).objs.size,[(s1.heap.push { cls:=.type "range",data:=.fields #[.int lo t,.int hi t',.int c t''] }).objs.size],_,_,H1,rfl,
     I2.kept (t':=s1.toks) fun b o e=>jv _ e,YC _ lo c n,?_,fun b hb=>?_,q⟩
    ·have e1:lo+((0:Nat):Int)*c=lo:=by simp
     have e2:(n:Int)-((0:Nat):Int)=Builtin.Range.rangeSize lo hi c:=by rw[<-hn];simp
     show IsRangeIter _ _ (lo+((0:Nat):Int)*c) ((n:Int)-((0:Nat):Int)) c;rw[e1,e2];exact zw _ rfl
    ·have e:b=(s1.heap.push { cls:=.type "range",data:=.fields #[.int lo t,.int hi t',.int c t''] }).objs.size:=by simpa using hb
     subst e;exact I2.fpOk (ze _) (I2.hok.fresh (ze _))
theorem dZ{R:It->Hp->Prop}(h:ta Z H fun vs H1=>∃i j c:Int,vs=[.int i,.int j,.int c]/\0<c/\c<1073741824/\Builtin.Range.small i j c=true/\∃n:Nat,(n:Int)=Builtin.Range.rangeSize i j c/\R (jr i c n) H1):xF ta Z H R:=h
theorem pN{a b:Int}:decide (V.int a=V.int b)=decide (a=b):=by
 rw[ku];simp
theorem K5{i j c:Int}(i0:0<=i)(i1:i<4294967296)(j0:0<=j)(j1:j<4294967296)(c0:0<c)(c1:c<4294967296):Builtin.Range.small i j c=true:=by
 have e:Builtin.Range.rangeSize i j c=if i<j then (j-i-1)/c+1 else 0:=by
  unfold Builtin.Range.rangeSize;rw[xh c0]
 have b1:∀x:Int,0<=x->x/c<=x:=fun x hx=>je5 _ hx;have b2:∀x:Int,0<=x->0<=x/c:=fun x hx=>jf9 hx (by omega);unfold Builtin.Range.small;rw[e];simp only[Builtin.Range.rangeFitsLong,yb,ji3,decide_eq_true_eq,jb3,xh c0];split
 ·have:=b1 (j-i-1) (by omega);have:=b2 (j-i-1) (by omega);omega
 ·omega
theorem N8{wi:TI}{g:TG}{tb:TS}{D:Ends}(h:wi Z H fun J H1=>∃W:Nat->Nat->St->Hp->Prop,(∃m,W 0 m Z H1)/\∀i m Z H,W i m Z H->
 (J.stop i H/\D.nx Z H)\/(J.go i H/\∃N:St->Hp->Prop,(∀Z' H',N Z' H'->∃m',m'<m/\W (i+1) m' Z' H')/\∀x H',J.yld i H x H'->g x Z H' fun σ2 H2=>tb { D with nx:=N,ct:=N,bk:=D.nx } σ2 H2)):ABO wi g tb D Z H:=h
theorem Jr{tl:TE}{R:It->Hp->Prop}(h:tl Z H fun x H1=>∃a,x=.ref a/\(∃xs,SqL K H1 a xs)/\R (Itl K a) H1):xH K tl Z H R:=h
theorem wZ{tl:TE}{R:It->Hp->Prop}(h:tl Z H fun x H1=>∃a,x=.ref a/\(∃xs,SqT K H1 a xs)/\R (Itt K a) H1):uv K tl Z H R:=h
theorem G6{H':Hp}{l:Addr}{o:HO}(h:H l=none)(s:Az H H'):Az H (upd H' l o):=fun b u e=>by
 rw[Ax (Bm e h)];exact s b u e
end
noncomputable def ADi(h:Heap)(e:Addr)(cls:Value)(dd:Option Addr)(head:Value):Prop:=∃vs sl,h.get? e=some ⟨cls,dd,.fields vs,sl⟩/\vs[1]?=some head
noncomputable def XTr(h base:Heap)(e:Addr)(cls:Value)(dd:Option Addr)(fl:Value):Prop:=∃T,ADi h e cls dd (.ref T)/\base.get? T=none/\T≠e/\∃oT ts,h.get? T=some oT/\oT.data=.fields ts/\ts[3]?=some fl
structure Sea(base:Heap)(l:List Env)(e:Addr)(h:Heap):Prop where
 stays:base.StaysIn h
 new:base.get? e=none
 frames:h.FunFrames base l
section
variable{M:Model}{A:Around}{E:Value->Shared->Prop}{s:Shared}{base:Heap}{env:Env}{outer l:List Env}{L e:Addr}{cls:Value}{dd:Option Addr}
end
noncomputable def Old(fs:List Addr)(H:Hp)(h B:Heap):Prop:=∀b u,h.get? b=some u->b∉fs->∃u',B.get? b=some u'/\(H b=none->u'=u)
noncomputable def Tra(H:Hp)(h B:Heap):Prop:=∀b o,H b=some o->∃u,h.get? b=some u/\B.get? b=some u
section
variable{P:Program}{w:World}{fs:List Addr}{H H':Hp}{h h1 h2 B:Heap}
end
noncomputable def CX1(P:Program)(w:World):CXT:=fun outer H s E e s'=>∃(ea:Addr) (cls:Value) (dx:Option Addr) (B:Heap) (H':Hp),e=.ref ea/\s'.os=s.os/\AllBare s'.gens/\Un (frs outer) [] H H' s.heap s'.heap/\
 HOk P w H' s'.heap/\Sea B outer ea s'.heap/\XTr s'.heap B ea cls dx .none/\Old (frs outer) H s.heap B/\Tra H' s'.heap B/\E cls dx H'
section
variable{X:Cx}{pins:List (Addr×Obj)}{Z:St}{H H':Hp}{s:Shared}
end
section
variable{P:Program}{w:World}{K:Fr}{mg:Str->Option Value}{base:Heap}
end
structure ADt(P:Program)(w:World)(K:Fr)(mg:Str->Option Value)(base:Heap)(k:Nat)(x:Str)(ps:List Str)(sp:Sp):Prop where
 ex:∃(f:Addr) (fd:FuncData),Es P w K mg base (CX1 P w) k f fd ps sp/\Binds K fd ps []/\PySem.W.keepIn K (.ref f)=true/\mg x=some (.ref f)
section
variable{X:Cx}{EE:Value->Option Addr->St->Hp->Prop}
end
noncomputable def AAu(a:Addr)(cls:Value)(dx:Option Addr):HO:=.ext fun h=>∃vs sl,h.get? a=some ⟨cls,dx,.fields vs,sl⟩
section
variable{X:Cx}{pins:List (Addr×Obj)}{Z:St}{H:Hp}{s:Shared}{ea:Addr}{cls:Value}{dx:Option Addr}
end
section
variable{X:Cx}{pins:List (Addr×Obj)}{Z:St}{H:Hp}{s:Shared}
end
section
variable{X:Cx}
end
section
variable{prog:Program}{w:World}{A:Around}{E:Value->Shared->Prop}{s:Shared}{K:Fr}{x D:Addr}{ox:Obj}{odo:Option Obj}{name:Str}
structure AAo(K:Fr)(D:Addr):Prop where
 ga:PySem.W.findIn K (.ref D) "__getattribute__"=some (some (.builtin "BaseException.__getattribute__"))
 gk:PySem.W.findIn K (.ref D) "__getattr__"=some none
 be:PySem.W.mroIn K D (.type "BaseException")=some true
 ob:PySem.W.mroIn K D (.type "object")=some true
 ca:PySem.W.findIn K (.ref D) "__class__"=some (some (.builtin "object.__class__"))
 cl:(PySem.W.clsIn K D).isSome=true
 sp:PySem.W.specialIn K (.builtin "object.__class__") "__get__"=some (some (.builtin "getset_descriptor.__get__"))
 tk:PySem.W.takesIn K (.builtin "object.__class__")=some true
end
section
variable{X:Cx}
end
structure WF(k:Nat)(A:Around):Prop where
 dp:A.depth+3*k+5<recursionLimit
 un:A.units+16*k+200<cLine
 gd:A.guards=some []
theorem Ec.toN{k:Nat}{A:Around}(r:Ec k A):WF k A:=⟨r.dp,r.un,r.gd⟩
section
variable{P:Program}{w:World}{K:Fr}{mg:Str->Option Value}{base:Heap}
end
section
variable{X:Cx}
end
theorem G3(a:Addr):RelV (.ref a) (.ref a):=rfl
variable{sp:Sp}
section
variable{X:Cx}
end
section
variable{prog:Program}{w:World}{A:Around}{E:Value->Shared->Prop}{h:Heap}{g:Array GenState}{d:Drawn}{t:Nat}{os:OsState}{K:Fr}{f:Addr}
variable{nm q:Str}{C N:Addr}{bs bm:List Value}{hdct:Bool}{sn:List Str}{sub:List Value}{ab:Bool}{col:Option Bool}{dd:Option Addr}{k0 k1 k2 k3 k5:Option Value}
end
section
variable{prog:Program}{w:World}{A:Around}{E:Value->Shared->Prop}{h:Heap}{g:Array GenState}{d:Drawn}{t:Nat}{os:OsState}{K:Fr}{e:Addr}
variable{nm q:Str}{C N:Addr}{bs bm:List Value}{hdct:Bool}{sn:List Str}{sub:List Value}{ab:Bool}{col:Option Bool}{dd:Option Addr}{k0 k1 k2 k3 k5:Option Value}{newId:String}
variable{x CF:Addr}{cd:ClassData}{name:Str}{v:Value}{vs:Array Value}{sl:Array (Option Value)}
end
section
variable{K:Fr}{C CF:Addr}{h:Heap}
end
section
variable{X:Cx}{pins:List (Addr×Obj)}{Z:St}{H:Hp}{s:Shared}{h':Heap}
variable{o value:Expr}{f:Str}{pos pos':Pos}{ta tv:TE}
end
section
variable{M:Model}{A:Around}{E:Value->Shared->Prop}
end
section
variable{X:Cx}{EE:Value->Option Addr->St->Hp->Prop}
end
noncomputable def Cy(i:Int):Str:=Str.ofString (toString i)
noncomputable def shI(is:List Int):Str:=tupleText (is.map Cy)
inductive qd(K:Fr)(H:Hp):V->Str->Prop
 | int {i:Int}:i.natAbs.log2<1920->qd K H (.int i) (Cy i)
 | str {z:Str}:z.length<=sizeLine->qd K H (.str z) z
 | tup {a:Addr} {is:List Int}:SqT K H a (is.map V.int)->(∀i∈is,i.natAbs.log2<1920)->(shI is).length<=sizeLine->qd K H (.ref a) (shI is)
theorem shownAll_ints:∀is:List Int,PyData.shownAll (is.map PyData.int)=is.map Cy
 | []=>by simp[PyData.shownAll]
 | i::is=>by simp only[zn,PyData.shownAll,PyData.shown,shownAll_ints is];rfl
theorem showableAll_ints:∀is:List Int,(∀i∈is,i.natAbs.log2<1920)->PyData.showableAll (is.map PyData.int)=true
 | [],_=>by simp[PyData.showableAll]
 | i::is,h=>by
  simp only[zn,PyData.showableAll,PyData.showable,showableAll_ints is fun j hj=>h j (qh _ hj),Bool.and_true,decide_eq_true_eq];exact h i (qc ..)
theorem Jg:∀is:List Int,PyData.hasDictAll (is.map PyData.int)=false
 | []=>by simp[PyData.hasDictAll]
 | i::is=>by simp only[zn,PyData.hasDictAll,PyData.hasDict,Jg is,Bool.or_self]
theorem depthAll_ints:∀is:List Int,PyData.depthAll (is.map PyData.int)<=1
 | []=>by simp[PyData.depthAll]
 | i::is=>by
  have:=depthAll_ints is;simp only[zn,PyData.depthAll,PyData.depth];lia
theorem readsAll_ints{h:Heap}:∀{is:List Int} {us:List Value},Vals (is.map V.int) us->ReadsAll h us (is.map PyData.int) []
 | [],_,.nil=>.nil
 | i::is,_,.cons r t=>by
  obtain⟨tk,rfl⟩:=(show ∃tk,_=Value.int i tk from r);exact .cons (as:=[]) (bs:=[]) (.int i tk) (readsAll_ints t)
section
variable{X:Cx}{pins:List (Addr×Obj)}{Z:St}{H:Hp}{s:Shared}
theorem AAP{k:Nat}{x:V}{u:Value}{y:Str}(hr:WF k X.A)(I:Inv X pins Z H s)(r:RelV x u)(f:qd X.K H x y)(q:Q (.str y) H):wpAny (model X.prog X.w) X.A (formatField u Str.empty) (EP X pins Z Q) X.xe s:=by
 cases f with
 | int h=>
  obtain⟨t,rfl⟩:=(show ∃t,u=Value.int _ t from r);exact wpAny_formatField_int h ⟨.str (Cy _),H,I.tok _,⟨_,rfl⟩,q⟩
 | str h=>
  obtain⟨t,rfl⟩:=(show ∃t,u=Value.str y t from r);exact wpAny_formatField_str ⟨.str y,H,I,⟨_,rfl⟩,q⟩ ⟨.str y,H,I.tok _,⟨_,rfl⟩,q⟩ h
 | @tup a is hs hi hz=>
  cases (show u=Value.ref a from r);obtain⟨its,vr,⟨o,ho,hc,n,hd⟩,hl⟩:=I.tuple hs;have rd:Reads s.heap (.ref a) (.tuple (is.map PyData.int)) []:=.tuple ho hc hd (readsAll_ints vr);have e:(PyData.tuple (is.map PyData.int)).shown=shI is:=by simp only[PyData.shown,shownAll_ints];rfl
  have hdp:(PyData.tuple (is.map PyData.int)).depth<=3:=by
   have:=depthAll_ints is;simp only[PyData.depth];lia
  refine formatField_of_reads rd (by simp only[PyData.showable];exact showableAll_ints is hi) (PyData.noDict_hsm (by simp only[PyData.hasDict];exact Jg is)) hr.gd (by have:=hr.un;lia) (fun _ _ z=>z) (fun h' u tk hk=>?_) (by rw[e];exact hz);rw[e];exact⟨.str (shI is),H,I.kept hk,⟨_,rfl⟩,q⟩
end
noncomputable def xn(K:Fr)(tv:TE):TE:=fun Z H Q=>tv Z H fun x H1=>∃y,qd K H1 x y/\Q (.str y) H1
noncomputable abbrev TJ:=Str->St->Hp->VK->Prop
noncomputable def PJ(X:Cx)(es:List Expr)(t:TJ):Prop:=∀ ⦃pins:List (Addr×Obj)⦄ (s:Shared) (Z:St) (H:Hp) (out:Str) (Q:VK),Inv X pins Z H s->t out Z H Q->wpAny (model X.prog X.w) X.A (joinParts out (evalEach es X.env)) (EP X pins Z Q) X.xe s
noncomputable def ACV:TJ:=fun out _ H Q=>out.length<=sizeLine/\Q (.str out) H
noncomputable def fB(te:TE)(t:TJ):TJ:=fun out Z H Q=>te Z H fun x H1=>∃y,x=.str y/\(out++y).length<=sizeLine/\t (out++y) Z H1 Q
noncomputable def wM(t:TJ):TE:=fun Z H Q=>t Str.empty Z H Q
section
variable{X:Cx}{k:Nat}{e e₂:Expr}{es:List Expr}{te:TE}{t:TJ}{pos:Pos}
theorem Ob(hr:WF k X.A)(h:PE X e te):PE X (.FormattedValue e (-1) none pos) (xn X.K te):=by
 intro pins s Z H Q I hw;refine FormattedValue_plain (thn (h s Z H _ I hw) fun u s1 hZ=>?_);obtain⟨x,H1,I1,r,y,f,q⟩:=hZ;exact AAP hr I1 r f q
theorem Ro:PJ X [] ACV:=fun pins s Z H out Q I h=>joinParts_nil ⟨.str out,H,I.tok _,⟨_,rfl⟩,h.2⟩ h.1
theorem Em(h1:PE X e te)(h2:PJ X es t):PJ X (e::es) (fB te t):=by
 intro pins s Z H out Q I h;show wpAny _ _ (joinParts out (eval e X.env::evalEach es X.env)) _ _ _;refine joinParts_cons (thn (h1 s Z H _ I h) fun u s1 hZ=>?_);obtain⟨x,H1,I1,r,y,ex,hz,q⟩:=hZ;subst ex;obtain⟨tk,rfl⟩:=(show ∃tk,u=Value.str y tk from r);exact⟨hz,h2 s1 Z H1 (out++y) Q I1 q⟩
theorem MK(h:PJ X (e::e₂::es) t):PE X (.JoinedStr (e::e₂::es) pos) (wM t):=fun pins s Z H Q I hw=>JoinedStr_many (h s Z H Str.empty Q I hw)
end
noncomputable def wG(K:Fr)(ta:TE)(f:Str):TE:=fun Z H Q=>ta Z H fun x H1=>∃a C d fs v,x=.ref a/\H1 a=some (AAu a (.ref C) (some d))/\H1 d=some (.xd fs)/\AAo K C/\PySem.W.hasDictIn K C=true/\PySem.W.findIn K (.ref C) f=some none/\fs.lookup f=some v/\Q v H1
section
variable{X:Cx}{e:Expr}{f:Str}{pos:Pos}{ta:TE}
end
section
variable{X:Cx}{EE:Value->Option Addr->St->Hp->Prop}
structure ju(P:Program)(w:World)(K:Fr)(mg:Str->Option Value)(base:Heap)(CX:CXT)(k:Nat)(C:Addr)(m:Str)(ps:List Str)(sp:Sp):Prop where
 ex:∃(f:Addr) (fd:FuncData),Es P w K mg base CX k f fd ps sp/\Binds K fd ps []/\Meth K C m f
structure jx(P:Program)(w:World)(K:Fr)(mg:Str->Option Value)(base:Heap)(CX:CXT)(k:Nat)(x:Str)(C:Addr)(ps:List Str)(sp:Sp):Prop where
 ex:∃(f:Addr) (fd:FuncData),Es P w K mg base CX k f fd ps sp/\Binds K fd ps []/\Mk K C f/\mg x=some (.ref C)
variable{C:Addr}{m x:Str}{k:Nat}{ps:List Str}{sp:Sp}{o e:Expr}{es:List Expr}{ta:TE}{t:TA}{apos pos p:Pos}
theorem Dw{pl:Sem Bool}(O:ju X.prog X.w X.K X.mg X.base CX0 k C m ps sp)(c:Cls X.K C)(he:PE X o ta)(ha:PA X (e::es) t)(hr:Ec k X.A:=by walk_at"hr")
 (hst:starEach (e::es) X.env=(false,eval e X.env)::starEach es X.env:=by rfl)(hpl:(backTo pos (starEach es X.env)).any (·.1)=false:=by rfl)
 (ht:eval (.Call (.Attribute o m apos) (e::es) [] pos) X.env=(do
  let ov <-eval o X.env
  standAt apos.atName
  let (f,first) <-holding [ov] (getMethod ov m pl)
  callWith pos f first (backTo pos (starEach (e::es) X.env)) (backToKw pos (keywordEach [] X.env))):=by rfl):
 PE X (.Call (.Attribute o m apos) (e::es) [] pos) (YH C m sp [] E0 ta t):=by
 obtain⟨f,fd,F,hb,M⟩:=O.ex;exact uI (pl:=pl) he c M F hr hb .nil Ma ha hst hpl ht
theorem Cm{pl:Sem Bool}(O:ju X.prog X.w X.K X.mg X.base CX0 k C m ps sp)(c:Cls X.K C)(he:PE X o ta)(hr:Ec k X.A:=by walk_at"hr")
 (ht:eval (.Call (.Attribute o m apos) [] [] pos) X.env=(do
  let ov <-eval o X.env
  standAt apos.atName
  let (f,first) <-holding [ov] (getMethod ov m pl)
  callWith pos f first (backTo pos (starEach [] X.env)) (backToKw pos (keywordEach [] X.env))):=by rfl):
 PE X (.Call (.Attribute o m apos) [] [] pos) (YH C m sp [] E0 ta YG):=by
 obtain⟨f,fd,F,hb,M⟩:=O.ex;exact nF (pl:=pl) he c M F hr hb .nil Ma ht
theorem Fy(O:jx X.prog X.w X.K X.mg X.base CX0 k x C ps sp)(ha:PA X (e::es) t)(hr:Ec (k+1) X.A:=by walk_at"hr")(hg:Gl X x:=by exact rfl)
 (hdb:(x==("__debug__":Str))=false:=by decide)(he:starEach (e::es) X.env=(false,eval e X.env)::starEach es X.env:=by rfl)(hpl:(backTo pos (starEach es X.env)).any (·.1)=false:=by rfl):
 PE X (.Call (.Name x p) (e::es) [] pos) (VB C sp [] E0 t):=by
 obtain⟨f,fd,F,hb,M,hm⟩:=O.ex;exact dw M F hr hg hm hb .nil Ma ha hdb he hpl
end
theorem J2{i:Int}(h:i.natAbs.log2<1920):(Cy i).length<=1921:=by
 have e:=int_text_length_le (k:=1920) (by decide) h;unfold Cy;rw[PySem.ofString_length];lia
theorem fits{s:Str}{n:Nat}(h:s.length<=n)(hn:n<=100000):s.length<=sizeLine:=zv h (zv hn (by decide))
theorem Lz{out:Str}(h:out.length<=sizeLine)(q:Q (.str out) H):ACV out Z H Q:=⟨h,q⟩
theorem Kq{t:TJ}{out:Str}(n:Nat)(hn:out.length<=n)(hz:n+x.length<=100000)(h:(out++x).length<=n+x.length->t (out++x) Z H Q):fB (tC (.str x)) t out Z H Q:=by
 have e:(out++x).length<=n+x.length:=by rw[strLen_append];lia
 exact⟨x,rfl,fits e hz,h e⟩
theorem VH{j:Nat}{i:Int}{t:TJ}{out:Str}(n:Nat)(hn:out.length<=n)(hz:n+1921<=100000)(hv:Z[j]?=some (some (.int i)))(hi:i.natAbs.log2<1920)(h:(out++Cy i).length<=n+1921->t (out++Cy i) Z H Q):
 fB (xn K (Lh j)) t out Z H Q:=by
 have e:(out++Cy i).length<=n+1921:=by have:=J2 hi;rw[strLen_append];lia
 unfold fB xn;exact N6 hv ⟨Cy i,.int hi,Cy i,rfl,fits e hz,h e⟩
section
variable{X:Cx}
theorem N7{t:TT}{ta tb:TE}(h:t Z H fun c H1=>if c=true then ta Z H1 Q else tb Z H1 Q):tIf t ta tb Z H Q:=h
noncomputable def ADT(K:Fr):List V->Hp->VK->Prop:=fun xs H Q=>∃(p:Addr) (ns:List Int),xs=[.ref p]/\SqL K H p (ns.map V.int)/\Q (.int ns.sum) H
theorem Mv(hc:X.calm=true):Hq X (.builtin "sum") (ADT X.K):=by
 intro pins s Z H xs us Q I r h;obtain⟨p,ns,rfl,hq,q⟩:=h;obtain⟨u,rfl,ru⟩:=vals1 r;cases (show u=Value.ref p from ru);obtain⟨its,rv,pl,_⟩:=I.list hq;have hi:=intsAre_of rv;obtain⟨xs,hx⟩:=hi.allInts.items;have hl':s.heap.IsList p (intItems xs):=hx ▸ pl.isList;refine sum_intListG (I.ok.hd hc) hl' fun h' tk t' hk=>?_;have e1:ns=xs.toList.map (·.1):=by
  rw[<-nums_intItems,<-hx];exact(show numsOf its.toArray.toList=ns from hi.numsOf).symm
 have e2:preSum (numAt xs) xs.size=ns.sum:=by
  rw[preSum_eq,uk (by simp),e1]
 rw[e2];exact⟨.int ns.sum,H,I.kept hk,⟨_,rfl⟩,q⟩
noncomputable def ABt(K:Fr):List V->Hp->VK->Prop:=fun xs H Q=>∃(p:Addr) (ns:List Int),xs=[.ref p]/\SqL K H p (ns.map V.int)/\ns≠[]/\∀m,m∈ns->(∀a∈ns,m<=a)->Q (.int m) H
noncomputable def ABu(K:Fr):List V->Hp->VK->Prop:=fun xs H Q=>∃(p:Addr) (ns:List Int),xs=[.ref p]/\SqL K H p (ns.map V.int)/\ns≠[]/\∀m,m∈ns->(∀a∈ns,a<=m)->Q (.int m) H
theorem je(hc:X.calm=true):Hq X (.builtin "min") (ABt X.K):=by
 intro pins s Z H xs us Q I r h;obtain⟨p,ns,rfl,hq,hne,q⟩:=h;obtain⟨u,rfl,ru⟩:=vals1 r;cases (show u=Value.ref p from ru);obtain⟨its,rv,pl,_⟩:=I.list hq;have hi:=intsAre_of rv;obtain⟨xs,e⟩:=hi.allInts.items;have hns:ns=xs.toList.map (·.1):=by
  rw[<-nums_intItems,<-e];exact(show numsOf its.toArray.toList=ns from hi.numsOf).symm
 have hsz:0<xs.size:=by
  have h3:=List.length_pos_iff.mpr hne;rw[hns,js,ko] at h3;exact h3
 have hl':s.heap.IsList p (intItems xs):=e ▸ pl.isList;refine min_intList (I.ok.hd hc) hl' hsz fun v h' tk hv hk=>?_;obtain⟨t,rfl⟩:=intItems_at hv;obtain⟨h1,h2⟩:=argBest_lt (numAt xs) (xs.size-1);refine⟨.int _,H,I.kept hk,⟨_,rfl⟩,q _ ?_ fun a ha=>?_⟩
 ·rw[hns,numAt_eq];exact getD_mem (by rw[js,ko];lia)
 ·rw[hns] at ha;obtain⟨j,hj,rfl⟩:=mem_getD ha;rw[js,ko] at hj;rw[<-numAt_eq];exact h2 j (by lia)
theorem jf(hc:X.calm=true):Hq X (.builtin "max") (ABu X.K):=by
 intro pins s Z H xs us Q I r h;obtain⟨p,ns,rfl,hq,hne,q⟩:=h;obtain⟨u,rfl,ru⟩:=vals1 r;cases (show u=Value.ref p from ru);obtain⟨its,rv,pl,_⟩:=I.list hq;have hi:=intsAre_of rv;obtain⟨xs,e⟩:=hi.allInts.items;have hns:ns=xs.toList.map (·.1):=by
  rw[<-nums_intItems,<-e];exact(show numsOf its.toArray.toList=ns from hi.numsOf).symm
 have hsz:0<xs.size:=by
  have h3:=List.length_pos_iff.mpr hne;rw[hns,js,ko] at h3;exact h3
 have hl':s.heap.IsList p (intItems xs):=e ▸ pl.isList;refine max_intList (I.ok.hd hc) hl' hsz fun v h' tk hv hk=>?_;obtain⟨t,rfl⟩:=intItems_at hv;obtain⟨h1,h2⟩:=argBest_gt (numAt xs) (xs.size-1);refine⟨.int _,H,I.kept hk,⟨_,rfl⟩,q _ ?_ fun a ha=>?_⟩
 ·rw[hns,numAt_eq];exact getD_mem (by rw[js,ko];lia)
 ·rw[hns] at ha;obtain⟨j,hj,rfl⟩:=mem_getD ha;rw[js,ko] at hj;rw[<-numAt_eq];exact h2 j (by lia)
end
section
variable{X:Cx}{M:List Str}{x:Str}{scope:Scope}{cl:List (Str×Addr)}{C:Addr}{s₀:Shared}{H₀:Hp}{fp:List Addr}
theorem jF:IxR (La X M x scope cl C s₀ H₀ fp) (uF X.K):=FZ
theorem G7:IxR (La X M x scope cl C s₀ H₀ fp) (uE X.K):=LQ
end
section
variable{X:Cx}{tg:Expr}
noncomputable def AAH(ta:TA):TI:=fun Z H R=>ta Z H fun vs H1=>∃i j:Int,vs=[.int i,.int j]/\R (Itr i (j-i).toNat) H1
theorem mU{R:It->Hp->Prop}(h:ta Z H fun vs H1=>∃i j:Int,vs=[.int i,.int j]/\R (Itr i (j-i).toNat) H1):AAH ta Z H R:=h
end
section
variable{X:Cx}
noncomputable def wj:V->List V->Hp->VK->Prop:=fun x vs H Q=>∃n:Int,x=.int n/\vs=[]/\Q (.int ((Builtin.Int.intBits n:Nat):Int)) H
theorem XN:MtR X "int.bit_length" wj:=by
 intro pins s Z H x vs v us Q I rx rv h;obtain⟨n,rfl,rfl,q⟩:=h;obtain⟨t,rfl⟩:=rx;cases rv.zero;exact call_int_bit_length ⟨.int _,H,I.tok _,⟨_,rfl⟩,q⟩
end
theorem mj{n:Int}(h:Q (.int ((Builtin.Int.intBits n:Nat):Int)) H):tyV K "int" (.int n) H/\wj (.int n) [] H Q:=⟨rfl,n,rfl,rfl,h⟩
theorem Js{T:String}{r:V->List V->Hp->VK->Prop}{to:TE}{t:TA}(h:to Z H fun x H1=>tyV K T x H1/\t Z H1 fun xs H2=>r x xs H2 Q):tBM K T r to t Z H Q:=h
theorem OD{i:Nat}{t:TA}{l:Addr}(e:Z[i]?=some (some (.ref l)))(h:H l=some (.lst xs))
 (g:t Z H fun ys H2=>Qx (.ref l) ys H2 Q):tBM K "list" Qx (Lh i) t Z H Q:=by unfold tBM;exact N6 e ⟨.inl ⟨rfl,_,SqL.of h⟩,g⟩
theorem J3{b:Nat}(h:b≠0):Builtin.Int.intBits (b:Int)=b.log2+1:=by
 unfold Builtin.Int.intBits;rw[xk (by simp;lia),Int.natAbs_natCast]
theorem cM{b:Nat}(h:b≠0):Builtin.bitAnd (b:Int) (-(b:Int))=(b:Int)-((b &&& (b-1):Nat):Int):=by
 unfold Builtin.bitAnd;rw[decide_eq_true (jl0 b),decide_eq_false (by lia)];show(b:Int)-(((b:Int).toNat &&& (Builtin.bitNot (-(b:Int))).toNat:Nat):Int)=_;unfold Builtin.bitNot;rw[xp,show(-(-(b:Int))-1).toNat=b-1 by lia]
theorem ut{m k:Nat}(h:k<m):ixN m (k:Int)=some k:=by
 unfold ixN;rw[xh (by lia),xh (by lia),xp]
theorem dY{p:Addr}{k:Nat}{v:V}{Q:Hp->Prop}(h:H p=some (.lst xs))(hk:k<xs.length)(q:Q (upd H p (.lst (xs.set k v)))):wg (.ref p) (.int (k:Int)) v H Q:=
 ⟨p,xs,k,k,rfl,rfl,h,ut hk,q⟩
theorem aY{l:Addr}{k:Int}(h:H l=some (.lst xs))(h0:0<=k)(h1:k<2^60)(hz:xs.length*k.toNat<=sizeLine)(q:∀p,H p=none->Q (.ref p) (upd H p (.lst (List.replicate k.toNat xs).flatten))):ABs (.ref l) (.int k) H Q:=
 ⟨l,k,xs,rfl,rfl,h,by lia,by lia,hz,q⟩
theorem zA{l b:Addr}{zs:List V}(h:H l=some (.lst xs))(g:H b=some (.lst zs))(hz:xs.length+zs.length<=sizeLine)(q:∀p,H p=none->Q (.ref p) (upd H p (.lst (xs++zs)))):ABv (.ref l) (.ref b) H Q:=
 ⟨l,b,xs,zs,rfl,rfl,h,g,hz,q⟩
theorem Sd{lo c:Int}{n:Nat}{g:TG}{tb:TS}{D:Ends}(Pv:Nat->St->Hp->Prop)(h0:Pv 0 Z H)
 (hs:∀i Z H,i<n->Pv i Z H->g (.int (lo+i*c)) Z H fun σ2 H2=>tb { D with nx:=Pv (i+1),ct:=Pv (i+1),bk:=D.nx } σ2 H2)(hd:∀Z H,Pv n Z H->D.nx Z H):
 ∃W:Nat->Nat->St->Hp->Prop,(∃m,W 0 m Z H)/\∀i m Z H,W i m Z H->
  ((jr lo c n).stop i H/\D.nx Z H)\/((jr lo c n).go i H/\∃N:St->Hp->Prop,(∀Z' H',N Z' H'->∃m',m'<m/\W (i+1) m' Z' H')/\∀x H',(jr lo c n).yld i H x H'->g x Z H' fun σ2 H2=>tb { D with nx:=N,ct:=N,bk:=D.nx } σ2 H2):=by
 refine⟨fun i m Z H=>m=n-i/\i<=n/\Pv i Z H,⟨n,by simp,ve _,h0⟩,?_⟩;rintro i m Z H ⟨rfl,hi,p⟩;by_cases hlt:i<n
 ·refine .inr ⟨hlt,Pv (i+1),fun Z' H' p'=>⟨n-(i+1),by lia,rfl,hlt,p'⟩,fun x H' y=>?_⟩;obtain⟨e,y⟩:=y;subst e y;exact hs i Z _ hlt p
 ·have e:i=n:=by lia
  subst e;exact .inl ⟨ze _,hd Z H p⟩
theorem JD{i j c:Int}(c0:0<c):Builtin.Range.rangeSize i j c=if i<j then (j-i-1)/c+1 else 0:=by
 unfold Builtin.Range.rangeSize;rw[xh c0]
noncomputable def wH(ta:TE):TT:=fun Z H Q=>ta Z H fun x H'=>∃i:Int,x=.int i/\Q (i != 0) H'
theorem tY{i:Int}{Q:Bool->Hp->Prop}(h:Q (i != 0) H):∃j:Int,V.int i=.int j/\Q (j != 0) H:=⟨i,rfl,h⟩
theorem zJ{X:Cx}{a:Expr}{ta:TE}(ha:PE X a ta)(he:∀whole,isTrue a X.env whole=(do let v <-whole;standAt a.pos;holding [v] (truthy v))):PT X a (wH ta):=by
 intro pins s Z H Q I h;refine isTrue_plain (thn (ha s Z H _ I h) fun v s1 hZ=>?_) (he _);obtain⟨x,H1,I1,r1,q1⟩:=hZ;obtain⟨i,rfl,q⟩:=q1;exact xf pins s1 Z H1 _ v Q I1 r1 ⟨_,rfl,q⟩
section
variable{X:Cx}{M:List Str}{x:Str}{scope:Scope}{cl:List (Str×Addr)}{C:Addr}{s₀:Shared}{H₀:Hp}{fp:List Addr}
theorem S7:Hq (La X M x scope cl C s₀ H₀ fp) (.builtin "len") (fun xs H Q=>∃p ys,xs=[.ref p]/\(SqL X.K H p ys\/SqT X.K H p ys)/\Q (.int ys.length) H):=Bj
end
theorem AAj{xs:List Int}{k:Nat}{x:Int}(h:xs[k]?=some x):(xs.map V.int)[k]?=some (V.int x):=by rw[xo,h];rfl
theorem GP{a:Addr}{lo hi:Option Int}(h:SqL K H a xs)(q:∀p,H p=none->Q (.ref p) (upd H p (.lst (HW xs lo hi)))):ABr K (.ref a) lo hi H Q:=⟨a,xs,rfl,h,q⟩
theorem jY(xs:List Int)(k:Nat):HW (xs.map V.int) (some (k:Int)) none=(xs.drop k).map V.int:=by
 unfold HW;rw[HT.sIx_nat,HT.sIx_none,js,List.map_drop];by_cases h:k<=xs.length
 ·rw[jl6 h,uk (by rw[jb0,js];lia)]
 ·rw[Nat.min_eq_right (by lia),uj (by rw[js];lia),uj (by rw[js];lia),List.take_nil]
theorem yz{i:Int}{P:Int->Prop}(h:P i):∃j,V.int i=.int j/\P j:=⟨i,rfl,h⟩
section
variable{X:Cx}
noncomputable def tLR(ta:TA):TE:=fun Z H Q=>ta Z H fun vs H1=>∃(i j c:Int) (n:Nat),(vs=[.int i,.int j,.int c]\/(vs=[.int i,.int j]/\c=1))/\0<c/\c<1073741824/\Builtin.Range.small i j c=true/\Builtin.Range.rangeSize i j c=(n:Int)/\n<=1000000/\
 ∀l,H1 l=none->Q (.ref l) (upd H1 l (.lst ((List.range n).map fun(k:Nat)=>V.int (i+(k:Int)*c))))
theorem HY{lo c:Int}:∀(acc:List Value) (k:Nat),(∀(j:Nat) (v:Value),acc[j]?=some v->∃t,v=.int (lo+((k+j:Nat):Int)*c) t)->Vals ((List.range' k acc.length).map fun(i:Nat)=>V.int (lo+(i:Int)*c)) acc
 | [],k,_=>.nil
 | v::acc,k,h=>by
  rw[qo,List.range'_succ,zn];refine .cons ?_ (HY acc (k+1) fun j u hu=>?_)
  ·obtain⟨t,ht⟩:=h 0 v (by simp);exact⟨t,by rw[ht];simp⟩
  ·obtain⟨t,ht⟩:=h (j+1) u (by simpa using hu);exact⟨t,by rw[ht,show k+(j+1)=k+1+j by lia]⟩
theorem Ks{pins:List (Addr×Obj)}{s:Shared}{r:Addr}{i j c:Int}{t u v:Tok}{n:Nat}(hc:X.calm=true)(I:Inv X pins Z H s)(hr:IsRange s.heap r i j c t u v)(sm:Builtin.Range.small i j c=true)(hn:Builtin.Range.rangeSize i j c=(n:Int))(hz:n<=1000000)
 (q:∀l,H l=none->Q (.ref l) (upd H l (.lst ((List.range n).map fun(k:Nat)=>V.int (i+(k:Int)*c))))):wpAny (model X.prog X.w) X.A (call (.type "list") [.ref r]) (EP X pins Z Q) X.xe s:=by
 refine call_list_range (I.ok.hd hc) hr sm hn (by lia) fun h' tk acc' c' hk hS' hacc=>?_;have ha:acc'.toList.length=n:=by simpa using hacc.1
 refine⟨.ref _,_,I.laid (a:=s.heap.objs.size) (o:=.lst ((List.range n).map fun(k:Nat)=>V.int (i+(k:Int)*c))) hk (ze _) ⟨?_,acc'.toList,c',?_,by simpa using hS'⟩,rfl,q _ I.fresh⟩
 ·rw[js,Qb,sizeLine_eq];lia
 ·have:=HY (lo:=i) (c:=c) acc'.toList 0 fun j v hv=>by rw[jn6];exact hacc.2 j v (by simpa using hv)
  rw[ha,<-List.range_eq_range'] at this;exact this
theorem au{a b d:Expr}{p p2 pos2:Pos}(hc:X.calm=true)(hgl:Gl X "list")(hml:X.mg "list"=none)(hgr:Gl X "range")(hmr:X.mg "range"=none)(ha:PA X [a,b,d] ta)
 (hs:starEach [a,b,d] X.env=(false,eval a X.env)::starEach [b,d] X.env:=by rfl)(hpl:(backTo pos2 (starEach [b,d] X.env)).any (·.1)=false:=by rfl)
 (hs1:starEach [.Call (.Name "range" p2) [a,b,d] [] pos2] X.env=(false,eval (.Call (.Name "range" p2) [a,b,d] [] pos2) X.env)::starEach [] X.env:=by rfl):
 PE X (.Call (.Name "list" p) [.Call (.Name "range" p2) [a,b,d] [] pos2] [] pos) (tLR ta):=by
 intro pins s Z H Q I h;refine jb8 (Hl I hgl hml boot_list ?_ (by decide) (by decide));refine vc ?_ hs1 rfl;rw[hs1];show wpAny _ _ (spliced ((false,eval _ X.env)::backTo pos (starEach [] X.env))) _ _ s;refine Calls.spliced_cons ?_;refine Call_ (Hl I hgr hmr boot_range (vc (thn (ha (pos:=pos2) pins s Z H _ I h) fun us s1 hZ=>?_) hs hpl));obtain⟨vs,H1,I1,r1,q1⟩:=hZ;obtain⟨i,j,c,n,e,c0,c1,sm,hn,hz,q⟩:=q1;rcases e with e | ⟨e,rfl⟩
 ·subst e;cases r1 with
  | cons r rr=>
   cases rr with
   | cons r' rr=>
    cases rr with
    | cons r'' rr=>
     cases rr;obtain⟨t,rfl⟩:=r;obtain⟨t',rfl⟩:=r';obtain⟨t'',rfl⟩:=r'';refine PySem.call_range_3 (by lia) ?_ (Or.inl (PyProof.noPylong_small (by lia)));refine Calls.spliced_nil ?_;have I2:Inv X pins Z H1 { s1 with heap:=s1.heap.push { cls:=.type "range",data:=.fields #[.int i t,.int j t',.int c t''] },toks:=s1.toks }:=I1.kept fun b o e=>jv _ e;exact Ks hc I2 (IsRange.new ..) sm hn hz q
 ·subst e;cases r1 with
  | cons r rr=>
   cases rr with
   | cons r' rr=>
    cases rr;obtain⟨t,rfl⟩:=r;obtain⟨t',rfl⟩:=r';refine call_range_2 ?_;refine Calls.spliced_nil ?_;have I2:Inv X pins Z H1 { s1 with heap:=s1.heap.push { cls:=.type "range",data:=.fields #[.int i t,.int j t',.int 1 s1.toks] },toks:=s1.toks+1 }:=I1.kept fun b o e=>jv _ e;exact Ks hc I2 (IsRange.new ..) sm hn hz q
end
theorem Mu{J:It}{ok:Hp->Prop}(Wk:Walk J ok xs)(hz:xs.length<sizeLine)(Pv:Addr->Nat->List V->Hp->Prop)
 (h0:∀D,H D=none->Pv D 0 [] (upd H D (.lst [])))
 (hD:∀D i ys H2,H D=none->Pv D i ys H2->H2 D=some (.lst ys)/\ys.length<=i/\ok H2)
 (hs:∀D i x ys H2,H D=none->xs[i]?=some x->Pv D i ys H2->tt (some x::Z) H2 fun b H4=>if b=true then te (some x::Z) H4 fun y H5=>H5 D=some (.lst ys)/\Pv D (i+1) (ys++[y]) (upd H5 D (.lst (ys++[y]))) else Pv D (i+1) ys H4)
 (h:∀D ys H2,H D=none->Pv D xs.length ys H2->Q (.ref D) H2):gH tt te Z Q J H:=by
 intro D hD0;refine⟨fun i m ys H2=>i<=xs.length/\m=xs.length-i/\Pv D i ys H2,⟨_,ve _,rfl,h0 D hD0⟩,?_⟩;rintro i m ys H2 ⟨hi,rfl,p⟩;obtain⟨d1,d2,d3⟩:=hD D i ys H2 hD0 p;refine⟨d1,?_⟩;by_cases hlt:i<xs.length
 ·refine .inr ⟨Wk.go i _ d3 hlt,by lia,xs.length-(i+1),by lia,fun x H3 hy=>?_⟩;obtain⟨e3,ex⟩:=Wk.yld i _ x H3 d3 hy hlt;subst e3;have:=hs D i x ys H3 hD0 ex p;refine cast ?_ this
  congr 1
  funext b H4
  cases b with
  | false=>simp only[Bool.false_eq_true,if_false];exact propext ⟨fun z=>⟨hlt,trivial,z⟩,fun z=>z.2.2⟩
  | true=>
   simp only[if_true]
   congr 1
   funext y H5
   exact propext ⟨fun z=>⟨z.1,hlt,trivial,z.2⟩,fun z=>⟨z.1,z.2.2.2⟩⟩
 ·have e:i=xs.length:=by lia
  subst e;exact .inl ⟨Wk.stop _ _ d3 (ze _),h D ys H2 hD0 p⟩
section
variable{X:Cx}
end
theorem Yu{k:Nat}{wi:TI}{g:TG}(h:wi Z H (UT k g tt te Z Q)):lC k wi g tt te Z H Q:=h
section
variable{X:Cx}{M xs:List Str}{scope:Scope}{cl:List (Str×Addr)}{C:Addr}{s₀:Shared}{H₀:Hp}{fp:List Addr}
theorem Yw{es:List Expr}{k:Nat}{t:TGs}{n:Nat}(hc:X.calm=true)(h:PGs (Cw X M xs scope cl C s₀ H₀ fp) es t)
 (hn:(assignEach es (Cw X M xs scope cl C s₀ H₀ fp).env).length=n:=by rfl)(hst:(assignEach es (Cw X M xs scope cl C s₀ H₀ fp).env).findIdx? (·.1)=none:=by rfl):PG (Cw X M xs scope cl C s₀ H₀ fp) (.Tuple es k pos) (pA X.K n t):=
 Oa hc h hn hst
end
structure KZ(K:Fr)(x qual:Str)(st:Stmt)(f:Addr)(fd:FuncData)(ds:Array Value):Prop where
 ex:∃(oc:Value) (od:Option Addr) (T:Addr) (to:Obj) (tn:Nat) (kV doc pm:Value) (an:Option Addr) (cdv ct:Value) (osl:Array (Option Value)),
  fd=PySem.W.fnOf x qual (Ey st) (DQ st) (BP st) (.ref T) kV doc pm an cdv ct/\K.lookup f=some ⟨oc,od,.func fd,osl⟩/\PySem.W.codeIn K cdv qual=true/\K.lookup T=some to/\to.data=.seq ds tn
 kp:PySem.W.keepIn K (.ref f)=true
section
variable{P:Program}{w:World}{K:Fr}{mg:Str->Option Value}{base:Heap}{x qual:Str}{st:Stmt}{f:Addr}{fd:FuncData}{N ps:List Str}{k:Nat}{sp:Sp}{ds:Array Value}
theorem KZ.ok(F:KZ K x qual st f fd ds)(S:Cu N ps (BP st))(len:∀{vs H Q E},sp vs H Q E->vs.length=ps.length)
 (hbody:∀{cdv:Value} {A:Around} {outer:List Env} {s:Shared} (nd:N.Nodup) (H:Hp) (vs:List V) (Q:VK) (E:XK),Ec k (A.deeper (envOfC qual (BP st) s.heap.objs.size f cdv))->sp vs H Q E->
  ∃t,PSs (Ux CX0 P w K mg base N qual (BP st) f cdv A outer s H E).nox (DQ st) t/\t { nx:=fun _ H'=>Q .non H',rt:=Q } (start N vs) H):Es P w K mg base CX0 (k+1) f fd ps sp:=by
 obtain⟨oc,od,T,to,tn,kV,doc,pm,an,cdv,ct,osl,rfl,lk,hcd,_⟩:=F.ex;refine xK lk hcd S (fun _ _ _ _=>len) fun A outer s H vs Q E hr hsp=>?_;obtain⟨t,h,q⟩:=hbody S.nd H vs Q E hr hsp;exact⟨t,h.nox,q⟩
theorem KZ.bindsD{dv:List Value}(n:Nat)(hn:n+dv.length=ps.length)(F:KZ K x qual st f fd ds)
 (h:∀(T:Addr) (kV doc pm:Value) (an:Option Addr) (cdv ct:Value) (us:List Value),us.length=n->
  ∃k:Option (Array Value)->Sem (List (Str×Value)),bindArgs (PySem.W.fnOf x qual (Ey st) (DQ st) (BP st) (.ref T) kV doc pm an cdv ct) ⟨us,[]⟩=seqItems? (.ref T) >>= k/\k (some ds)=pure (ps.zip (us++dv))):Binds K fd ps dv:=by
 obtain⟨oc,od,T,to,tn,kV,doc,pm,an,cdv,ct,osl,rfl,lk,hcd,ht,hs⟩:=F.ex;intro s us KX hl;obtain⟨k,h1,h2⟩:=h T kV doc pm an cdv ct us (by rw[zk] at hl;lia);exact PySem.W.binds_K KX rfl ht hs h1 h2
theorem Xg{oc:Value}{od an:Option Addr}{osl:Array (Option Value)}{kV doc pm cdv ct:Value}{T:Addr}{to:Obj}{tn:Nat}(l:K.lookup f=some ⟨oc,od,.func (PySem.W.fnOf x qual (Ey st) (DQ st) (BP st) (.ref T) kV doc pm an cdv ct),osl⟩)
 (c:PySem.W.codeIn K cdv qual=true)(k:PySem.W.keepIn K (.ref f)=true)(t:K.lookup T=some to)(d:to.data=.seq ds tn):KZ K x qual st f (PySem.W.fnOf x qual (Ey st) (DQ st) (BP st) (.ref T) kV doc pm an cdv ct) ds:=
 ⟨⟨oc,od,T,to,tn,kV,doc,pm,an,cdv,ct,osl,rfl,l,c,t,d⟩,k⟩
end
structure Bu(P:Program)(w:World)(K:Fr)(mg:Str->Option Value)(base:Heap)(CX:CXT)(k:Nat)(x:Str)(ps:List Str)(dvs:List V)(sp:Sp):Prop where
 ex:∃(f:Addr) (fd:FuncData) (ds:List Value),Es P w K mg base CX k f fd ps sp/\Binds K fd ps ds/\Vals dvs ds/\PySem.W.keepIn K (.ref f)=true/\mg x=some (.ref f)
structure qe(P:Program)(w:World)(K:Fr)(mg:Str->Option Value)(base:Heap)(CX:CXT)(k:Nat)(x:Str)(C:Addr)(ps:List Str)(dvs:List V)(sp:Sp):Prop where
 ex:∃(f:Addr) (fd:FuncData) (ds:List Value),Es P w K mg base CX k f fd ps sp/\Binds K fd ps ds/\Vals dvs ds/\Mk K C f/\mg x=some (.ref C)
section
variable{X:Cx}{EE:Value->Option Addr->St->Hp->Prop}{C:Addr}{m x:Str}{k:Nat}{ps:List Str}{dvs:List V}{sp:Sp}{o e:Expr}{es:List Expr}{ta:TE}{t:TA}{apos pos p:Pos}
theorem zO(O:qe X.prog X.w X.K X.mg X.base CX0 k x C ps dvs sp)(hr:Ec (k+1) X.A)(hg:Gl X x)(ha:PA X (e::es) t)
 (hdb:(x==("__debug__":Str))=false:=by decide)(he:starEach (e::es) X.env=(false,eval e X.env)::starEach es X.env:=by rfl)(hpl:(backTo pos (starEach es X.env)).any (·.1)=false:=by rfl):
 PE X (.Call (.Name x p) (e::es) [] pos) (VB C sp dvs E0 t):=by
 obtain⟨f,fd,ds,F,hb,hv,M,hm⟩:=O.ex;exact dw M F hr hg hm hb hv Ma ha hdb he hpl
end
section
variable{X:Cx}
noncomputable def zF(K:Fr):R2:=fun x y H Q=>∃(a b:Addr) (xs:List V),x=.ref a/\y=.ref b/\SqL K H a xs/\SqL K H b []/\Q (.bl xs.isEmpty) H
theorem nZ(hu:X.A.units+64<cLine):OpR X (compareOp .Eq) (zF X.K):=by
 intro pins s Z H x y v u Q I rx ry h;obtain⟨a,b,xs,rfl,rfl,ha,hb,q⟩:=h;cases rx;cases ry;obtain⟨its,r,pl,_⟩:=I.list ha;obtain⟨its',r',pl',_⟩:=I.list hb;cases xs with
 | nil=>exact PySem.W.ke_eq_ints (ns:=[]) (ms:=[]) pl.isList pl'.isList (intsAre_of (ns:=[]) r) (intsAre_of (ns:=[]) r') hu ⟨.bl _,H,I,rfl,q⟩
 | cons x xs=>
  refine SeqAt.RcAt.lists_lengths pl.isList pl'.isList ?_ (by lia) _ _ _ _ ⟨.bl _,H,I,rfl,q⟩;have l1:=r.length;have l2:=r'.length;rw[qo] at l1;rw[jg3] at l2;simp[<-l1,<-l2]
end
section
variable{X:Cx}{pins:List (Addr×Obj)}{Z:St}{H:Hp}{s:Shared}
end
structure Hu(P:Program)(w:World)(K:Fr)(mg:Str->Option Value)(base:Heap)(CX:CXT)(k:Nat)(m:Str)(ps:List Str)(L:List (Addr×Sp)):Prop where
 ex:∀p∈L,Cls K p.1/\∃(f:Addr) (fd:FuncData),Es P w K mg base CX k f fd ps p.2/\Binds K fd ps []/\Meth K p.1 m f
theorem Hu.nil{P:Program}{w:World}{mg:Str->Option Value}{base:Heap}{CX:CXT}{k:Nat}{m:Str}{ps:List Str}:Hu P w K mg base CX k m ps []:=⟨fun p hp=>(nomatch hp)⟩
theorem Es.up{P:Program}{w:World}{mg:Str->Option Value}{base:Heap}{CX:CXT}{k j:Nat}{f:Addr}{fd:FuncData}{ps:List Str}(F:Es P w K mg base CX k f fd ps sp)(h:k<=j):Es P w K mg base CX j f fd ps sp:=
 ⟨F.len,fun A outer s H args us vs Q E hr e0 hb r hs=>F.run A outer s H args us vs Q E (hr.mono h) e0 hb r hs⟩
theorem Hu.cons{P:Program}{w:World}{mg:Str->Option Value}{base:Heap}{CX:CXT}{k j:Nat}{m:Str}{ps:List Str}{C:Addr}{L:List (Addr×Sp)}(c:Cls K C)(O:ju P w K mg base CX j C m ps sp)(h:j<=k)(r:Hu P w K mg base CX k m ps L):Hu P w K mg base CX k m ps ((C,sp)::L):=by
 refine⟨fun p hp=>?_⟩;rcases qq.mp hp with e | e
 ·subst e;obtain⟨f,fd,F,hb,M⟩:=O.ex;exact⟨c,f,fd,F.up h,hb,M⟩
 ·exact r.ex p e
noncomputable def Z9(L:List (Addr×Sp))(m:Str)(ta:TE)(t:TA):TE:=fun Z H Q=>ta Z H fun x H1=>∃a C dx fs sp,(C,sp)∈L/\x=.ref a/\H1 a=some (.ins C dx fs)/\fs.lookup m=none/\
 t Z H1 fun vs H2=>sp (x::(vs++[])) H2 Q E0
section
variable{X:Cx}{EE:Value->Option Addr->St->Hp->Prop}{L:List (Addr×Sp)}{m:Str}{k:Nat}{ps:List Str}{o e:Expr}{es:List Expr}{ta:TE}{t:TA}{apos pos:Pos}
theorem Ru{pl:Sem Bool}(O:Hu X.prog X.w X.K X.mg X.base CX0 k m ps L)(hr:Ec k X.A)(he:PE X o ta)(ha:PA X (e::es) t)
 (hst:starEach (e::es) X.env=(false,eval e X.env)::starEach es X.env:=by rfl)(hpl:(backTo pos (starEach es X.env)).any (·.1)=false:=by rfl)
 (ht:eval (.Call (.Attribute o m apos) (e::es) [] pos) X.env=(do
  let ov <-eval o X.env
  standAt apos.atName
  let (f,first) <-holding [ov] (getMethod ov m pl)
  callWith pos f first (backTo pos (starEach (e::es) X.env)) (backToKw pos (keywordEach [] X.env))):=by rfl):
 PE X (.Call (.Attribute o m apos) (e::es) [] pos) (Z9 L m ta t):=by
 intro pins s Z H Q I h;refine jf2 (pl:=pl) (thn (he s Z H _ I h) fun u s1 hZ=>?_) ht;obtain⟨x,H1,I1,rx,a,C,dx,fs,sp,mem,ex,ea,l,q⟩:=hZ;subst ex;obtain rfl:u=Value.ref a:=rx;obtain⟨c,f,fd,F,hb,hm⟩:=O.ex _ mem;refine JP I1 ea c hm l ?_;refine jd2 (first:=[.ref a]) (h₀:=X.base) I.ok.mod.kin hm.kp (thn (ha (pos:=pos) pins s1 Z H1 _ I1 q) fun us s2 ⟨vs,H2,I2,r,q2⟩=>⟨I2.kIn,?_⟩) hst hpl
 exact N5 (us:=.ref a::us) (vs:=.ref a::vs) F hr hb .nil Ma I2 (.cons rfl r) q2
theorem Bv{pl:Sem Bool}(O:Hu X.prog X.w X.K X.mg X.base CX0 k m ps L)(he:PE X o ta)(hr:Ec k X.A:=by walk_at"hr")
 (ht:eval (.Call (.Attribute o m apos) [] [] pos) X.env=(do
  let ov <-eval o X.env
  standAt apos.atName
  let (f,first) <-holding [ov] (getMethod ov m pl)
  callWith pos f first (backTo pos (starEach [] X.env)) (backToKw pos (keywordEach [] X.env))):=by rfl):
 PE X (.Call (.Attribute o m apos) [] [] pos) (Z9 L m ta YG):=by
 intro pins s Z H Q I h;refine jf2 (pl:=pl) (thn (he s Z H _ I h) fun u s1 hZ=>?_) ht;obtain⟨x,H1,I1,rx,a,C,dx,fs,sp,mem,ex,ea,l,q⟩:=hZ;subst ex;obtain rfl:u=Value.ref a:=rx;obtain⟨c,f,fd,F,hb,hm⟩:=O.ex _ mem;refine JP I1 ea c hm l ?_;exact jp3 (first:=[.ref a]) I1.kIn hm.kp (N5 (us:=[.ref a]) (vs:=[.ref a]) F hr hb .nil Ma I1 (.cons rfl .nil) q)
end
theorem ADa{α:Type}{us:List α}(h:us.length=1):∃a0,us=[a0]:=by
 match us,h with
 | [a0],_=>exact⟨a0,rfl⟩
theorem ADZ{α:Type}{us:List α}(h:us.length=2):∃a0 a1,us=[a0,a1]:=by
 match us,h with
 | [a0,a1],_=>exact⟨a0,a1,rfl⟩
theorem za{α:Type}{us:List α}(h:us.length=3):∃a0 a1 a2,us=[a0,a1,a2]:=by
 match us,h with
 | [a0,a1,a2],_=>exact⟨a0,a1,a2,rfl⟩
theorem ACS{α:Type}{us:List α}(h:us.length=4):∃a0 a1 a2 a3,us=[a0,a1,a2,a3]:=by
 match us,h with
 | [a0,a1,a2,a3],_=>exact⟨a0,a1,a2,a3,rfl⟩
theorem zZ{α:Type}{us:List α}(h:us.length=5):∃a0 a1 a2 a3 a4,us=[a0,a1,a2,a3,a4]:=by
 match us,h with
 | [a0,a1,a2,a3,a4],_=>exact⟨a0,a1,a2,a3,a4,rfl⟩
theorem ADY{α:Type}{us:List α}(h:us.length=6):∃a0 a1 a2 a3 a4 a5,us=[a0,a1,a2,a3,a4,a5]:=by
 match us,h with
 | [a0,a1,a2,a3,a4,a5],_=>exact⟨a0,a1,a2,a3,a4,a5,rfl⟩
theorem ACR{α:Type}{us:List α}(h:us.length=7):∃a0 a1 a2 a3 a4 a5 a6,us=[a0,a1,a2,a3,a4,a5,a6]:=by
 match us,h with
 | [a0,a1,a2,a3,a4,a5,a6],_=>exact⟨a0,a1,a2,a3,a4,a5,a6,rfl⟩
theorem ADX{α:Type}{us:List α}(h:us.length=8):∃a0 a1 a2 a3 a4 a5 a6 a7,us=[a0,a1,a2,a3,a4,a5,a6,a7]:=by
 match us,h with
 | [a0,a1,a2,a3,a4,a5,a6,a7],_=>exact⟨a0,a1,a2,a3,a4,a5,a6,a7,rfl⟩
section
variable{X:Cx}
end
section
variable{X:Cx}
end
theorem pP(xs:List V)(k:Nat):HW xs none (some (k:Int))=xs.take k:=by
 unfold HW;rw[HT.sIx_none,HT.sIx_nat,jj6,Nat.sub_zero];by_cases h:k<=xs.length
 ·rw[jl6 h]
 ·rw[Nat.min_eq_right (by lia),uk (ze _),uk (by lia)]
section
variable{X:Cx}
end
section
variable{X:Cx}
end
noncomputable def VG(c:Nat):V:=.str ⟨#[c]⟩
noncomputable def Its(z:Str):It:=⟨fun i _=>i<z.cps.size,fun i H x H'=>H'=H/\∃c,z.cps[i]?=some c/\x=VG c,fun i _=>z.cps.size<=i⟩
theorem kZ{P:Program}{w:World}{tg:Expr}(z:Str)(t:Tok)(it:Addr):Turn P w K tg (Its z) [it] it (fun i h=>h.IsStrIter it "str_ascii_iterator" z t i) where
 mem:=by simp
 obj:=fun i h st b hb=>by
  have e:b=it:=by simpa using hb
  subst e;obtain⟨o,e,c,d⟩:=st;exact⟨o,e,fun v z=>by rw[d] at z;cases z⟩
 keep:=fun i h h' st k=>by
  obtain⟨o,e,r⟩:=st;exact⟨o,k it (by simp) o e,r⟩
 item:=by
  intro X hP hw hK hc i pins s Z H E I hf st hg;subst hP hw hK;have hg':i<z.cps.size:=hg;obtain⟨f0,f1,f2,f3,f4,f5⟩:=hf it (by simp);refine wpAny_pyNext_ascii_item st (c:=z.cps[i]) (by simp[hg']) fun h' st' sb=>?_;have I1:Inv X pins Z H { s with heap:=h',toks:=s.toks+1 }:=I.turned (t':=s.toks+1) (fun b o hb e=>(sb.2 b hb).trans e) f0 f1 f3 f4 f5;obtain⟨o,e,c,d⟩:=id st';exact⟨_,rfl,ZG (s:={ s with heap:=h',toks:=s.toks+1 }) e c d (by decide) ⟨VG z.cps[i],H,I1,⟨_,rfl⟩,⟨rfl,_,by simp[hg'],rfl⟩,st',fun b hb=>(hf b hb).1⟩⟩
 done:=by
  intro X hP hw hK hc i pins s Z H E I hf st hg;subst hP hw hK;have hg':z.cps.size<=i:=hg;obtain⟨f0,f1,f2,f3,f4,f5⟩:=hf it (by simp);exact wpAny_pyNext_ascii_end (I.ok.hd hc) st (by simp[hg']) fun h' eb=>⟨rfl,I.turned (t':=s.toks) (fun b o hb e=>eb b o hb e) f0 f1 f3 f4 f5⟩
 self:=fun _ _ _ _ _ st h=>wpAny_pyIter_striter_ascii st h
noncomputable def asc(z:Str):Bool:=z.cps.all (· <128)
noncomputable def ACZ(tl:TE):TI:=fun Z H R=>tl Z H fun x H1=>∃z,x=.str z/\asc z=true/\R (Its z) H1
section
variable{X:Cx}{tg:Expr}
theorem m8{l:Expr}{tl:TE}(hl:PE X l tl):PI X tg l (ACZ tl):=by
 intro pins s Z H R I h;refine thn (hl s Z H _ I h) fun v s1 hZ=>?_;obtain⟨x,H1,I1,r1,q1⟩:=hZ;obtain⟨z,e,ha,q⟩:=q1;subst e;obtain⟨t,rfl⟩:=(show ∃t,v=Value.str z t from r1);refine wpAny_pyIter_ascii ha ?_;refine⟨s1.heap.objs.size,[s1.heap.objs.size],_,_,H1,rfl,I1.kept (t':=s1.toks) fun b o e=>jv _ e,kZ z t _,⟨_,zw _ rfl,rfl,rfl⟩,fun b hb=>?_,q⟩;have e:b=s1.heap.objs.size:=by simpa using hb
 subst e;exact I1.fpOk (ze _) (I1.hok.fresh (ze _))
noncomputable def ADU:V->Option Int->Option Int->Hp->VK->Prop:=fun x lo hi H Q=>∃z,x=.str z/\z.length<=sizeLine/\Q (.str (Txt.slice z lo hi)) H
theorem Yz{v:Value}{o:Option Int}(h:IsPart v o):∃l:Option (Int×Tok),v=partValue l/\l.map (·.1)=o:=by
 cases h with
 | none=>exact⟨none,rfl,rfl⟩
 | int i t=>exact⟨some (i,t),rfl,rfl⟩
theorem Wh:SlR X ADU:=by
 intro pins s Z H x v vl vu lo hi sl Q I rx hs pl pu h;obtain⟨z,rfl,hz,q⟩:=h;obtain⟨t,rfl⟩:=(show ∃t,v=Value.str z t from rx);obtain⟨l,rfl,rfl⟩:=Yz pl;obtain⟨u,rfl,rfl⟩:=Yz pu;refine⟨"str",_,F.slot_str_getitem.lookup,typeIs_str _ _ _,wpAny_getItem_str_slice (l:=l) (u:=u) (st:=none) hs rfl ?_⟩;refine post_val_or_str ⟨zv (Txt.slice_le z _ _) hz,fun t' k=>?_⟩;exact⟨.str _,H,I.kept (t':=k) fun b o e=>e,⟨_,rfl⟩,q⟩
theorem Uw:MtR X "str.startswith" (fun x xs H Q=>∃z y,x=.str z/\xs=[.str y]/\Q (.bl (Txt.startswith z y)) H):=by
 intro pins s Z H x xs v us Q I rx rs h;obtain⟨z,y,rfl,rfl,q⟩:=h;obtain⟨t,rfl⟩:=(show ∃t,v=Value.str z t from rx);obtain⟨u,rfl,ru⟩:=vals1 rs;obtain⟨t',rfl⟩:=(show ∃t,u=Value.str y t from ru);exact call_gives F.slot_str_startswith (typeIs_str _ _ _) F.entry_str_startswith (F.args_str_startswith_2 _ _) (gives_str_startswith z y t t') ⟨.bl _,H,I,rfl,q⟩
theorem G4:Hq X (.type "int") (fun xs H Q=>∃z n,xs=[.str z]/\z.length<=640/\PySem.intText? z=some n/\Q (.int n) H):=by
 intro pins s Z H xs us Q I r h;obtain⟨z,n,rfl,hl,hn,q⟩:=h;obtain⟨u,rfl,ru⟩:=vals1 r;obtain⟨t,rfl⟩:=(show ∃t,u=Value.str z t from ru);exact PySem.W.KIN.call_text hn hl ⟨.int n,H,I.tok _,⟨_,rfl⟩,q⟩
end
theorem Zz{z:Str}:Walk (Its z) (fun _=>True) (z.cps.toList.map VG):=
 ⟨fun i H _ hi=>(by show i<z.cps.size;simpa using hi),fun i H x H' _ y hi=>⟨y.1,by
  obtain⟨c,hc,rfl⟩:=y.2;rw[xo,Array.getElem?_toList,hc];rfl⟩,fun i H _ hi=>(by show z.cps.size<=i;simpa using hi)⟩
theorem mW{tl:TE}{R:It->Hp->Prop}(h:tl Z H fun x H1=>∃z,x=.str z/\asc z=true/\R (Its z) H1):ACZ tl Z H R:=h
theorem dX(x:Str)(t:Tok):RelV (.str x) (.str x t):=⟨t,rfl⟩
noncomputable def constStr?:Expr->Option Str
 | .Constant (.str x) _ _=>some x
 | _=>none
noncomputable def cz(ss:List Str):TA:=fun _ H Q=>Q (ss.map V.str) H
theorem eE{X:Cx}:∀{es:List Expr} {ss:List Str},es.map constStr?=ss.map some->PA X es (cz ss)
 | [],[],_=>Ac
 | [],_::_,h=>nomatch h
 | _::_,[],h=>nomatch h
 | e::es,x::ss,h=>by
  rw[zn,zn] at h;injection h with h1 h2;have ih:=eE (X:=X) (es:=es) (ss:=ss) h2;unfold constStr? at h1;split at h1
  ·injection h1 with h1;subst h1;exact Aa Ah ih rfl
  ·cases h1
theorem W7{X:Cx}{es:List Expr}{ss:List Str}(h:es.map constStr?=ss.map some):PE X (.List es pos) (rH (cz ss)):=Ef (eE h)
theorem W2{ss:List Str}{Q:List V->Hp->Prop}(h:Q (ss.map V.str) H):cz ss Z H Q:=h
structure BE(X:Cx)(e:Expr)(te:TE):Prop where
 out:PE X e te
structure BS(X:Cx)(st:Stmt)(t:TS):Prop where
 out:PS X st t
structure BSs(X:Cx)(st:List Stmt)(t:TS):Prop where
 out:PSs X st t
section
variable{X:Cx}
theorem vV{es:List Expr}{ss:List Str}(h:es.map constStr?=ss.map some):BE X (.List es pos) (rH (cz ss)):=⟨W7 h⟩
theorem bs{st:Stmt}{t:TS}(h:PS X st t):BS X st t:=⟨h⟩
theorem AAh{i:Nat}{e:Expr}{pos':Pos}(hN:X.N.Nodup)(hi:X.N[i]?=some x)(hx:Loc X.env.scope x)(he:BE X e te)(hs:swapsWith e (some (.Name x pos')) pos.line X.env=pure false:=by rfl)(hf:X.fn x=true\/X.env.scope.names.lookup x=some .local:=by first | exact .inl rfl | exact .inr rfl | assumption):
 BS X (.Assign [.Name x pos'] e pos) (lG te (Im i)):=⟨Aj _ he.out hN hi hx hs hf⟩
theorem KQ{st:Stmt}{rest:List Stmt}{t u:TS}(h1:BS X st t)(h2:BSs X rest u):BSs X (st::rest) (xj t u):=⟨Ab h1.out h2.out⟩
theorem vU{st:Stmt}{t:TS}(h1:BS X st t):BSs X [st] t:=⟨Ad h1.out⟩
theorem AAg{ss:List Stmt}{R:TS->Prop}(h:∃t,BSs X ss t/\R t):∃t,PSs X ss t/\R t:=by
 obtain⟨t,h1,h2⟩:=h;exact⟨t,h1.out,h2⟩
end
inductive Hr(P:Program)(w:World)(K:Fr)(mg:Str->Option Value)(base:Heap)(k:Nat):List (Str×Sp)->Prop
 | nil:Hr P w K mg base k []
 | cons {x:Str} {ps:List Str} {sp:Sp} {L:List (Str×Sp)}:Cal P w K mg base k x ps sp->Hr P w K mg base k L->Hr P w K mg base k ((x,sp)::L)
theorem Hr.get{P:Program}{w:World}{mg:Str->Option Value}{base:Heap}{k:Nat}{L:List (Str×Sp)}(h:Hr P w K mg base k L){x:Str}{sp:Sp}(hm:(x,sp)∈L):∃ps,Cal P w K mg base k x ps sp:=by
 induction h with
 | nil=>cases hm
 | cons C _ ih=>
  rcases qq.mp hm with e | e
  ·injection e with e1 e2;subst e1;subst e2;exact⟨_,C⟩
  ·exact ih e
noncomputable def lE(mg:Str->Option Value)(i:Nat)(L:List (Str×Sp))(t:TA):TE:=fun Z H Q=>∃f x sp,Z[i]?=some (some (.ref f))/\(x,sp)∈L/\mg x=some (.ref f)/\t Z H fun vs H1=>sp vs H1 Q E0
section
variable{X:Cx}{pos:Pos}
theorem uK{k i:Nat}{L:List (Str×Sp)}{e:Expr}{es:List Expr}{t:TA}{p:Pos}(CV:Hr X.prog X.w X.K X.mg X.base k L)(hr:Ec k X.A)(hN:X.N[i]?=some x)(hv:Vis X.env.scope x)(ha:PA X (e::es) t)
 (hdb:(x==("__debug__":Str))=false:=by decide)(hcd:(x==("__classdict__":Str))=false:=by decide)(he:starEach (e::es) X.env=(false,eval e X.env)::starEach es X.env:=by rfl)(hpl:(backTo pos (starEach es X.env)).any (·.1)=false:=by rfl):
 PE X (.Call (.Name x p) (e::es) [] pos) (lE X.mg i L t):=by
 intro pins s Z H Q I h;obtain⟨f,y,sp,hf,hm,hmg,h⟩:=h;obtain⟨ps,C⟩:=CV.get hm;obtain⟨f',fd,F,b,kp,m⟩:=C.ex;have ef:f'=f:=by
  rw[hmg] at m;injection m with m;injection m with m;exact m.symm
 subst ef;refine jb8 ?_;refine thn (nA hN hv hdb hcd s Z H (fun v H1=>v=.ref f'/\H1=H) I (N6 hf ⟨rfl,rfl⟩)) fun v s1 hZ=>?_;obtain⟨y,H1,I1,r1,q1⟩:=hZ;obtain⟨rfl,rfl⟩:=q1;cases r1;refine jd2 (h₀:=X.base) I1.ok.mod.kin kp (thn (ha (pos:=pos) pins s1 Z _ _ I1 h) fun us s2 ⟨vs,H2,I2,r,q⟩=>⟨I2.kIn,?_⟩) he hpl;dsimp only at q;have hl:us.length=ps.length:=by rw[<-r.length];exact F.len _ _ _ _ q
 have hb:=b s2 us I2.kIn (by rw[xz];exact hl);rw[xz] at hb;show wpAny _ _ (call (.ref f') us) _ _ _;refine wpAny_call (jn8 (F.run X.A X.stack s2 H2 ⟨us,[]⟩ us vs Q _ hr I2.env0 hb r q) fun z s' hq=>?_);cases z with
 | error e=>exact False.elim hq
 | ok fl=>
  cases fl with
  | ret u=>exact I2.after hq
  | next=>exact False.elim hq
  | brk=>exact False.elim hq
  | cont=>exact False.elim hq
theorem mY{mg:Str->Option Value}{i:Nat}{L:List (Str×Sp)}{t:TA}{f:Addr}(h1:Z[i]?=some (some (.ref f)))(h2:(x,sp)∈L)(h3:mg x=some (.ref f))(h:t Z H fun vs H1=>sp vs H1 Q E0):lE mg i L t Z H Q:=⟨f,x,sp,h1,h2,h3,h⟩
end
section
variable{X:Cx}{pins:List (Addr×Obj)}{Z:St}{H:Hp}{s:Shared}{h':Heap}
theorem Inv.turnedNew{t':Nat}{ch:List Addr}{T:Addr}{o:HO}(I:Inv X pins Z H s)(k:∀b u,b∉ch->s.heap.get? b=some u->h'.get? b=some u)(hf:∀b∈ch,Ka X pins H b)
 (hp:s.heap.objs.size<=T)(new:Ej X.prog X.w (upd H T o) h' T o):Inv X pins Z (upd H T o) { s with heap:=h',toks:=t' }:=by
 have hn:H T=none:=I.hok.fresh hp;have nit:∀b u,H b=some u->b∉ch:=fun b u e z=>by rw[(hf b z).1] at e;cases e
 refine I.step (g':=s.gens) (d':=s.drawn) (ch:=ch) (fun b hb=>⟨(hf b hb).2.2.2.1,(hf b hb).2.1,(hf b hb).2.2.2.2.1,(hf b hb).2.2.2.2.2⟩) (fun b u _ _ hc e _=>k b u hc e) (fun b u _ _ hc e _=>⟨u.slots,k b u hc e⟩)
  (fun b u _ e n=>by rw[Ax (vi (xa (zo e) hp))];exact n)
  (fun b u hc e=>⟨u,k b u hc e⟩) (fun b xs q=>by rw[Ax (Bm q hn)];exact q) (fun b u xs q=>by rw[Ax (Bm q hn)];exact q) (fun b ps q=>⟨#[],by rw[Ax (Bm q hn),q];simp⟩) (fun m hm=>?_) (fun b u e=>?_) I.bare
 ·obtain⟨u,es,ep,ho,r⟩:=hm;exact⟨u,es,ep,k _ u (fun z=>(hf _ z).2.1 rfl) ho,r⟩
 ·by_cases hb:b=T
  ·subst hb;rw[Ai] at e;cases e;exact new
  ·rw[Ax hb] at e;refine(I.hok b u e).stay (fun c v hc q=>k c v ?_ q) (fun c q=>by rw[Ax (Bm q hn)];exact q) fun c xs q=>by rw[Ax (Bm q hn)];exact q
   rcases hc with z | z
   ·rw[z];exact nit b u e
   ·exact nit c _ z
theorem Inv.turnedL{t':Nat}{ch:List Addr}(I:Inv X pins Z H s)(k:∀b u,b∉ch->s.heap.get? b=some u->h'.get? b=some u)(hf:∀b∈ch,Ka X pins H b):Inv X pins Z H { s with heap:=h',toks:=t' }:=by
 have nit:∀b u,H b=some u->b∉ch:=fun b u e z=>by rw[(hf b z).1] at e;cases e
 refine I.step (g':=s.gens) (d':=s.drawn) (ch:=ch) (fun b hb=>⟨(hf b hb).2.2.2.1,(hf b hb).2.1,(hf b hb).2.2.2.2.1,(hf b hb).2.2.2.2.2⟩) (fun b u _ _ hc e _=>k b u hc e) (fun b u _ _ hc e _=>⟨u.slots,k b u hc e⟩)
  (fun _ _ _ _ n=>n) (fun b u hc e=>⟨u,k b u hc e⟩) (fun b xs q=>q) (fun b u xs q=>q) (fun b ps q=>⟨#[],by rw[q];simp⟩) (fun m hm=>?_) (fun b u e=>?_) I.bare
 ·obtain⟨u,es,ep,ho,r⟩:=hm;exact⟨u,es,ep,k _ u (fun z=>(hf _ z).2.1 rfl) ho,r⟩
 ·refine(I.hok b u e).stay (fun c v hc q=>k c v ?_ q) (fun c q=>q) fun c xs q=>q;rcases hc with z | z
  ·rw[z];exact nit b u e
  ·exact nit c _ z
end
noncomputable def Itz(K:Fr)(a b:Addr):It:=
 ⟨fun i H=>∃xs ys x y,SqL K H a xs/\SqL K H b ys/\xs[i]?=some x/\ys[i]?=some y,
  fun i H v H'=>∃T x y,H T=none/\v=.ref T/\H'=upd H T (.tup [x,y])/\∀xs ys,SqL K H a xs->SqL K H b ys->xs[i]?=some x/\ys[i]?=some y,
  fun i H=>∃xs ys,SqL K H a xs/\SqL K H b ys/\i=min xs.length ys.length⟩
noncomputable def ACk(z TI TO i1 i2 a b:Addr)(i:Nat)(h:Heap):Prop:=
 IsZip h z TI TO .none/\IsPair h TI (.ref i1) (.ref i2)/\(∃p q,IsPair h TO p q)/\h.IsListIter i1 a i/\h.IsListIter i2 b i
theorem kY{P:Program}{w:World}{es:List Expr}{kk:Nat}(z TI TO i1 i2 a b:Addr)(D:ZipApart z TI TO i1 i2 a b):
 Turn P w K (.Tuple es kk pos) (Itz K a b) [z,TI,TO,i1,i2] z (ACk z TI TO i1 i2 a b) where
 mem:=by simp
 obj:=fun i h st c hc=>by
  obtain⟨h1,h2,⟨p,q,h3⟩,⟨o4,e4,_,d4⟩,⟨o5,e5,_,d5⟩⟩:=st;simp only[qq,yi,or_false] at hc;rcases hc with rfl | rfl | rfl | rfl | rfl
  ·exact⟨_,h1,fun v z=>by cases z⟩
  ·exact⟨_,h2,fun v z=>by cases z⟩
  ·exact⟨_,h3,fun v z=>by cases z⟩
  ·exact⟨_,e4,fun v z=>by rw[d4] at z;cases z⟩
  ·exact⟨_,e5,fun v z=>by rw[d5] at z;cases z⟩
 keep:=fun i h h' st k=>by
  obtain⟨h1,h2,⟨p,q,h3⟩,h4,h5⟩:=st;exact⟨k z (by simp) _ h1,k TI (by simp) _ h2,⟨p,q,k TO (by simp) _ h3⟩,h4.at fun o e=>k i1 (by simp) o e,h5.at fun o e=>k i2 (by simp) o e⟩
 item:=by
  intro X hP hw hK hc i pins s Z H E I hf st hg;subst hP hw hK;obtain⟨xs,ys,x,y,qa,qb,ex,ey⟩:=hg;obtain⟨us,ra,pa,_⟩:=I.list qa;obtain⟨ws,rb,pb,_⟩:=I.list qb;obtain⟨u,hu,ru⟩:=ra.get ex;obtain⟨v,hv,rv⟩:=rb.get ey;obtain⟨h1,h2,h3,h4,h5⟩:=st;have W:=WalksT.zip2 (prog:=X.prog) (w:=X.w) (I.ok.hd hc) z TI TO i1 i2 a b D us.toArray ws.toArray;have lu:i<us.length:=(qv.mp hu).1;have lw:i<ws.length:=(qv.mp hv).1;refine W.item i s _ E (by simp;lia) ⟨h1,h2,h3,h4,h5,pa.isList,pb.isList⟩ fun T vals h' tk hv' hT tup mid k=>?_;refine⟨.ref T,rfl,W.go es kk pos i T _ _ E mid fun h2 st2 k2=>?_⟩;have nw:=W.apart i T h' mid;obtain⟨x',y',e1,e2,e3⟩:=hv';have e1':u=x':=by simpa [hu] using e1
  have e2':v=y':=by simpa [hv] using e2
  subst e1' e2' e3;have tup2:h2.IsTuple T #[u,v]:=by
   obtain⟨o,eo,r⟩:=tup;exact⟨o,k2 T o nw eo,r⟩
  have hn:H T=none:=I.hok.fresh hT;refine⟨.ref T,upd H T (.tup [x,y]),I.turnedNew (ch:=[z,TO,i1,i2]) (fun c o hc e=>k2 c o hc (k c o hc e)) (fun c hc=>hf c ?_) hT ⟨?_,[u,v],.cons ru (.cons rv .nil),tup2⟩,rfl,⟨T,x,y,hn,rfl,rfl,fun xs' ys' qa' qb'=>?_⟩,?_,fun c hc=>?_⟩
  ·simp only[qq,yi,or_false] at hc ⊢;rcases hc with h | h | h | h
   ·exact .inl h
   ·exact .inr (.inr (.inl h))
   ·exact .inr (.inr (.inr (.inl h)))
   ·exact .inr (.inr (.inr (.inr h)))
  ·show 2<=sizeLine;rw[sizeLine_eq];decide
  ·rw[I.list_inj qa' qa,I.list_inj qb' qb];exact⟨ex,ey⟩
  ·obtain⟨g1,g2,g3,g4,g5,_⟩:=st2;exact⟨g1,g2,g3,g4,g5⟩
  ·have hlt:c<s.heap.objs.size:=by
    simp only[qq,yi,or_false] at hc;obtain⟨p,q,h3⟩:=h3;obtain⟨o4,e4,_⟩:=h4;obtain⟨o5,e5,_⟩:=h5;rcases hc with rfl | rfl | rfl | rfl | rfl
    ·exact zo h1
    ·exact zo h2
    ·exact zo h3
    ·exact zo e4
    ·exact zo e5
   rw[Ax (vi (xa hlt hT))];exact(hf c hc).1
 done:=by
  intro X hP hw hK hc i pins s Z H E I hf st hg;subst hP hw hK;obtain⟨xs,ys,qa,qb,e⟩:=hg;obtain⟨us,ra,pa,_⟩:=I.list qa;obtain⟨ws,rb,pb,_⟩:=I.list qb;have la:=ra.length;have lb:=rb.length;obtain⟨h1,h2,h3,h4,h5⟩:=st;have W:=WalksT.zip2 (prog:=X.prog) (w:=X.w) (I.ok.hd hc) z TI TO i1 i2 a b D us.toArray ws.toArray;have en:i=min us.toArray.size ws.toArray.size:=by simp;lia
  rw[en] at h4 h5;refine W.done s _ E ⟨h1,h2,h3,h4,h5,pa.isList,pb.isList⟩ fun h' tk k=>⟨rfl,I.turnedL (ch:=[z,TO,i1,i2]) (fun c o hc e=>k c o hc e) fun c hc=>hf c ?_⟩;simp only[qq,yi,or_false] at hc ⊢;rcases hc with h | h | h | h
  ·exact .inl h
  ·exact .inr (.inr (.inl h))
  ·exact .inr (.inr (.inr (.inl h)))
  ·exact .inr (.inr (.inr (.inr h)))
 self:=fun _ _ _ _ _ st h=>jo3 st.1 h
theorem jz{n a b:Nat}(ha:a<n)(hb:b<n):ZipApart (n+4) (n+2) (n+3) n (n+1) a b:=
 ⟨show n+2≠n+4 by lia,show n+3≠n+4 by lia,show n≠n+4 by lia,show n+1≠n+4 by lia,show n+2≠n+3 by lia,show n+2≠n by lia,show n+2≠n+1 by lia,show n+3≠n by lia,show n+3≠n+1 by lia,show n≠n+1 by lia,
  show a≠n+4 by lia,show a≠n+3 by lia,show a≠n by lia,show a≠n+1 by lia,show b≠n+4 by lia,show b≠n+3 by lia,show b≠n by lia,show b≠n+1 by lia⟩
noncomputable def ACY(K:Fr)(ta:TA):TI:=fun Z H R=>ta Z H fun vs H1=>∃a b,vs=[.ref a,.ref b]/\(∃xs ys,SqL K H1 a xs/\SqL K H1 b ys)/\R (Itz K a b) H1
section
variable{X:Cx}
theorem zN{a b:Expr}{p:Pos}{es:List Expr}{kk:Nat}{tp:Pos}(hg:Gl X "zip")(hm:X.mg "zip"=none)(ha:PA X [a,b] ta)(hs:starEach [a,b] X.env=[(false,eval a X.env),(false,eval b X.env)]:=by rfl)(hs2:starEach [b] X.env=[(false,eval b X.env)]:=by rfl):
 PI X (.Tuple es kk tp) (.Call (.Name "zip" p) [a,b] [] pos) (ACY X.K ta):=by
 intro pins s Z H R I h;refine Call_ (Hl I hg hm boot_zip (vc (thn (ha (pos:=pos) pins s Z H _ I h) fun us s1 ⟨vs,H1,I1,r1,q1⟩=>?_) (by rw[hs,hs2]) (by rw[hs2];rfl)));obtain⟨x,y,e,⟨xs,ys,qa,qb⟩,q⟩:=q1;subst e;obtain⟨ia,ra,pa,_⟩:=I1.list qa;obtain⟨ib,rb,pb,_⟩:=I1.list qb;cases r1 with
 | cons r rr=>
  cases rr with
  | cons r' rr=>
   cases rr;cases (show _=Value.ref x from r);cases (show _=Value.ref y from r');have l1:x<s1.heap.objs.size:=by obtain⟨o,eo,_⟩:=pa.isList;exact zo eo
   have l2:y<s1.heap.objs.size:=by obtain⟨o,eo,_⟩:=pb.isList;exact zo eo
   refine call_zip_2 pa.isList pb.isList fun h' hz hTI hTO hi1 hi2 hsz hk=>?_;refine jo3 hz ?_;have D:ZipApart (s1.heap.objs.size+4) (s1.heap.objs.size+2) (s1.heap.objs.size+3) s1.heap.objs.size (s1.heap.objs.size+1) x y:=jz l1 l2;have n1:∀j,H1 (s1.heap.objs.size+j)=none:=fun j=>I1.hok.fresh (vj _ _);refine⟨_,_,_,_,H1,rfl,I1.kept (t':=s1.toks) fun c o e=>hk c o e,kY _ _ _ _ _ x y D,⟨hz,hTI,⟨_,_,hTO⟩,hi1,hi2⟩,fun c hc=>?_,q⟩;have hcs:s1.heap.objs.size<=c:=by
    simp only[qq,yi,or_false] at hc;rcases hc with rfl | rfl | rfl | rfl | rfl
    ·exact vj _ _
    ·exact vj _ _
    ·exact vj _ _
    ·exact ze _
    ·exact vj _ _
   exact I1.fpOk hcs (I1.hok.fresh hcs)
end
theorem yu{R:It->Hp->Prop}(h:ta Z H fun vs H1=>∃a b,vs=[.ref a,.ref b]/\(∃xs ys,SqL K H1 a xs/\SqL K H1 b ys)/\R (Itz K a b) H1):ACY K ta Z H R:=h
section
variable{X:Cx}
theorem O7{M:List Str}{tg:Expr}{xs:List Str}{y:Str}{py spos:Pos}{ifs:List Expr}{cl:List (Str×Addr)}{wi:TI}{g:TG}{i:Nat}(hN:X.N.Nodup)(hiy:X.N[i]?=some y)(hy:Loc X.env.scope y)
 (hc:X.calm=true)(ok:Nb X M xs scope cl)(hi:PI X tg iter wi)
 (ht:∀C s₀ H₀ fp,jo (Cw X M xs scope cl C s₀ H₀ fp) ifs tt)(hg:∀C s₀ H₀ fp,PG (Cw X M xs scope cl C s₀ H₀ fp) tg g)(he:∀C s₀ H₀ fp,PE (Cw X M xs scope cl C s₀ H₀ fp) elt te)
 (hsw:swapsWith (.ListComp elt [⟨tg,iter,ifs,0⟩] scope pos) (some (.Name y py)) spos.line X.env=pure true:=by with_unfolding_all rfl)
 (hf:X.fn y=true\/X.env.scope.names.lookup y=some .local:=by first | exact .inl rfl | exact .inr rfl | assumption)
 (hs:∀x,foldedSetIterable iter X.env x=pure x:=by intro _;rfl):
 PS X (.Assign [.Name y py] (.ListComp elt [⟨tg,iter,ifs,0⟩] scope pos) spos) (lG (lC xs.length wi g tt te) (Im i)):=by
 intro pins s Z H D I h;rw[exec_Assign_Name_used _ _ _ _ hsw];refine qf (wpAny_standAt (qf ?_));show wpAny _ X.A (do let _ <-comprehension (.ListComp elt [⟨tg,iter,ifs,0⟩] scope pos) scope X.env _ (newList []) false (eval iter X.env) (some (assign (.Name y py) X.env))) _ _ s;refine qf (ja5 (wpAny_comprehension_free (use:=some (assign (.Name y py) X.env)) (Q:=fun _ s'=>SP X pins D .next s') rfl hs ok.clos ok.kind ok.names
  (thn (hi s Z H _ I h) fun xv s1 h1=>thn h1 fun itv s2 h2=>?_)) (fun _ s' hq=>xy (xy hq)) fun _ _ e=>e)
 obtain⟨it,fp,tn,J,H2,e,I2,T,st2,f2,hW⟩:=h2;subst e;refine S5 (Q:=fun x H1=>Im i x Z H1 D.nx) hc ok ht hg he I2 T st2 f2 hW (compPost (model X.prog X.w) X.A X.xe (some (assign (.Name y py) X.env)) (fun _ s'=>SP X pins D .next s')) fun Dd C H3 s4 I4 hm fC q=>?_
 obtain⟨m,hn⟩:=hm;show wpAny _ X.A (assign (.Name y py) X.env (.ref Dd)) _ _ _;refine wpAny_assign_Name (VD I4 hN hiy hy (v:=.ref Dd) rfl (fun s5 I5 hsb=>?_) hf);obtain⟨a,sb,ha⟩:=hsb;have hCa:C≠a:=by
  rcases ha with rfl | ha
  ·exact fC.2.1
  ·exact(fC.2.2.2.2.1 _ _ ha).symm
 exact⟨m,hn.sameBut sb hCa,fun h' hsb'=>⟨_,H3,I5.turned (t':=s5.toks) (fun b o hb e=>hsb'.extBut b o hb e) fC.1 fC.2.1 fC.2.2.2.1 fC.2.2.2.2.1 fC.2.2.2.2.2,q⟩⟩
end
structure ACy(K:Fr)(mg:Str->Option Value)(x:Str)(CB f:Addr):Prop where
 bound:mg x=some (.ref CB)
 sp:PySem.W.specialIn K (.ref CB) "__getattribute__"=some (some (.builtin "type.__getattribute__"))
 rd:PySem.W.readsIn K CB (.type "type")=true
 fc:PySem.W.findCls K (.ref CB) (.type "type") "__init__"=some (.val (.ref f))
 kp:PySem.W.keepIn K (.ref f)=true
structure AAv(P:Program)(w:World)(K:Fr)(mg:Str->Option Value)(base:Heap)(k:Nat)(x:Str)(ps:List Str)(sp:Sp):Prop where
 ex:∃(f CB:Addr) (fd:FuncData),Es P w K mg base CX0 k f fd ps sp/\Binds K fd ps []/\ACy K mg x CB f
section
variable{X:Cx}
theorem DY{k:Nat}{ps:List Str}{e:Expr}{es:List Expr}{t:TA}{p apos:Pos}{pl:Sem Bool}(O:AAv X.prog X.w X.K X.mg X.base k x ps sp)(ha:PA X (e::es) t)(hr:Ec k X.A:=by walk_at"hr")(hg:Gl X x:=by exact rfl)
 (hdb:(x==("__debug__":Str))=false:=by decide)(hst:starEach (e::es) X.env=(false,eval e X.env)::starEach es X.env:=by rfl)(hpl:(backTo pos (starEach es X.env)).any (·.1)=false:=by rfl)
 (ht:eval (.Call (.Attribute (.Name x p) "__init__" apos) (e::es) [] pos) X.env=(do
  let ov <-eval (.Name x p) X.env
  standAt apos.atName
  let (f,first) <-holding [ov] (getMethod ov "__init__" pl)
  callWith pos f first (backTo pos (starEach (e::es) X.env)) (backToKw pos (keywordEach [] X.env))):=by rfl):
 PE X (.Call (.Attribute (.Name x p) "__init__" apos) (e::es) [] pos) (dF sp [] E0 t):=by
 intro pins s Z H Q I h;obtain⟨f,CB,fd,F,hb,N⟩:=O.ex;refine jf2 (pl:=pl) (Mq I hg N.bound ?_ hdb) ht;refine PySem.W.method_cls I.kIn N.sp (PySem.W.cls_value I.kIn N.rd N.fc rfl ?_);have I1:Inv X pins Z H { s with toks:=s.toks+1 }:=I.tok _;refine jd2 (first:=[]) (h₀:=X.base) I.ok.mod.kin N.kp (thn (ha pins _ Z H _ I1 h) fun us s2 ⟨vs,H2,I2,r,q2⟩=>⟨I2.kIn,?_⟩) hst hpl
 exact N5 (us:=us) (vs:=vs) F hr hb .nil Ma I2 r q2
theorem ao{k:Nat}{C:Addr}{ps:List Str}{p:Pos}(O:jx X.prog X.w X.K X.mg X.base CX0 k x C ps sp)(hr:Ec (k+1) X.A)(hg:Gl X x)
 (hdb:(x==("__debug__":Str))=false:=by decide):PE X (.Call (.Name x p) [] [] pos) (VB C sp [] E0 YG):=by
 obtain⟨f,fd,F,hb,M,hm⟩:=O.ex;exact nG M F hr hg hm hb .nil Ma hdb
end
section
variable{X:Cx}
end
section
variable{X:Cx}
end
end L2
namespace L2
open PySem PySem.Spec PyProof.Rows PySem.Builtin PySem.Builtin.Str
noncomputable def plc(c:Nat):Nat->List Nat->List Nat
 | _,[]=>[]
 | k,a::l=>if a=c then k::plc c (k+1) l else plc c (k+1) l
noncomputable def spl(c:Nat):List Nat->List (List Nat)
 | []=>[[]]
 | a::l=>if a=c then []::spl c l else ((a::(spl c l).headD [])::(spl c l).drop 1)
theorem lM(c:Nat)(l:List Nat):spl c (c::l)=[]::spl c l:=by
 conv=>lhs;unfold spl
 rw[xh rfl]
theorem WY{c a:Nat}(l:List Nat)(h:a≠c):spl c (a::l)=(a::(spl c l).headD [])::(spl c l).drop 1:=by
 conv=>lhs;unfold spl
 rw[xk h]
theorem RD{a b:Str}(h:a.cps=b.cps):a=b:=by
 cases a;cases b;exact yk Str.mk h
theorem xx(c:Nat):∀l,spl c l≠[]
 | []=>fun h=>nomatch h
 | a::l=>by
  unfold spl;split
  ·exact fun h=>nomatch h
  ·exact fun h=>nomatch h
theorem Qs(c:Nat)(l:List Nat):spl c l=(spl c l).headD []::(spl c l).drop 1:=by
 have:=xx c l;cases h:spl c l with
 | nil=>exact absurd h this
 | cons p ps=>rfl
theorem dq(c:Nat):∀(l:List Nat) (k:Nat),(plc c k l).length+1=(spl c l).length
 | [],_=>rfl
 | a::l,k=>by
  have ih:=dq c l (k+1);unfold plc spl;split
  ·rw[qo,qo,ih]
  ·rw[ih,Qs c l];rfl
theorem VM(c:Nat):∀(l:List Nat) (k:Nat),(plc c k l).length=l.count c
 | [],_=>rfl
 | a::l,k=>by
  have ih:=VM c l (k+1);unfold plc;rw[List.count_cons];split
  ·rename_i h
   rw[qo,ih,xh (by simpa using h)]
  ·rename_i h
   rw[ih,xk (by simpa using h)];rfl
theorem Qt(c:Nat):∀(p l:List Nat),c∉p->spl c (p++c::l)=p::spl c l
 | [],l,_=>lM c l
 | a::p,l,h=>by
  have ih:=Qt c p l fun z=>h (qh _ z);show spl c (a::(p++c::l))=_;rw[WY _ (fun z=>h (by rw[z];exact qc)),ih];rfl
theorem WX(c:Nat):∀(p:List Nat),c∉p->spl c p=[p]
 | [],_=>rfl
 | a::p,h=>by
  rw[WY _ (fun z=>h (by rw[z];exact qc)),WX c p fun z=>h (qh _ z)];rfl
theorem Oc(c:Nat)(L:List Nat):∀(l:List Nat) (k s0:Nat),L.drop k=l->s0<=k->k<=L.length->
 ((s0::(plc c k l).map (· +1)).zip (plc c k l++[L.length])).map (fun (ij:Nat×Nat)=>(L.drop ij.1).take (ij.2-ij.1))=((L.drop s0).take (k-s0)++(spl c l).headD [])::(spl c l).drop 1
 | [],k,s0,h,h1,h2=>by
  have e:k=L.length:=by
   have:=yk List.length h;rw[jb0] at this;simp at this;lia
  subst e;show[(L.drop s0).take (L.length-s0)]=[(L.drop s0).take (L.length-s0)++[]];rw[xz]
 | a::l,k,s0,h,h1,h2=>by
  have kl:k<L.length:=by
   have:=yk List.length h;rw[jb0,qo] at this;lia
  have hd:L.drop (k+1)=l:=by
   rw[<-List.drop_drop,h];rfl
  unfold plc spl;split
  ·have ih:=Oc c L l (k+1) (k+1) hd (ze _) kl;rw[zn,jh7,List.zip_cons_cons,zn,ih,Nat.sub_self,jp9,jl5,<-Qs];show _=((L.drop s0).take (k-s0)++[])::spl c l;rw[xz]
  ·have ih:=Oc c L l (k+1) s0 hd (by lia) kl;rw[ih];have e:(L.drop s0).take (k+1-s0)=(L.drop s0).take (k-s0)++[a]:=by
    have hk:(L.drop s0)[k-s0]?=some a:=by
     rw[jl4,show s0+(k-s0)=k by lia];have:=yk (fun z=>z[0]?) h;simpa [jl4] using this
    rw[show k+1-s0=(k-s0)+1 by lia,Qr,hk];rfl
   rw[e,jc5];rfl
noncomputable def cps(z:Str):List Nat:=z.cps.toList
theorem Ke(z:Str):(cps z).length=z.length:=ko
theorem XM(x:Str)(c:Nat):∀(n k free:Nat) (acc:Array Nat),k+n=x.length+1->free<=k->acc.size<=k->
 (forIn (List.range' k n) (acc,free) (StrLaws.occBody x ⟨#[c]⟩ x.length (x.length+1))).run.fst.toList=acc.toList++plc c k ((cps x).drop k)
 | 0,k,free,acc,h,_,_=>by
  rw[uj (by rw[Ke];lia)];show acc.toList=acc.toList++[];rw[xz]
 | n+1,k,free,acc,h,hf,ha=>by
  rw[List.range'_succ,jl2];have one:(⟨#[c]⟩:Str).length=1:=rfl;by_cases z:(cps x)[k]?=some c
  ·have kl:k<(cps x).length:=(qv.mp z).1;have hs:=(StrLaws.subAt_one x c k).mpr z;have ed:(cps x).drop k=c::(cps x).drop (k+1):=by
    rw[ja6 kl,(qv.mp z).2]
   have ih:=XM x c n (k+1) (k+1) (acc.push k) (by lia) (ze _) (by rw[Array.size_push];lia);unfold StrLaws.occBody;rw[xh ⟨⟨⟨by show acc.size<x.length+1;lia,hf⟩,hs.1⟩,hs.2⟩,ed];unfold plc;rw[xh rfl];have e2:acc.toList++k::plc c (k+1) ((cps x).drop (k+1))=(acc.push k).toList++plc c (k+1) ((cps x).drop (k+1)):=by
    rw[Array.toList_push,jc5];rfl
   rw[e2];exact ih
  ·have hs:¬(k+(⟨#[c]⟩:Str).length<=x.length/\subAt x ⟨#[c]⟩ k=true):=fun y=>z ((StrLaws.subAt_one x c k).mp y);have ih:=XM x c n (k+1) free acc (by lia) (by lia) (by lia);have ep:plc c k ((cps x).drop k)=plc c (k+1) ((cps x).drop (k+1)):=by
    by_cases kl:k<(cps x).length
    ·rw[ja6 kl];have:(cps x)[k]≠c:=fun y=>z (by rw[qm kl,y]);show(if (cps x)[k]=c then _ else _)=_;rw[xk this]
    ·rw[uj (by lia),uj (by lia)];rfl
   unfold StrLaws.occBody;rw[xk fun y=>hs ⟨y.1.2,y.2⟩,ep];exact ih
theorem eG(x:Str)(c:Nat):occurrences x ⟨#[c]⟩ 0 x.length (x.length+1)=plc c 0 (cps x):=by
 rw[StrLaws.occ_eq];have:=XM x c (x.length+1) 0 0 #[] (by lia) (ze _) (ze _);simpa using this
theorem Yy(x:Str)(c:Nat):partsBetween x (plc c 0 (cps x)) 1=(spl c (cps x)).map fun p=>(⟨p.toArray⟩:Str):=by
 have h:=Oc c (cps x) (cps x) 0 0 rfl (ze _) (ve _);rw[jp9,jl5,<-Qs] at h;rw[<-h,ua];unfold partsBetween;rw[<-Ke];refine jo6 fun ij _=>?_;refine RD (je4.mp ?_);rw[StrLaws.strSub_toList];rfl
section
variable{X:Cx}
theorem WT:∀(ps:List Str) (tk:Nat),Vals (ps.map V.str) (strsFrom tk ps)
 | [],_=>.nil
 | p::ps,tk=>.cons ⟨tk,rfl⟩ (WT ps (tk+1))
theorem Q8:∀{zs:List Str} {us:List Value},Vals (zs.map V.str) us->StrsAre us zs
 | [],_,.nil=>.nil
 | z::zs,_,.cons r rs=>by
  obtain⟨t,rfl⟩:=(show ∃t,_=Value.str z t from r);exact .cons z t (Q8 rs)
noncomputable def K4(c:Nat)(z:Str):List Str:=(spl c (cps z)).map fun p=>(⟨p.toArray⟩:Str)
theorem YJ(c:Nat)(z:Str):(K4 c z).length<=z.length+1:=by
 unfold K4;rw[js,<-dq c (cps z) 0,VM,<-Ke];exact Nat.succ_le_succ List.count_le_length
theorem O4{c:Nat}{z:Str}(h:plc c 0 (cps z)=[]):K4 c z=[z]:=by
 have e:=Yy z c;rw[h] at e;unfold K4;rw[<-e];show[strSub z 0 z.length]=[z];refine yk (fun y=>[y]) (RD (je4.mp ?_));rw[StrLaws.strSub_toList,jj6,Nat.sub_zero];exact uk (by show z.cps.toList.length<=z.cps.size;rw[ko];exact ze _)
noncomputable def zB:V->List V->Hp->VK->Prop:=fun x xs H Q=>∃z c,x=.str z/\xs=[.str ⟨#[c]⟩]/\c<256/\z.length<=1000000/\∀l,H l=none->Q (.ref l) (upd H l (.lst ((K4 c z).map V.str)))
theorem Mp:MtR X "str.split" zB:=by
 intro pins s Z H x xs v us Q I rx rs h;obtain⟨z,c,rfl,rfl,hc,hz,q⟩:=h;obtain⟨t,rfl⟩:=(show ∃t,v=Value.str z t from rx);obtain⟨u,rfl,ru⟩:=vals1 rs;obtain⟨t',rfl⟩:=(show ∃t,u=Value.str ⟨#[c]⟩ t from ru);have sl:z.length+1<=sizeLine:=zv (Nat.succ_le_succ hz) (by decide);have one:(⟨#[c]⟩:Str).length=1:=rfl;have itself:K4 c z=[z]->EP X pins Z Q (.ref s.heap.objs.size) { s with heap:=s.heap.push { cls:=.type "list",data:=.seq [Value.str z t].toArray } }:=fun e=>by
  refine⟨.ref _,_,I.laid (a:=s.heap.objs.size) (o:=.lst ((K4 c z).map V.str)) (fun _ _ e=>jv _ e) (ze _) ⟨by rw[e];show 1<=sizeLine;decide,[Value.str z t],0,by rw[e];exact .cons ⟨t,rfl⟩ .nil,zw _ rfl⟩,rfl,q _ I.fresh⟩
 by_cases h1:(decide (z.length<(⟨#[c]⟩:Str).length)||decide (PySem.Builtin.Str.strKind z<PySem.Builtin.Str.strKind ⟨#[c]⟩))=true
 ·have e:K4 c z=[z]:=by
   have k1:PySem.Builtin.Str.strKind (⟨#[c]⟩:Str)=1:=by
    unfold PySem.Builtin.Str.strKind;simp[hc]
   have k0:1<=PySem.Builtin.Str.strKind z:=by
    unfold PySem.Builtin.Str.strKind
    repeat' split
    all_goals lia
   rw[k1,one,decide_eq_false (show ¬PySem.Builtin.Str.strKind z<1 by lia),Bool.or_false,decide_eq_true_eq] at h1;refine O4 ?_;have:cps z=[]:=jb5.mp (by rw[Ke];lia);rw[this];rfl
  exact call_meets F.slot_str_split (typeIs_str _ _ _) F.entry_str_split (F.args_str_split_2 _ _) (meets_str_split_cannot_occur z ⟨#[c]⟩ t t' h1) (itself e)
 ·have h1':=(jj7 _).mp h1;by_cases h2:(occurrences z ⟨#[c]⟩ 0 z.length (z.length+1)).isEmpty=true
  ·have e:K4 c z=[z]:=by
    rw[eG,List.isEmpty_iff] at h2;exact O4 h2
   exact call_meets F.slot_str_split (typeIs_str _ _ _) F.entry_str_split (F.args_str_split_2 _ _) (meets_str_split_not_found z ⟨#[c]⟩ t t' h1' rfl h2) (itself e)
  ·have h2':=(jj7 _).mp h2;have ep:partsBetween z (occurrences z ⟨#[c]⟩ 0 z.length (z.length+1)) (⟨#[c]⟩:Str).length=K4 c z:=by rw[eG];exact Yy z c
   refine call_meets F.slot_str_split (typeIs_str _ _ _) F.entry_str_split (F.args_str_split_2 _ _) (meets_str_split_sep z ⟨#[c]⟩ t t' h1' rfl h2' (by lia) (by rw[ep];exact zv (YJ c z) sl)) ?_;rw[ep];exact⟨.ref _,_,I.laid (a:=s.heap.objs.size) (o:=.lst ((K4 c z).map V.str)) (fun _ _ e=>jv _ e) (ze _) ⟨by rw[js];exact zv (YJ c z) sl,strsFrom s.toks (K4 c z),0,WT _ _,zw _ rfl⟩,rfl,q _ I.fresh⟩
noncomputable def rJoin(K:Fr):V->List V->Hp->VK->Prop:=fun x xs H Q=>∃z l zs,x=.str z/\xs=[.ref l]/\SqL K H l (zs.map V.str)/\(zs.map (·.length)).sum+zs.length*z.length<=16777216/\Q (.str (Txt.join z zs)) H
theorem eO:MtR X "str.join" (rJoin X.K):=by
 intro pins s Z H x xs v us Q I rx rs h;obtain⟨z,l,zs,rfl,rfl,hl,hz,q⟩:=h;obtain⟨t,rfl⟩:=(show ∃t,v=Value.str z t from rx);obtain⟨u,rfl,ru⟩:=vals1 rs;obtain rfl:u=Value.ref l:=ru;obtain⟨its,r,pl,_⟩:=I.list hl;exact join_list pl.isList (by simpa using Q8 r) hz fun t' k=>⟨.str _,H,I.tok _,⟨_,rfl⟩,q⟩
end
end L2
namespace L2
open PySem PySem.Spec PyProof.Rows
section
variable{s:Shared}{A:Around}{w:World}{prog:Program}
theorem zW{R:Result->Shared->Prop}{g:Addr}{x y d:Int}{t1 t2 t3:Tok}{k:Nat}(ha:A.handled=none)(hg:IsRange s.heap g x y d t1 t2 t3)(big:Builtin.Range.small x y d=false)(ek:Builtin.Range.rangeSize x y d=k)(fits:k<=2^24)(L:Addr)(res:Value)(m0:Nat)
 (hL:s.heap.get? L=some { cls:=.type "list",data:=.seq #[] m0 })
 (fin:∀hp tk ys m,(∀e o,e≠L->s.heap.get? e=some o->hp.get? e=some o)->hp.get? L=some { cls:=.type "list",dict:=none,data:=.seq ys m,slots:= #[] }->ItemsOf (fun i v=>∃t,v=.int (x+i*d) t) ys k->R (.ok (.ret res)) { s with heap:=hp,toks:=tk }):
 wpAny (model prog w) A.in1 (Builtin.List.listExtendWith (.ref L) (.ref g) res)
  (fun z s'=>match z with | .done f=>R (.ok f) s' | .again m=>m.quiet=true/\codeAny (model prog w) A m R s') (fun e s'=>R (.error e) s') s:=by
 have Lg:L≠g:=fun z=>by rw[z,hg] at hL;simp at hL
 have Ll:L<s.heap.objs.size:=zo hL;have Ln:L≠s.heap.objs.size:=vi Ll;have Lm:L∉[s.heap.objs.size]:=fun z=>Ln (xc.mp z);have Wl:=(Walks.longrange (prog:=prog) (w:=w) (A:=A.in1) ha s.heap.objs.size x d k).toS;have loop:∀(hp:Heap) (m tk:Nat),IsLongIter hp s.heap.objs.size (x+((0:Nat):Int)*d) ((k:Int)-((0:Nat):Int)) d->(∀e o,e≠L->s.heap.get? e=some o->hp.get? e=some o)->hp.get? L=some { cls:=.type "list",data:=.seq #[] m }->
  codeAny (model prog w) A (.builtin "list.extend.loop" ⟨[.ref L,.ref s.heap.objs.size,res],[]⟩) R { s with heap:=hp,toks:=tk }:=fun hp m tk it keep hL1=>by
  refine codeAny_extend_loopS Wl (by rw[sizeLine_eq];lia) L Lm res k 0 _ #[] m rfl (ve _) it hL1 (ItemsOf.nil _) fun s2 ys m2 mv hL2 hy=>?_;rw[Moved.eq_with mv];refine fin s2.heap s2.toks ys m2 (fun e o ne he=>mv.heap e o (fun z=>?_) (keep e o ne he)) hL2 hy;have el:=zo he;rcases qq.mp z with z1 | z1
  ·exact ne z1
  ·exact absurd el (by rw[xc.mp z1];exact jf0 _)
 unfold Builtin.List.listExtendWith;refine qf (wpAny_typeOf (T:="range") ⟨_,hg,rfl⟩ ?_);have q1:Builtin.List.listSameRef (.ref L) (.ref g)=false:=by unfold Builtin.List.listSameRef;simp[Lg]
 simp only[q1,show(Value.type "range"==Value.type "list")=false by decide,show(Value.type "range"==Value.type "tuple")=false by decide,Bool.or_false,Bool.false_eq_true,if_false];refine qf (wpAny_pyIter_longrange hg big ?_);refine qf (wpAny_holding (wpAny_hint_range (n:=k) (jv _ hg) ek fits ?_));have it1:IsLongIter (s.heap.push { cls:=.type "longrange_iterator",data:=.fields #[rawInt x,rawInt (Builtin.Range.rangeSize x y d),rawInt d] }) s.heap.objs.size (x+((0:Nat):Int)*d) ((k:Int)-((0:Nat):Int)) d:=by
  rw[ek];show Heap.get? _ _=_;simpa using zw s.heap rfl
 have L1:=jv { cls:=.type "longrange_iterator",data:=.fields #[rawInt x,rawInt (Builtin.Range.rangeSize x y d),rawInt d] } hL;refine wpAny_ite_split (fun _=>?_) (fun _=>xy ⟨plainId_quiet F.plain_extend_loop _,loop _ m0 _ it1 (fun e o _ he=>jv _ he) L1⟩);refine qf (wpAny_rule (qf ?_));show wpAny _ _ (updateSeq L (·.push .none) >>= fun _=>updateSeq L (·.pop)) _ _ _;refine qf (wpAny_updateSeq L1 rfl ?_);have L2':=je7 (Obj.mapSeq (·.push Value.none)) L1 rfl;refine wpAny_updateSeq (hz:=by seq_fits) L2' rfl ?_;have L3:=je7 (Obj.mapSeq (·.pop)) L2' rfl;refine xy ⟨plainId_quiet F.plain_extend_loop _,loop _ _ _ ?_ (fun e o ne he=>?_) L3⟩
 ·exact(ja4 _ _ Ln).trans ((ja4 _ _ Ln).trans it1)
 ·rw[ja4 _ _ (Ne.symm ne),ja4 _ _ (Ne.symm ne)];exact jv _ he
theorem ud{R:Result->Shared->Prop}{g:Addr}{x y d:Int}{t1 t2 t3:Tok}{k:Nat}(ha:A.handled=none)(hg:IsRange s.heap g x y d t1 t2 t3)(big:Builtin.Range.small x y d=false)(ek:Builtin.Range.rangeSize x y d=k)(fits:k<=2^24)(L:Addr)
 (hL:s.heap.get? L=some { cls:=.type "list",data:=.seq #[] })
 (fin:∀hp tk ys m,(∀e o,e≠L->s.heap.get? e=some o->hp.get? e=some o)->hp.get? L=some { cls:=.type "list",dict:=none,data:=.seq ys m,slots:= #[] }->ItemsOf (fun i v=>∃t,v=.int (x+i*d) t) ys k->R (.ok (.ret .none)) { s with heap:=hp,toks:=tk }):
 wpAny (model prog w) A.in1 (Builtin.«list.__init__» ⟨[.ref L,.ref g],[]⟩)
  (fun z s'=>match z with | .done f=>R (.ok f) s' | .again m=>m.quiet=true/\codeAny (model prog w) A m R s') (fun e s'=>R (.error e) s') s:=by
 have Lg:L≠g:=fun z=>by rw[z,hg] at hL;simp at hL
 show wpAny _ _ (Builtin.List.listItems (.ref L) >>= fun old=>Builtin.List.listUpdate (.ref L) (fun _=> #[]) >>= fun _=>letGo old.toList.reverse >>= fun _=>Builtin.List.listExtendWith (.ref L) (.ref g) .none) _ _ s;refine qf ?_;unfold Builtin.List.listItems;refine qf (jd5 hL rfl (xy ?_));show wpAny _ _ (updateSeq L (fun _=> #[]) >>= fun _=>letGo (#[]:Array Value).toList.reverse >>= fun _=>Builtin.List.listExtendWith (.ref L) (.ref g) .none) _ _ s;refine qf (wpAny_updateSeq hL rfl ?_);have L1:=je7 (Obj.mapSeq (fun _=>(#[]:Array Value))) hL rfl;have keep:∀e o,e≠L->s.heap.get? e=some o->(s.heap.update L (Obj.mapSeq (fun _=>(#[]:Array Value)))).get? e=some o:=fun e o ne he=>by
  rw[ja4 _ _ (Ne.symm ne)];exact he
 refine qf (wpAny_letGo (zW ha (keep g _ (Ne.symm Lg) hg) big ek fits L .none _ L1 fun hp tk ys m k1 k2 k3=>?_));exact fin hp tk ys m (fun e o ne he=>k1 e o ne (keep e o ne he)) k2 k3
theorem ue{E:Value->Shared->Prop}{Q:Value->Shared->Prop}{g:Addr}{x y d:Int}{t1 t2 t3:Tok}{k:Nat}(ha:A.handled=none)(hg:IsRange s.heap g x y d t1 t2 t3)(ek:Builtin.Range.rangeSize x y d=k)(fits:k<=2^24)
 (fin:∀hp tk ys m,(∀e o,s.heap.get? e=some o->hp.get? e=some o)->hp.get? s.heap.objs.size=some { cls:=.type "list",dict:=none,data:=.seq ys m,slots:= #[] }->ItemsOf (fun i v=>∃t,v=.int (x+i*d) t) ys k->Q (.ref s.heap.objs.size) { s with heap:=hp,toks:=tk }):
 wpAny (model prog w) A (call (.type "list") [.ref g]) Q E s:=by
 by_cases sm:Builtin.Range.small x y d=true
 ·exact call_list_range ha hg sm ek fits fin
 have big:Builtin.Range.small x y d=false:=by simpa using sm
 refine callType_codes (Q₁:=fun u s2=>u=.ref s.heap.objs.size/\s2={ s with heap:=s.heap.push { cls:=.type "list",data:=.seq #[] } }) F.called_list (F.typeCall_list_1 _) F.entry_list_init (code_list_new _ ⟨rfl,rfl⟩) fun u s2 z=>?_;obtain⟨rfl,rfl⟩:=z;have L0:(s.heap.push { cls:=.type "list",data:=.seq #[] }).get? s.heap.objs.size=some { cls:=.type "list",data:=.seq #[] }:=zw _ rfl;refine⟨⟨_,L0,rfl⟩,F.args_list_init_2 _ _,ud (A:=A.in1) ha (jv _ hg) big ek fits _ L0 fun hp tk ys m k1 k2 k3=>⟨rfl,?_⟩⟩;refine fin hp tk ys m (fun e o he=>k1 e o ?_ (jv _ he)) k2 k3;exact vi (zo he)
end
section
variable{X:Cx}
noncomputable def ABM(ta:TA):TE:=fun Z H Q=>ta Z H fun vs H1=>∃(i j:Int),vs=[.int i,.int j]/\i<=j/\j-i<=1000000/\
 ∀l,H1 l=none->Q (.ref l) (upd H1 l (.lst ((List.range (j-i).toNat).map fun(k:Nat)=>V.int (i+(k:Int)))))
theorem aq{a b:Expr}{ta:TA}{p p2 pos pos2:Pos}(hc:X.calm=true)(hgl:Gl X "list")(hml:X.mg "list"=none)(hgr:Gl X "range")(hmr:X.mg "range"=none)(ha:PA X [a,b] ta)
 (hs:starEach [a,b] X.env=(false,eval a X.env)::starEach [b] X.env:=by rfl)(hpl:(backTo pos2 (starEach [b] X.env)).any (·.1)=false:=by rfl)
 (hs1:starEach [.Call (.Name "range" p2) [a,b] [] pos2] X.env=(false,eval (.Call (.Name "range" p2) [a,b] [] pos2) X.env)::starEach [] X.env:=by rfl):
 PE X (.Call (.Name "list" p) [.Call (.Name "range" p2) [a,b] [] pos2] [] pos) (ABM ta):=by
 intro pins s Z H Q I h;refine jb8 (Hl I hgl hml boot_list ?_ (by decide) (by decide));refine vc ?_ hs1 rfl;rw[hs1];show wpAny _ _ (spliced ((false,eval _ X.env)::backTo pos (starEach [] X.env))) _ _ s;refine Calls.spliced_cons ?_;refine Call_ (Hl I hgr hmr boot_range (vc (thn (ha (pos:=pos2) pins s Z H _ I h) fun us s1 hZ=>?_) hs hpl));obtain⟨vs,H1,I1,r1,q1⟩:=hZ;obtain⟨i,j,rfl,ij,hz,q⟩:=q1;cases r1 with
 | cons r rr=>
  cases rr with
  | cons r' rr=>
   cases rr;obtain⟨t,rfl⟩:=r;obtain⟨t',rfl⟩:=r';refine call_range_2 (Calls.spliced_nil ?_);have I2:Inv X pins Z H1 { s1 with heap:=s1.heap.push { cls:=.type "range",data:=.fields #[.int i t,.int j t',.int 1 s1.toks] },toks:=s1.toks+1 }:=I1.kept fun b o e=>jv _ e;have en:Builtin.Range.rangeSize i j 1=(((j-i).toNat:Nat):Int):=by rw[rangeSize_one];split<;>lia
   refine ue (I2.ok.hd hc) (IsRange.new ..) en (by lia) fun h' tk acc' c' hk hS' hacc=>?_;have hl:acc'.toList.length=(j-i).toNat:=by simpa using hacc.1
   have ef:(fun (k:Nat)=>V.int (i+(k:Int)))=fun(k:Nat)=>V.int (i+(k:Int)*1):=by funext k;rw[ja3]
   rw[ef] at q;refine⟨.ref _,_,I2.laid (o:=.lst ((List.range (j-i).toNat).map fun(k:Nat)=>V.int (i+(k:Int)*1))) hk (ze _) ⟨?_,acc'.toList,c',?_,by simpa using hS'⟩,rfl,q _ I2.fresh⟩
   ·rw[js,Qb,sizeLine_eq];lia
   ·have:=HY (lo:=i) (c:=1) acc'.toList 0 fun j v hv=>by rw[jn6];exact hacc.2 j v (by simpa using hv)
    rw[hl,<-List.range_eq_range'] at this;exact this
end
section
variable{X:Cx}
noncomputable def isZ(z:Str)(v:Value):Bool:=match v with | .str y _=>y==z | _=>false
theorem PlainL.at'{h:Heap}{a:Addr}{its:Array Value}(p:PlainL h a its):∃n dd sl,h.get? a=some { cls:=.type "list",dict:=dd,data:=.seq its n,slots:=sl }:=by
 obtain⟨⟨cl,di,da,sl⟩,n,e,e1,e2,e3⟩:=p;cases e1;cases e3;exact⟨n,di,sl,e⟩
theorem Q6:∀{zs:List Str} {us:List Value},Vals (zs.map V.str) us->us.length=zs.length/\∀(j:Nat) (z:Str),zs[j]?=some z->∃t,us[j]?=some (Value.str z t)
 | [],_,.nil=>⟨rfl,fun j z h=>by simp at h⟩
 | y::zs,_,.cons r rs=>by
  obtain⟨t,rfl⟩:=(show ∃t,_=Value.str y t from r);obtain⟨l,h⟩:=Q6 rs;refine⟨by rw[qo,qo,l],fun j z hj=>?_⟩;cases j with
  | zero=>
   simp at hj;exact⟨t,by rw[hj];rfl⟩
  | succ j=>exact h j z (by simpa using hj)
theorem U6{zs:List Str}{us:List Value}(r:Vals (zs.map V.str) us){v:Value}(h:v∈us):∃z t,v=Value.str z t:=by
 obtain⟨l,g⟩:=Q6 r;obtain⟨j,hj,rfl⟩:=List.getElem_of_mem h;obtain⟨t,ht⟩:=g j (zs[j]'(by lia)) (qm _);rw[qm hj] at ht;exact⟨_,t,uu ht⟩
theorem Vu(z:Str):∀{zs:List Str} {us:List Value},Vals (zs.map V.str) us->us.countP (isZ z)=zs.count z
 | [],_,.nil=>rfl
 | y::zs,_,.cons r rs=>by
  obtain⟨t,rfl⟩:=(show ∃t,_=Value.str y t from r);rw[List.countP_cons,Vu z rs,List.count_cons];rfl
noncomputable def uD(K:Fr):V->List V->Hp->VK->Prop:=fun x xs H Q=>∃(l:Addr) (zs:List Str) (z:Str),x=.ref l/\xs=[.str z]/\SqL K H l (zs.map V.str)/\Q (.int ((zs.count z:Nat):Int)) H
theorem iw:MtR X "list.count" (uD X.K):=by
 intro pins s Z H x xs v us Q I rx rs h;obtain⟨l,zs,z,rfl,rfl,hl,q⟩:=h;obtain rfl:v=Value.ref l:=rx;obtain⟨u,rfl,ru⟩:=vals1 rs;obtain⟨t',rfl⟩:=(show ∃t,u=Value.str z t from ru);obtain⟨its,r,pl,_⟩:=I.list hl;obtain⟨c0,dd,sl,at0⟩:=PlainL.at' pl;have eq:∀y∈its.toArray,SeqAt.EqAt X.A.in1 s y (Value.str z t') (isZ z y):=fun y hy=>by
  obtain⟨a,t,rfl⟩:=U6 r (by simpa using hy);exact SeqAt.EqAt.str_str a t z t'
 refine call_meets F.slot_list_count pl.isList.typeIs F.entry_list_count (F.args_list_count_2 _ _) (SeqAt.list_countAt l its.toArray _ _ _ (Value.str z t') (isZ z)) ⟨at0,eq,?_⟩;have ec:its.toArray.toList.countP (isZ z)=zs.count z:=Vu z r;rw[ec];exact⟨.int _,H,I.tok _,⟨_,rfl⟩,q⟩
noncomputable def uC(K:Fr):V->List V->Hp->VK->Prop:=fun x xs H Q=>∃(l:Addr) (zs:List Str) (z:Str) (j:Nat),x=.ref l/\xs=[.str z]/\SqL K H l (zs.map V.str)/\zs[j]?=some z/\(∀m,m<j->zs[m]?≠some z)/\Q (.int ((j:Nat):Int)) H
theorem iu:MtR X "list.index" (uC X.K):=by
 intro pins s Z H x xs v us Q I rx rs h;obtain⟨l,zs,z,j,rfl,rfl,hl,hj,hno,q⟩:=h;obtain rfl:v=Value.ref l:=rx;obtain⟨u,rfl,ru⟩:=vals1 rs;obtain⟨t',rfl⟩:=(show ∃t,u=Value.str z t from ru);obtain⟨its,r,pl,lim⟩:=I.list hl;obtain⟨c0,dd,sl,at0⟩:=PlainL.at' pl;obtain⟨il,ig⟩:=Q6 r;have jl:j<zs.length:=(qv.mp hj).1;rw[js,sizeLine_eq] at lim;have eq:∀y∈its.toArray,SeqAt.EqAt X.A.in1 s y (Value.str z t') (isZ z y):=fun y hy=>by
  obtain⟨a,t,rfl⟩:=U6 r (by simpa using hy);exact SeqAt.EqAt.str_str a t z t'
 have at_:∀m (hm:m<its.toArray.size),∃a t,zs[m]?=some a/\its.toArray[m]=Value.str a t:=fun m hm=>by
  have hm':m<its.length:=by simpa using hm
  obtain⟨t,ht⟩:=ig m (zs[m]'(by lia)) (qm _);refine⟨_,t,qm (by lia),?_⟩;rw[qm hm'] at ht;simpa using uu ht
 refine call_meets F.slot_list_index pl.isList.typeIs F.entry_list_index (F.args_list_index_2 _ _) (SeqAt.list_indexAt l its.toArray _ _ _ (Value.str z t') (isZ z) j (by simpa using (show j<its.length by lia)) (by lia) ?_ fun m hm lt=>?_) ⟨at0,eq,?_⟩
 ·obtain⟨a,t,ha,e⟩:=at_ j (by simpa using (show j<its.length by lia));rw[e];rw[hj] at ha;cases ha;show(z==z)=true;simp
 ·obtain⟨a,t,ha,e⟩:=at_ m hm;rw[e];show(a==z)=false;have:a≠z:=fun y=>hno m lt (by rw[ha,y]);simpa using this
 ·exact⟨.int _,H,I.tok _,⟨_,rfl⟩,q⟩
end
section
variable{M:Model}{A:Around}{E:Value->Shared->Prop}{s:Shared}{base:Heap}{env:Env}{outer l:List Env}{L e:Addr}{cls:Value}{dd:Option Addr}{fl:Value}
end
section
variable{X:Cx}{pins:List (Addr×Obj)}{Z:St}{H H':Hp}{s:Shared}{C ea:Addr}{cls:Value}{dx:Option Addr}{B h1 h2 h3:Heap}{fl:Value}
end
section
variable{X:Cx}{pins:List (Addr×Obj)}{Z:St}{H2:Hp}{s2:Shared}{M:List Str}{x:Str}{scope:Scope}{cl:List (Str×Addr)}{C:Addr}{fp:List Addr}{E:XK}{Qe:Value->Shared->Prop}{acc:Value}
end
section
variable{X:Cx}
end
end L2
namespace L2
open PySem PySem.Spec PyProof.Rows Builtin.Str
section
variable{X:Cx}
theorem ie:MtR X "str.rstrip" (fun x xs H Q=>∃z y,x=.str z/\xs=[.str y]/\z.length<=sizeLine/\Q (.str (if stripSame y.cps.contains false true z then z else stripped y.cps.contains false true z)) H):=by
 intro pins s Z H x xs v us Q I rx rs h;obtain⟨z,y,rfl,rfl,hz,q⟩:=h;obtain⟨t,rfl⟩:=(show ∃t,v=Value.str z t from rx);obtain⟨u,rfl,ru⟩:=vals1 rs;obtain⟨t',rfl⟩:=(show ∃t,u=Value.str y t from ru);refine call_gives F.slot_str_rstrip (typeIs_str _ _ _) F.entry_str_rstrip (F.args_str_rstrip_2 _ _) (gives_str_rstrip_chars z y t t') ?_;by_cases c:stripSame y.cps.contains false true z=true
 ·rw[xh c] at q ⊢;exact⟨.str _,H,I,⟨_,rfl⟩,q⟩
 ·rw[xk c] at q ⊢;exact⟨fits_stripped _ _ _ hz,.str _,H,I.tok _,⟨_,rfl⟩,q⟩
end
end L2
namespace L2
open PySem PySem.Spec PyProof.Rows
section
variable{prog:Program}{w:World}{A:Around}{R:Result->Shared->Prop}{I:Addr}{fp wr:List Addr}{n:Nat}{P:Nat->Value->Prop}{St:Nat->Heap->Prop}
end
section
variable{prog:Program}{w:World}{A:Around}{E:Value->Shared->Prop}{s:Shared}
end
section
variable{X:Cx}
end
end L2
namespace L2
open PySem
@[elab_as_elim] theorem fresh{P:Hp->Prop}{H:Hp}{l:Addr}{o:HO}(h:H l=none)(q:∀H',Az H H'->H' l=some o->P H'):P (upd H l o):=q _ (Ar h o) Ai
example {Q:V->Hp->Prop} {H:Hp} (q:∀l H',Az H H'->H' l=some (.lst [.int 1])->Q (.ref l) H'):∀l,H l=none->Q (.ref l) (upd H l (.lst [.int 1])):=fun l hl=>by
 refine fresh hl fun H1 s1 t1=>?_;exact q l H1 s1 t1
end L2
namespace L2
open PySem PySem.Spec PyProof.Rows
section
variable{X:Cx}
end
section
variable{X:Cx}{M:List Str}{x:Str}{scope:Scope}{cl:List (Str×Addr)}{C:Addr}{s₀:Shared}{H₀:Hp}{fp:List Addr}
end
noncomputable def FnG(K:Fr)(g n q:Str)(st:Stmt):Prop:=∃f fd,PySem.W.nsIn K mainGlobals g=some (some (.ref f))/\Fun K n q st f fd
noncomputable def FnM(K:Fr)(C:Addr)(x n q:Str)(st:Stmt):Prop:=∃f fd,PySem.W.findIn K (.ref C) x=some (some (.ref f))/\Fun K n q st f fd/\PySem.W.typeIn K (.ref f)=some (.type "function")
noncomputable def Hs(n q:Str)(st:Stmt)(ps:List Str):Prop:=∀(kV doc pm:Value) (an:Option Addr) (cdv ct:Value) (us:List Value),us.length=ps.length->bindArgs (PySem.W.fnOf n q (Ey st) (DQ st) (BP st) .none kV doc pm an cdv ct) ⟨us,[]⟩=pure (ps.zip us)
theorem pF{K:Fr}{g n q:Str}{st:Stmt}{f:Addr}{oc:Value}{od an:Option Addr}{osl:Array (Option Value)}{kV doc pm cdv ct:Value}(a:PySem.W.nsIn K mainGlobals g=some (some (.ref f)))(l:K.lookup f=some ⟨oc,od,.func (PySem.W.fnOf n q (Ey st) (DQ st) (BP st) .none kV doc pm an cdv ct),osl⟩)
 (c:PySem.W.codeIn K cdv q=true)(k:PySem.W.keepIn K (.ref f)=true):FnG K g n q st:=⟨f,_,a,pC l c k⟩
theorem AAL{K:Fr}{C:Addr}{x n q:Str}{st:Stmt}{f:Addr}{oc:Value}{od an:Option Addr}{osl:Array (Option Value)}{kV doc pm cdv ct:Value}(a:PySem.W.findIn K (.ref C) x=some (some (.ref f)))(l:K.lookup f=some ⟨oc,od,.func (PySem.W.fnOf n q (Ey st) (DQ st) (BP st) .none kV doc pm an cdv ct),osl⟩)
 (c:PySem.W.codeIn K cdv q=true)(k:PySem.W.keepIn K (.ref f)=true)(u:PySem.W.typeIn K (.ref f)=some (.type "function")):FnM K C x n q st:=⟨f,_,a,pC l c k,u⟩
section
variable{P:Program}{w:World}{K:Fr}{h:Heap}{mg:Str->Option Value}{base:Heap}{g n q:Str}{st:Stmt}{ps:List Str}{k:Nat}{sp:Sp}
theorem cB(X:K.In h)(G:h.Ns mainGlobals mg)(Q:FnG K g n q st)(b:Hs n q st ps)(ok:∀{f:Addr} {fd:FuncData},Fun K n q st f fd->Es P w K mg base CX0 k f fd ps sp):Cal P w K mg base k g ps sp:=by
 obtain⟨f,fd,a,F⟩:=Q;exact⟨⟨f,fd,ok F,F.binds b,F.kp,jh3 X G a⟩⟩
theorem vO{CX:CXT}{C:Addr}(Q:FnM K C g n q st)(b:Hs n q st ps)(ok:∀{f:Addr} {fd:FuncData},Fun K n q st f fd->Es P w K mg base CX k f fd ps sp):ju P w K mg base CX k C g ps sp:=by
 obtain⟨f,fd,a,F,u⟩:=Q;exact⟨⟨f,fd,ok F,F.binds b,⟨a,jb3.mpr u,F.kp⟩⟩⟩
theorem vP{CX:CXT}{x:Str}{C:Addr}(X:K.In h)(G:h.Ns mainGlobals mg)(mk:PySem.W.makesIn K C=true)(kp:PySem.W.keepIn K (.ref C)=true)(nC:PySem.W.nsIn K mainGlobals x=some (some (.ref C)))(Q:FnM K C "__init__" n q st)(b:Hs n q st ps)(ok:∀{f:Addr} {fd:FuncData},Fun K n q st f fd->Es P w K mg base CX k f fd ps sp):jx P w K mg base CX k x C ps sp:=by
 obtain⟨f,fd,a,F,u⟩:=Q;exact⟨⟨f,fd,ok F,F.binds b,⟨mk,a,jb3.mpr u,kp⟩,jh3 X G nC⟩⟩
end
theorem Rk{P:Program}{w:World}{K:Fr}{mg:Str->Option Value}{base:Heap}{CX:CXT}{k0:Nat}{m n q:Str}{st:Stmt}{ps:List Str}{Cs:List Addr}{sp:Nat->Sp}
 (hC:∀C∈Cs,Cls K C/\FnM K C m n q st)(b:Hs n q st ps)(z:∀vs H Q E,¬sp 0 vs H Q E)
 (step:∀(d:Nat) {f:Addr} {fd:FuncData},Hu P w K mg base CX (k0+d) m ps (Cs.map fun C=>(C,sp d))->Fun K n q st f fd->Es P w K mg base CX (k0+d+1) f fd ps (sp (d+1))):
 ∀d,Hu P w K mg base CX (k0+d) m ps (Cs.map fun C=>(C,sp d))
 | 0=>⟨fun p hp=>by
  obtain⟨C,hC',rfl⟩:=ya.mp hp;obtain⟨c,f,fd,a,F,u⟩:=hC C hC';exact⟨c,f,fd,⟨fun vs H Q E h=>absurd h (z vs H Q E),fun A outer s H args us vs Q E _ _ _ _ h=>absurd h (z vs H Q E)⟩,F.binds b,⟨a,jb3.mpr u,F.kp⟩⟩⟩
 | d+1=>⟨fun p hp=>by
  have R:=Rk hC b z step d;obtain⟨C,hC',rfl⟩:=ya.mp hp;obtain⟨c,f,fd,a,F,u⟩:=hC C hC';exact⟨c,f,fd,step d R F,F.binds b,⟨a,jb3.mpr u,F.kp⟩⟩⟩
theorem all_nil{α:Type}{p:α->Prop}:∀x∈([]:List α),p x:=fun _ h=>(nomatch h)
theorem all_cons{α:Type}{p:α->Prop}{a:α}{l:List α}(h:p a)(t:∀x∈l,p x):∀x∈a::l,p x:=fun x hx=>by
 rcases qq.mp hx with e | e
 ·exact e ▸ h
 ·exact t x e
section
variable{X:Cx}{k:Nat}{q:Addr}{fd:FuncData}{p:Str}{sp:Sp}{xs:List V}{kf:Nat->Int}{J:Hp->Prop}{l:Addr}{pins:List (Addr×Obj)}{Z:St}
end
section
variable{prog:Program}{w:World}{A:Around}{E:Value->Shared->Prop}{s:Shared}
theorem bI{it t:Addr}{i:Nat}{items:Array Value}{x:Value}{Q:Value->Shared->Prop}(hit:s.heap.IsTupleIter it t i)(ht:s.heap.IsTuple t items)(hx:items[i]?=some x)
 (hQ:∀h',h'.IsTupleIter it t (i+1)->Heap.SameBut it s.heap h'->Q x { s with heap:=h' }):wpAny (model prog w) A (Builtin.SmallTypes.nextOf (.ref it)) Q E s:=by
 obtain⟨o,ho,hc,hd⟩:=id hit;obtain⟨ol,hol,_,nl,hdl⟩:=ht;unfold Builtin.SmallTypes.nextOf;refine qf (jh5 (name:=Str.ofString "__next__") hit.typeIs F.slot_tuple_iterator_next (jo2 F.slot_tuple_iterator_next hit.typeIs F.entry_tuple_iterator_next ?_ (F.args_tuple_iterator_next_1 _)));show wpAny _ _ (field (.ref it) 0 >>= _) _ _ s;refine qf (jd9 ho hd (x:=.ref t) rfl ?_);show wpAny _ _ (if (Value.ref t==Value.none)=true then _ else _) _ _ s;rw[xk (show ¬((Value.ref t==Value.none)=true) from zi)];show wpAny _ _ (field (.ref it) 1 >>= _) _ _ s;refine qf (jd9 ho hd (x:=.int i 0) rfl ?_);show wpAny _ _ (seqItems? (.ref t) >>= _) _ _ s;refine qf (jd5 hol hdl ?_);simp only[xp,hx];refine qf (wpAny_setField ho hd (by simp) (xy ⟨x,rfl,xy (hQ _ ?_ (Heap.SameBut.update ..))⟩));exact⟨_,je7 _ ho (Obj.isFreed_of_fields (Obj.data_mapFields hd _)),(Obj.cls_mapFields ..).trans hc,by rw[Obj.data_mapFields hd];simp[rawInt]⟩
theorem iY{it t:Addr}{i:Nat}{items:Array Value}{Q:Value->Shared->Prop}(hh:A.handled=none)(hit:s.heap.IsTupleIter it t i)(ht:s.heap.IsTuple t items)(hx:items[i]?=none)
 (hE:∀h' e,Heap.ExtBut it s.heap h'->(∃o,h'.get? e=some o/\o.cls=.type "StopIteration")->E (.ref e) { s with heap:=h' }):wpAny (model prog w) A (Builtin.SmallTypes.nextOf (.ref it)) Q E s:=by
 obtain⟨o,ho,hc,hd⟩:=id hit;obtain⟨ol,hol,_,nl,hdl⟩:=ht;unfold Builtin.SmallTypes.nextOf;refine qf (jh5 (name:=Str.ofString "__next__") hit.typeIs F.slot_tuple_iterator_next (jo2 F.slot_tuple_iterator_next hit.typeIs F.entry_tuple_iterator_next ?_ (F.args_tuple_iterator_next_1 _)));show wpAny _ _ (field (.ref it) 0 >>= _) _ _ s;refine qf (jd9 ho hd (x:=.ref t) rfl ?_);show wpAny _ _ (if (Value.ref t==Value.none)=true then _ else _) _ _ s;rw[xk (show ¬((Value.ref t==Value.none)=true) from zi)];show wpAny _ _ (field (.ref it) 1 >>= _) _ _ s;refine qf (jd9 ho hd (x:=.int i 0) rfl ?_);show wpAny _ _ (seqItems? (.ref t) >>= _) _ _ s;refine qf (jd5 hol hdl ?_);simp only[xp,hx];refine qf (wpAny_rule (qf (wpAny_setField ho hd (by simp) ?_)));show wpAny _ _ (newExc (.type "StopIteration") [] >>= _) _ _ _;refine qf ?_;simp only[newExc,newTuple];refine qf (jm5 ?_ (by size_fits));refine qf (m:=firstArgMember _ _) (wpAny_of_eq (a:=Value.none) (by first | rfl | (simp only[firstArgMember];rfl)) ?_)
 refine jm5 ?_ (by size_fits);simp only[raiseNew];refine qf (wpAny_handled ?_)
 first | rw[show A.in1.handled=none from hh] | rw[hh]
 refine qf (xy (wpAny_throw ?_));exact hE _ _ (((Heap.SameBut.update ..).extBut.push _).push _) ⟨_,zw _ rfl,rfl⟩
end
theorem pK{prog:Program}{w:World}{A:Around}(hh:A.handled=none)(it t:Addr)(hne:t≠it)(items:Array Value):
 Draws prog w A it [it,t] items.size (fun i v=>items[i]?=some v) (fun i h=>h.IsTupleIter it t i/\h.IsTuple t items) where
 live:=fun i h st=>let ⟨o,e,_⟩:=st.1;⟨o,e⟩
 frame:=fun i h h' st k=>⟨let ⟨o,e,r⟩:=st.1;⟨o,k it (by simp) o e,r⟩,let ⟨o,e,r⟩:=st.2;⟨o,k t (by simp) o e,r⟩⟩
 item:=fun i s Q E hi st hQ=>bI st.1 st.2 (x:=items[i]) (by simp[hi]) fun h' hit hs=>hQ _ h' s.toks (by simp[hi]) ⟨hit,st.2.extBut hs.extBut hne⟩ hs
 done:=fun s Q E st hE=>iY hh st.1 st.2 (by simp) hE
structure cQ(z TI TO i1 i2:Addr)(f1 f2:List Addr):Prop where
 zTO:TO≠z
 zTI:TI≠z
 tt:TI≠TO
 t1:TI≠i1
 t2:TI≠i2
 m1:i1∈f1
 m2:i2∈f2
 z1:z∉f1
 z2:z∉f2
 o1:TO∉f1
 o2:TO∉f2
 n1:i2∉f1
 n2:i1∉f2
theorem Draws.sb{prog:Program}{w:World}{A:Around}{it c:Addr}{fp:List Addr}{n i:Nat}{P:Nat->Value->Prop}{St:Nat->Heap->Prop}{h h':Heap}(D:Draws prog w A it fp n P St)(st:St i h)(k:Heap.SameBut c h h')(nc:c∉fp):St i h':=
 D.frame i h h' st fun b hb o e=>k.extBut b o (fun z=>nc (z ▸ hb)) e
section
variable{prog:Program}{w:World}{A:Around}{E:Value->Shared->Prop}{s:Shared}{z TI TO i1 i2:Addr}{f1 f2:List Addr}{n1 n2 k:Nat}{P1 P2:Nat->Value->Prop}{S1 S2:Nat->Heap->Prop}{a b:Value}
theorem gM{Q:Value->Shared->Prop}(D:cQ z TI TO i1 i2 f1 f2)(D1:Draws prog w A i1 f1 n1 P1 S1)(D2:Draws prog w A i2 f2 n2 P2 S2)
 (hz:IsZip s.heap z TI TO .none)(hTI:IsPair s.heap TI (.ref i1) (.ref i2))(hTO:IsPair s.heap TO a b)(h1:S1 k s.heap)(h2:S2 k s.heap)(l1:k<n1)(l2:k<n2)
 (hQ:∀x y h' tk,P1 k x->P2 k y->IsZip h' z TI TO (rawInt s.heap.objs.size)->IsPair h' TO x y->S1 (k+1) h'->S2 (k+1) h'->IsPair h' s.heap.objs.size x y->
  (∀c o,c≠z->c≠TO->c≠i1->c≠i2->s.heap.get? c=some o->h'.get? c=some o)->Q (.ref s.heap.objs.size) { s with heap:=h',toks:=tk }):
 wpAny (model prog w) A (Builtin.«zip.__next__» ⟨[.ref z],[]⟩) (fun fin s'=>∃v,fin=.done (.ret v)/\Q v s') E s:=by
 have zi1:z≠i1:=fun e=>D.z1 (e ▸ D.m1);have zi2:z≠i2:=fun e=>D.z2 (e ▸ D.m2);have oi1:TO≠i1:=fun e=>D.o1 (e ▸ D.m1);have oi2:TO≠i2:=fun e=>D.o2 (e ▸ D.m2);show wpAny _ _ (field (.ref z) 2 >>= _) _ _ _;refine qf (jd9 hz rfl (x:=.bool false) rfl ?_);show wpAny _ _ (field (.ref z) 3 >>= _) _ _ _;refine qf (jd9 hz rfl (x:=.ref TI) rfl ?_);refine qf (jd5 hTI rfl ?_);show wpAny _ _ (Builtin.SmallTypes.ownedTupleIsFree (.ref z) >>= _) _ _ _;refine qf ?_;unfold Builtin.SmallTypes.ownedTupleIsFree;refine qf (jd9 hz rfl (x:=.none) rfl (xy ?_));simp only[if_true];refine qf (wpAny_rule (qf (jd9 hz rfl (x:=.ref TO) rfl ?_)));refine qf (jf3 hz (by simp) fun g1 hz1 q1=>qf ?_);replace hz1:IsZip g1 z TI TO .ellipsis:=hz1;simp only[List.zipIdx_cons,List.zipIdx_nil,jl2,jp8];refine qf (qf (wpAny_onRaise ?_));show wpAny _ _ (Builtin.SmallTypes.nextOf (.ref i1) >>= _) _ _ _;refine(qf (D1.item k _ _ _ l1 (Draws.sb D1 h1 q1 D.z1) fun x g2 tk2 px s2 q2=>xy ?_));have p2:IsPair g2 TO a b:=q2.extBut _ _ oi1 (q1.extBut _ _ D.zTO hTO);refine qf (jd5 p2 rfl (qf (wpAny_updateSeq_pair p2 fun g3 p3 q3=>qf (wpAny_letGo (xy ?_)))));replace p3:IsPair g3 TO x b:=p3;refine qf (qf (wpAny_onRaise ?_));show wpAny _ _ (Builtin.SmallTypes.nextOf (.ref i2) >>= _) _ _ _;refine(qf (D2.item k _ _ _ l2 (Draws.sb D2 (Draws.sb D2 (Draws.sb D2 h2 q1 D.z2) q2 D.n2) q3 D.o2) fun y g4 tk4 py s4 q4=>xy ?_));have p4:IsPair g4 TO x b:=q4.extBut _ _ oi2 p3;refine qf (jd5 p4 rfl (qf (wpAny_updateSeq_pair p4 fun g5 p5 q5=>qf (wpAny_letGo (xy (xy ?_))))));replace p5:IsPair g5 TO x y:=p5;refine qf (jd5 p5 rfl (qf (wpAny_newTuple ?_)));have hsz:g5.objs.size=s.heap.objs.size:=by rw[q5.1,q4.1,q3.1,q2.1,q1.1]
 have z5:IsZip g5 z TI TO .ellipsis:=q5.extBut _ _ D.zTO.symm (q4.extBut _ _ zi2 (q3.extBut _ _ D.zTO.symm (q2.extBut _ _ zi1 hz1)));have zlt:z<g5.objs.size:=zo z5;have e1:S1 (k+1) g5:=Draws.sb D1 (Draws.sb D1 (Draws.sb D1 s2 q3 D.o1) q4 D.n1) q5 D.o1;have e2:S2 (k+1) g5:=Draws.sb D2 s4 q5 D.o2;show wpAny _ _ (Builtin.SmallTypes.ownedTupleHandOut (.ref z) (.ref g5.objs.size) >>= _) _ _ _;refine qf ?_;unfold Builtin.SmallTypes.ownedTupleHandOut;have z6:IsZip (g5.push { cls:=.type "tuple",data:=.seq #[x,y] }) z TI TO .ellipsis:=jv _ z5;refine qf (jf3 z6 (by simp) fun g7 z7 q7=>?_);replace z7:IsZip g7 z TI TO (rawInt g5.objs.size):=z7;refine jf3 z7 (by simp) fun g8 z8 q8=>?_;replace z8:IsZip g8 z TI TO (rawInt g5.objs.size):=z8;have up:∀c o,c≠z->g5.get? c=some o->g8.get? c=some o:=fun c o n e=>q8.extBut _ _ n (q7.extBut _ _ n (jv _ e));have t8:IsPair g8 g5.objs.size x y:=q8.extBut _ _ (Nat.ne_of_gt zlt) (q7.extBut _ _ (Nat.ne_of_gt zlt) (zw _ rfl));rw[hsz] at z8 t8;refine xy ⟨_,rfl,?_⟩;show Q (.ref g5.objs.size) _;rw[hsz];exact hQ x y g8 tk4 px py z8 (up _ _ D.zTO p5) (D1.frame _ _ _ e1 fun c hc o e=>up c o (fun q=>D.z1 (q ▸ hc)) e) (D2.frame _ _ _ e2 fun c hc o e=>up c o (fun q=>D.z2 (q ▸ hc)) e) t8
  fun c o c1 c2 c3 c4 e=>up c o c1 (q5.extBut _ _ c2 (q4.extBut _ _ c4 (q3.extBut _ _ c2 (q2.extBut _ _ c3 (q1.extBut _ _ c1 e)))))
theorem jy{Q:PySem.Fin->Shared->Prop}(D:cQ z TI TO i1 i2 f1 f2)(D1:Draws prog w A i1 f1 n1 P1 S1)(D2:Draws prog w A i2 f2 n2 P2 S2)
 (hz:IsZip s.heap z TI TO .none)(hTI:IsPair s.heap TI (.ref i1) (.ref i2))(hTO:IsPair s.heap TO a b)(h1:S1 k s.heap)(h2:S2 k s.heap)(hk:k=n1\/k<n1/\k=n2)
 (hE:∀h' tk e,(∀c o,c≠z->c≠TO->c≠i1->c≠i2->s.heap.get? c=some o->h'.get? c=some o)->(∃o,h'.get? e=some o/\o.cls=.type "StopIteration")->E (.ref e) { s with heap:=h',toks:=tk }):
 wpAny (model prog w) A (Builtin.«zip.__next__» ⟨[.ref z],[]⟩) Q E s:=by
 have zi1:z≠i1:=fun e=>D.z1 (e ▸ D.m1);have zi2:z≠i2:=fun e=>D.z2 (e ▸ D.m2);have oi1:TO≠i1:=fun e=>D.o1 (e ▸ D.m1);have oi2:TO≠i2:=fun e=>D.o2 (e ▸ D.m2);show wpAny _ _ (field (.ref z) 2 >>= _) _ _ _;refine qf (jd9 hz rfl (x:=.bool false) rfl ?_);show wpAny _ _ (field (.ref z) 3 >>= _) _ _ _;refine qf (jd9 hz rfl (x:=.ref TI) rfl ?_);refine qf (jd5 hTI rfl ?_);show wpAny _ _ (Builtin.SmallTypes.ownedTupleIsFree (.ref z) >>= _) _ _ _;refine qf ?_;unfold Builtin.SmallTypes.ownedTupleIsFree;refine qf (jd9 hz rfl (x:=.none) rfl (xy ?_));simp only[if_true];refine qf (wpAny_rule (qf (jd9 hz rfl (x:=.ref TO) rfl ?_)));refine qf (jf3 hz (by simp) fun g1 hz1 q1=>qf ?_);replace hz1:IsZip g1 z TI TO .ellipsis:=hz1;simp only[List.zipIdx_cons,List.zipIdx_nil,jl2,jp8];refine qf (qf (wpAny_onRaise ?_));show wpAny _ _ (Builtin.SmallTypes.nextOf (.ref i1) >>= _) _ _ _;rcases hk with e | ⟨l1,e⟩
 ·subst e;refine qf (D1.done _ _ _ (Draws.sb D1 h1 q1 D.z1) fun g2 e q2 hZ=>?_);obtain⟨oe,hoe,hce⟩:=hZ;have z2:IsZip g2 z TI TO .ellipsis:=q2 _ _ zi1 hz1;have ez:e≠z:=fun x=>by subst x;rw[z2] at hoe;cases hoe;simp at hce
  exact jf3 z2 (by simp) fun g3 _ q3=>hE g3 s.toks e (fun c o c1 _ c3 _ x=>q3.extBut _ _ c1 (q2 _ _ c3 (q1.extBut _ _ c1 x))) ⟨oe,q3.extBut _ _ ez hoe,hce⟩
 ·subst e;refine qf (D1.item k _ _ _ l1 (Draws.sb D1 h1 q1 D.z1) fun x g2 tk2 px s2 q2=>xy ?_);have p2:IsPair g2 TO a b:=q2.extBut _ _ oi1 (q1.extBut _ _ D.zTO hTO);refine qf (jd5 p2 rfl (qf (wpAny_updateSeq_pair p2 fun g3 p3 q3=>qf (wpAny_letGo (xy ?_)))));refine qf (qf (wpAny_onRaise ?_));show wpAny _ _ (Builtin.SmallTypes.nextOf (.ref i2) >>= _) _ _ _;refine qf (D2.done _ _ _ (Draws.sb D2 (Draws.sb D2 (Draws.sb D2 h2 q1 D.z2) q2 D.n2) q3 D.o2) fun g4 e q4 hZ=>?_);obtain⟨oe,hoe,hce⟩:=hZ;have z4:IsZip g4 z TI TO .ellipsis:=q4 _ _ zi2 (q3.extBut _ _ D.zTO.symm (q2.extBut _ _ zi1 hz1));have ez:e≠z:=fun x=>by subst x;rw[z4] at hoe;cases hoe;simp at hce
  exact jf3 z4 (by simp) fun g5 _ q5=>hE g5 tk2 e (fun c o c1 c2 c3 c4 x=>q5.extBut _ _ c1 (q4 _ _ c4 (q3.extBut _ _ c2 (q2.extBut _ _ c3 (q1.extBut _ _ c1 x))))) ⟨oe,q5.extBut _ _ ez hoe,hce⟩
end
section
variable{prog:Program}{w:World}{A:Around}{E:Value->Shared->Prop}{s:Shared}{z TI TO i1 i2 l1 l2:Addr}{k:Nat}{xs ys:Array Value}{a b:Value}
theorem apart2(D:ZipApart z TI TO i1 i2 l1 l2):cQ z TI TO i1 i2 [i1,l1] [i2,l2]:=
 ⟨D.TOz,D.TIz,D.TITO,D.TIi1,D.TIi2,by simp,by simp,by simp[D.i1z.symm,D.l1z.symm],by simp[D.i2z.symm,D.l2z.symm],by simp[D.TOi1,D.l1TO.symm],by simp[D.TOi2,D.l2TO.symm],by simp[D.i12.symm,D.l1i2.symm],by simp[D.i12,D.l2i1.symm]⟩
end
theorem IsTupleIter.at'{h h':Heap}{i t:Addr}{n:Nat}(x:h.IsTupleIter i t n)(k:∀o,h.get? i=some o->h'.get? i=some o):h'.IsTupleIter i t n:=let ⟨o,e,r⟩:=x;⟨o,k o e,r⟩
noncomputable abbrev zT1(h:Heap)(a:Addr):Heap:=h.push { cls:=.type "tuple_iterator",data:=.fields #[.ref a,.int 0 0] }
section
variable{X:Cx}
end
section
variable{P:Program}{w:World}{K:Fr}{h:Heap}{mg:Str->Option Value}{base:Heap}{k0 J:Nat}{g n q:Str}{st:Stmt}{ps:List Str}{sp:Nat->Sp}
theorem W0(X:K.In h)(G:h.Ns mainGlobals mg)(F:FnG K g n q st)(b:Hs n q st ps)(z:∀vs H Q E,¬sp 0 vs H Q E)
 (step:∀(d:Nat) {f:Addr} {fd:FuncData},Cal P w K mg base (k0+J*d) g ps (sp d)->Fun K n q st f fd->Es P w K mg base CX0 (k0+J*d+J) f fd ps (sp (d+1))):
 ∀d,Cal P w K mg base (k0+J*d) g ps (sp d)
 | 0=>cB X G F b fun _=>⟨fun vs H Q E h=>absurd h (z vs H Q E),fun A outer s H args us vs Q E _ _ _ _ h=>absurd h (z vs H Q E)⟩
 | d+1=>by
  have R:=W0 X G F b z step d;rw[show k0+J*(d+1)=k0+J*d+J by rw[Nat.mul_succ,Nat.add_assoc]];exact cB X G F b fun F'=>step d R F'
end
end L2
namespace L2
open PySem PySem.Spec PyProof.Rows Builtin.Str
section
variable{X:Cx}
theorem ir:MtR X "str.lstrip" (fun x xs H Q=>∃z y,x=.str z/\xs=[.str y]/\z.length<=sizeLine/\Q (.str (if stripSame y.cps.contains true false z then z else stripped y.cps.contains true false z)) H):=by
 intro pins s Z H x xs v us Q I rx rs h;obtain⟨z,y,rfl,rfl,hz,q⟩:=h;obtain⟨t,rfl⟩:=(show ∃t,v=Value.str z t from rx);obtain⟨u,rfl,ru⟩:=vals1 rs;obtain⟨t',rfl⟩:=(show ∃t,u=Value.str y t from ru);refine call_gives F.slot_str_lstrip (typeIs_str _ _ _) F.entry_str_lstrip (F.args_str_lstrip_2 _ _) (gives_str_lstrip_chars z y t t') ?_;by_cases c:stripSame y.cps.contains true false z=true
 ·rw[xh c] at q ⊢;exact⟨.str _,H,I,⟨_,rfl⟩,q⟩
 ·rw[xk c] at q ⊢;exact⟨fits_stripped _ _ _ hz,.str _,H,I.tok _,⟨_,rfl⟩,q⟩
end
end L2
namespace L2
open PySem PySem.W PySem.Spec PyProof.Rows
section
variable{κ:Type}[DecidableEq κ]
noncomputable def Fv(kvs:List (κ×V))(k:κ):Option V:=(kvs.find? fun kv=>decide (kv.1=k)).map (·.2)
noncomputable def putK(kvs:List (κ×V))(k:κ)(v:V):List (κ×V):=
 if (kvs.any fun kv=>decide (kv.1=k))=true then kvs.map (fun kv=>if kv.1=k then (kv.1,v) else kv) else kvs++[(k,v)]
theorem Fb{p:κ×V}{r:List (κ×V)}{k:κ}(e:p.1=k):Fv (p::r) k=some p.2:=by simp[Fv,ji5,e]
theorem Fd{p:κ×V}{r:List (κ×V)}{k:κ}(e:¬p.1=k):Fv (p::r) k=Fv r k:=by simp[Fv,ji5,e]
theorem Lf(k:κ):∀kvs:List (κ×V),(kvs.any fun kv=>decide (kv.1=k))=(Fv kvs k).isSome
 | []=>rfl
 | p::r=>by
  rw[jl1];by_cases e:p.1=k
  ·simp only[Fb e,decide_eq_true e,Bool.true_or,Option.isSome_some]
  ·rw[Fd e,decide_eq_false e,Bool.false_or];exact Lf k r
theorem X8(k j:κ)(y:V):∀kvs:List (κ×V),Fv (kvs.map fun kv=>if kv.1=k then (kv.1,y) else kv) j=(Fv kvs j).map fun x=>if j=k then y else x
 | []=>rfl
 | p::r=>by
  have ih:=X8 k j y r;rw[zn];by_cases h:p.1=k
  ·rw[xh h];by_cases e:p.1=j
   ·rw[Fb (p:=(p.1,y)) e,Fb e,jp2,xh (e.symm.trans h)]
   ·rw[Fd (p:=(p.1,y)) e,Fd e,ih]
  ·rw[xk h];by_cases e:p.1=j
   ·rw[Fb (p:=p) e,Fb e,jp2,xk (fun z=>h (e.trans z))]
   ·rw[Fd (p:=p) e,Fd e,ih]
theorem U8(k j:κ)(y:V):∀kvs:List (κ×V),Fv kvs k=none->Fv (kvs++[(k,y)]) j=if j=k then some y else Fv kvs j
 | [],_=>by
  by_cases e:k=j
  ·rw[xh e.symm];exact Fb (p:=(k,y)) e
  ·rw[xk (fun z=>e z.symm)];exact Fd (p:=(k,y)) e
 | p::r,hn=>by
  rw[jh7];have hk:¬p.1=k:=fun z=>by rw[Fb z] at hn;cases hn
  rw[Fd hk] at hn;have ih:=U8 k j y r hn;by_cases e:p.1=j
  ·rw[Fb e,Fb e,xk (fun z=>hk (e.trans z))]
  ·rw[Fd e,Fd e,ih]
theorem j9(kvs:List (κ×V))(k j:κ)(y:V):Fv (putK kvs k y) j=if j=k then some y else Fv kvs j:=by
 unfold putK;by_cases a:(kvs.any fun kv=>decide (kv.1=k))=true
 ·rw[xh a,X8];rw[Lf] at a;by_cases e:j=k
  ·obtain⟨x,hx⟩:=jg4.mp a;rw[xh e,e,hx,jp2,xh rfl]
  ·rw[xk e];cases Fv kvs j with
   | none=>rfl
   | some x=>rw[jp2,xk e]
 ·rw[xk a];refine U8 k j y kvs ?_;rw[Lf] at a;cases q:Fv kvs k with
  | none=>rfl
  | some x=>rw[q] at a;exact(a rfl).elim
theorem Jx(kvs:List (κ×V))(k:κ)(v:V):(putK kvs k v).length<=kvs.length+1:=by
 unfold putK;split
 ·rw[js];lia
 ·rw[zk,qo,jg3];lia
theorem Jb.isSome_eq{o:Option V}{u:Option Value}(r:Jb o u):o.isSome=u.isSome:=by
 cases o with
 | none=>cases u with
  | none=>rfl
  | some _=>exact(show False from r).elim
 | some _=>cases u with
  | none=>exact(show False from r).elim
  | some _=>rfl
theorem KV.val{kvs:List (κ×V)}{vs:List (κ×Value)}(r:KV kvs vs)(k:κ):Jb (Fv kvs k) (valueAt vs k):=by
 unfold KV at r
 induction r with
 | nil=>exact True.intro
 | @cons p q ps qs h t ih=>
  obtain⟨h1,h2⟩:=h;by_cases e:p.1=k
  ·have e':q.1=k:=h1.symm.trans e;have b:valueAt (q::qs) k=some q.2:=by simp[valueAt,ji5,e']
   rw[Fb e,b];exact h2
  ·have e':¬q.1=k:=fun z=>e (h1.trans z);have b:valueAt (q::qs) k=valueAt qs k:=by simp[valueAt,ji5,e']
   rw[Fd e,b];exact ih
theorem KV.any{kvs:List (κ×V)}{vs:List (κ×Value)}(r:KV kvs vs)(k:κ):(kvs.any fun kv=>decide (kv.1=k))=vs.any fun kv=>decide (kv.1=k):=by
 unfold KV at r
 induction r with
 | nil=>rfl
 | cons h t ih=>rw[jl1,jl1,ih,h.1]
theorem KV.repl{kvs:List (κ×V)}{vs:List (κ×Value)}(r:KV kvs vs)(k:κ){y:V}{u:Value}(ry:RelV y u):
 KV (kvs.map fun kv=>if kv.1=k then (kv.1,y) else kv) (vs.map fun kv=>if kv.1=k then (kv.1,u) else kv):=by
 unfold KV at r ⊢
 induction r with
 | nil=>exact .nil
 | @cons p q ps qs h t ih=>
  rw[zn,zn];refine .cons ?_ ih;obtain⟨h1,h2⟩:=h;by_cases e:p.1=k
  ·rw[xh e,xh (h1.symm.trans e)];exact⟨h1,ry⟩
  ·rw[xk e,xk (fun z=>e (h1.trans z))];exact⟨h1,h2⟩
theorem KV.put{kvs:List (κ×V)}{vs:List (κ×Value)}(r:KV kvs vs)(k:κ){y:V}{u:Value}(ry:RelV y u):KV (putK kvs k y) (stored vs k u):=by
 unfold putK stored;rw[r.any k];by_cases e:(vs.any fun kv=>decide (kv.1=k))=true
 ·rw[xh e,xh e];exact r.repl k ry
 ·rw[xk e,xk e];exact Paired.snoc r ⟨rfl,ry⟩
theorem KV.length{kvs:List (κ×V)}{vs:List (κ×Value)}(r:KV kvs vs):kvs.length=vs.length:=Paired.length r
end
theorem SJ{P:Program}{w:World}{k:Key}{u:Value}(r:RelV (kV k) u):(En P w).is k u=true:=by
 cases k with
 | inl i=>obtain⟨t,e⟩:=(show ∃t,u=Value.int i t from r);subst e;exact Y8 P w i t
 | inr x=>obtain⟨t,e⟩:=(show ∃t,u=Value.str x t from r);subst e;exact Jv P w x t
theorem Vj{P:Program}{w:World}:∀{ks:List Key} {us:List Value},Vals (ks.map kV) us->ItemsAre (En P w) ks us
 | [],_,r=>by rw[jk6] at r;cases r;exact .nil
 | k::ks,_,r=>by
  rw[zn] at r;cases r with
  | cons h t=>exact .cons (SJ h) (Vj t)
noncomputable abbrev KT(H:Hp):List (List Key×V)->List (List Key×Addr×Value)->Prop:=Paired fun p q=>p.1=q.1/\H q.2.1=some (.tup (p.1.map kV))/\RelV p.2 q.2.2
variable{H:Hp}
theorem KT.val{kvs:List (List Key×V)}{xs:List (List Key×Addr×Value)}(r:KT H kvs xs)(k:List Key):Jb (Fv kvs k) ((atKey xs k).map (·.2)):=by
 induction r with
 | nil=>exact True.intro
 | @cons p q ps qs h t ih=>
  obtain⟨h1,_,h2⟩:=h;by_cases e:p.1=k
  ·have e':q.1=k:=h1.symm.trans e;have b:atKey (q::qs) k=some q.2:=by simp[atKey,ji5,e']
   rw[Fb e,b];exact h2
  ·have e':¬q.1=k:=fun z=>e (h1.trans z);have b:atKey (q::qs) k=atKey qs k:=by simp[atKey,ji5,e']
   rw[Fd e,b];exact ih
theorem KT.repl{kvs:List (List Key×V)}{xs:List (List Key×Addr×Value)}(r:KT H kvs xs)(k:List Key){y:V}{u:Value}(ry:RelV y u):
 KT H (kvs.map fun kv=>if kv.1=k then (kv.1,y) else kv) (xs.map (putAt k u)):=by
 induction r with
 | nil=>exact .nil
 | @cons p q ps qs h t ih=>
  rw[zn,zn];refine .cons ?_ ih;obtain⟨h1,h2,h3⟩:=h;unfold putAt;by_cases e:p.1=k
  ·rw[xh e,xh (h1.symm.trans e)];exact⟨h1,h2,ry⟩
  ·rw[xk e,xk (fun z=>e (h1.trans z))];exact⟨h1,h2,h3⟩
theorem KT.put{kvs:List (List Key×V)}{xs:List (List Key×Addr×Value)}(r:KT H kvs xs)(k:List Key){b:Addr}{y:V}{u:Value}(hb:H b=some (.tup (k.map kV)))(ry:RelV y u):
 KT H (putK kvs k y) (storedH xs k b u):=by
 have e:(kvs.any fun kv=>decide (kv.1=k))=(atKey xs k).isSome:=by
  rw[Lf,(r.val k).isSome_eq,Option.isSome_map]
 unfold putK storedH;rw[e];by_cases q:(atKey xs k).isSome=true
 ·rw[xh q,xh q];exact r.repl k ry
 ·rw[xk q,xk q];exact Paired.snoc r ⟨rfl,hb,ry⟩
theorem KT.keeps{H':Hp}{kvs:List (List Key×V)}{xs:List (List Key×Addr×Value)}(r:KT H kvs xs)(ht:∀b ys,H b=some (.tup ys)->H' b=some (.tup ys)):KT H' kvs xs:=
 Paired.mapP r fun _ _ z=>⟨z.1,ht _ _ z.2.1,z.2.2⟩
section
variable{P:Program}{w:World}{H:Hp}{h:Heap}{a:Addr}
theorem wY{u:HO}(ok:HOk P w H h)(e:Rd H a u):Ej P w H h a u:=e.ok ok
theorem fQ{kvs:List (Key×V)}(ok:HOk P w H h)(e:Rd H a (.dK kvs)):kvs.length<=sizeLine/\(a==sysModules)=false/\∃vs,KV kvs vs/\h.DictOf (En P w) a vs:=
 show Ej P w H h a (.dK kvs) from wY ok e
theorem ACd{kvs:List (Key×V)}(ok:HOk P w H h)(e:H a=some (.dK kvs)):kvs.length<=sizeLine/\(a==sysModules)=false/\∃vs,KV kvs vs/\h.DictOf (En P w) a vs:=fQ ok (.inl e)
theorem Xb{ks:List Key}(ok:HOk P w H h)(e:H a=some (.tup (ks.map kV))):(tupleKind (En P w)).is h ks a:=by
 obtain⟨_,its,r,o,h1,h2,n,h3⟩:=(show Ej P w H h a (.tup (ks.map kV)) from ok a _ e);exact⟨o,its.toArray,n,h1,h2,h3,by simpa using Vj r⟩
theorem fL{kvs:List (List Key×V)}(ok:HOk P w H h)(e:Rd H a (.dT kvs)):kvs.length<=sizeLine/\(a==sysModules)=false/\
 ∃xs,KT H kvs xs/\h.DictOfH (tupleKind (En P w)) a xs:=by
 obtain⟨z,y,xs,r,o,es,ep,h1,h2,h3,h4,h5⟩:=(show Ej P w H h a (.dT kvs) from wY ok e);refine⟨z,y,xs,r,o,es,ep,h1,h2,h3,h4,fun x hx=>?_,h5⟩;have all:∀{l:List (List Key×V)} {m:List (List Key×Addr×Value)},KT H l m->∀x∈m,(tupleKind (En P w)).is h x.1 x.2.1:=by
  intro l m q
  induction q with
  | nil=>intro x hx;exact nomatch hx
  | @cons p q ps qs hq t ih=>
   intro x hx;rcases qq.mp hx with e | hx
   ·subst e;exact Xb ok (by rw[<-hq.1];exact hq.2.1)
   ·exact ih x hx
 exact all r x hx
theorem ACc{kvs:List (List Key×V)}(ok:HOk P w H h)(e:H a=some (.dT kvs)):kvs.length<=sizeLine/\(a==sysModules)=false/\
 ∃xs,KT H kvs xs/\h.DictOfH (tupleKind (En P w)) a xs:=fL ok (.inl e)
end
noncomputable def U5(H:Hp)(a:Addr)(y:V)(r:Option V):Prop:=
 (∃kvs k,Rd H a (.dK kvs)/\y=kV k/\r=Fv kvs k)\/∃kvs k b,Rd H a (.dT kvs)/\y=.ref b/\H b=some (.tup (k.map kV))/\r=Fv kvs k
noncomputable def jt(H:Hp)(a:Addr)(y v:V)(H':Hp):Prop:=
 (∃kvs k,H a=some (.dK kvs)/\y=kV k/\kvs.length<sizeLine/\H'=upd H a (.dK (putK kvs k v)))\/
 ∃kvs k b,H a=some (.dT kvs)/\y=.ref b/\H b=some (.tup (k.map kV))/\kvs.length<sizeLine/\H'=upd H a (.dT (putK kvs k v))
theorem U5.k{a:Addr}{kvs:List (Key×V)}{k:Key}(e:H a=some (.dK kvs)):U5 H a (kV k) (Fv kvs k):=.inl ⟨kvs,k,.inl e,rfl,rfl⟩
theorem jt.k{a:Addr}{kvs:List (Key×V)}{k:Key}{v:V}(e:H a=some (.dK kvs))(hl:kvs.length<sizeLine):jt H a (kV k) v (upd H a (.dK (putK kvs k v))):=.inl ⟨kvs,k,e,rfl,hl,rfl⟩
section
variable{X:Cx}{pins:List (Addr×Obj)}{Z:St}{H:Hp}{s:Shared}{a:Addr}{y v:V}{u r:Value}{o:Option V}{A:Around}{E:Value->Shared->Prop}
theorem Inv.big(I:Inv X pins Z H s):sysModules<s.heap.objs.size:=by
 have h:mainGlobals<s.heap.objs.size:=(I.mod.glob.keeps I.bk).lt;exact jn4 (by decide) h
theorem jU{Q:Value->Shared->Prop}(hu:A.units+1<cLine)(I:Inv X pins Z H s)(g:U5 H a y (some v))(ry:RelV y u)(h:∀w' s',Inv X pins Z H s'->RelV v w'->Q w' s'):
 wpAny (model X.prog X.w) A (getItem (.ref a) u) Q E s:=by
 rcases g with ⟨kvs,k,e,ey,l⟩ | ⟨kvs,k,b,e,ey,eb,l⟩
 ·subst ey;obtain⟨z,hd,vs,rel,dd⟩:=fQ I.hok e;obtain⟨w',hw,rw'⟩:=Jb.some_of (v:=v) (o:=valueAt vs k) (by rw[l];exact rel.val k);exact wpAny_getItem_of (SJ ry) dd.mapOf hw (h w' _ (I.tok _) rw')
 ·subst ey;cases (show u=Value.ref b from ry);obtain⟨z,hd,xs,rel,dd⟩:=fL I.hok e;obtain⟨w',hw,rw'⟩:=Jb.some_of (v:=v) (o:=(atKey xs k).map (·.2)) (by rw[l];exact rel.val k);obtain⟨p,hp,hp2⟩:=kr.mp hw;refine wpAny_getItem_heap (tupleKind_room_in1 hu) (Xb I.hok eb) dd hp ?_;rw[hp2];exact h w' _ (I.tok _) rw'
theorem vI{Q:Value->Shared->Prop}(hu:A.units+1<cLine)(I:Inv X pins Z H s)(g:U5 H a y o)(ry:RelV y u)(h:∀s',Inv X pins Z H s'->Q (.bool (!o.isSome)) s'):
 wpAny (model X.prog X.w) A (compareOp .NotIn u (.ref a)) Q E s:=by
 rcases g with ⟨kvs,k,e,ey,l⟩ | ⟨kvs,k,b,e,ey,eb,l⟩
 ·subst ey;obtain⟨z,hd,vs,rel,dd⟩:=fQ I.hok e;refine wpAny_notIn_of (SJ ry) hd dd.mapOf ?_;rw[<-(rel.val k).isSome_eq,<-l];exact h _ (I.tok _)
 ·subst ey;cases (show u=Value.ref b from ry);obtain⟨z,hd,xs,rel,dd⟩:=fL I.hok e;refine wpAny_notIn_heap (tupleKind_room_in1 hu) (Xb I.hok eb) hd dd ?_;have q:=(rel.val k).isSome_eq;rw[Option.isSome_map] at q;rw[<-q,<-l];exact h _ (I.tok _)
theorem fX{h':Heap}{t':Nat}{ob:HO}(I:Inv X pins Z H s)(mu:Mut (H a))(hs:Heap.SameBut a s.heap h')(he:∃q,h'.get? a=some q)(new:Ej X.prog X.w (upd H a ob) h' a ob):
 Inv X pins Z (upd H a ob) { s with heap:=h',toks:=t' }:=
 I.write (x:=a) (e:=a) mu (.inl rfl) (fun b q hb z=>(hs.2 b hb).trans z) he new
theorem AAT{P:Program}{w:World}{H':Hp}{h':Heap}{kvs:List (Key×V)}{vs:List (Key×Value)}(z:kvs.length<=sizeLine)(hd:(a==sysModules)=false)(rel:KV kvs vs)(dd:h'.DictOf (En P w) a vs):
 Ej P w H' h' a (.dK kvs):=⟨z,hd,vs,rel,dd⟩
theorem jT{H':Hp}{Q:Unit->Shared->Prop}(hu:A.units+1<cLine)(I:Inv X pins Z H s)(g:jt H a y v H')(ry:RelV y u)(rv:RelV v r)(h:∀s',Inv X pins Z H' s'->Q () s'):
 wpAny (model X.prog X.w) A (setItem (.ref a) u r) Q E s:=by
 rcases g with ⟨kvs,k,e,ey,l,eH⟩ | ⟨kvs,k,b,e,ey,eb,l,eH⟩
 ·subst ey eH;obtain⟨z,hd,vs,rel,dd⟩:=ACd I.hok e;have hz:vs.length<=sizeLine:=by rw[<-rel.length];exact z
  have hl:(putK kvs k v).length<=sizeLine:=by have:=Jx kvs k v;lia
  refine wpAny_setItem_pairs (hsz:=hz) (SJ ry) dd fun h' dd' hs=>h _ ?_;have he:∃q,h'.get? a=some q:=let ⟨q,_,_,hq,_⟩:=dd';⟨q,hq⟩;exact fX I (by rw[e];exact True.intro) hs he (AAT hl hd (rel.put k rv) dd')
 ·subst ey eH;cases (show u=Value.ref b from ry);obtain⟨z,hd,xs,rel,dd⟩:=ACc I.hok e;have hz:xs.length<=sizeLine:=by rw[<-Paired.length rel];exact z
  have hl:(putK kvs k v).length<=sizeLine:=by have:=Jx kvs k v;lia
  refine wpAny_setItem_heap (hsz:=hz) (tupleKind_room_in1 hu) (Xb I.hok eb) dd fun h' dd' hs=>h _ ?_;obtain⟨q,es,ep,hq,h2,h3,h4,_,h5⟩:=dd';refine fX I (by rw[e];exact True.intro) hs ⟨q,hq⟩ ⟨hl,hd,_,(rel.put k eb rv).keeps fun c ys ec=>?_,q,es,ep,hq,h2,h3,h4,h5⟩;rw[Ax (HJ ec e (fun z=>nomatch z))];exact ec
end
section
variable{X:Cx}{pins:List (Addr×Obj)}{Z:St}{H:Hp}{s:Shared}{a:Addr}{kvs:List (Key×V)}{k:Key}{u:Value}{A:Around}{E:Value->Shared->Prop}
end
noncomputable def AAs(i:Expr):Prop:=∀ov iv,subscripted i false ov iv=operate [ov,iv] (getItem ov iv)
theorem dH{prog:Program}{w:World}{A:Around}{E:Value->Shared->Prop}{s:Shared}{env:Env}{value slice:Expr}{pos:Pos}{T id:String}{Q:Value->Shared->Prop}
 (hl:typeLookup (.type T) "__getitem__"=pure (some (.builtin id)))(hs:AAs slice)
 (h:wpAny (model prog w) A (eval value env) (fun o s₁=>wpAny (model prog w) A (eval slice env) (fun i s₂=>s₂.TypeIs o T/\wpAny (model prog w) A (getItem o i) Q E s₂) E s₁) E s):
 wpAny (model prog w) A (eval (.Subscript value slice pos) env) Q E s:=by
 refine Subscript_ (ja5 h (fun o s₁ h₁=>ja5 h₁ (fun i s₂ h₂=>?_) fun _ _ x=>x) fun _ _ x=>x);obtain⟨hT,h₂⟩:=h₂;unfold subscriptTail;refine qf ?_;rw[getitemInPython_of_ne hT.not_modules];refine qf (wpAny_specialOf hT hl ?_);have fin:wpAny (model prog w) A (subscripted slice false o i) (fun r s₃=>wpAny (model prog w) A (letTemporaryGo value o r >>= fun _=>pure r) Q E s₃) E s₂:=by
  rw[hs o i];exact wpAny_operating (ja5 h₂ (fun r s₃ h₃=>qf (wpAny_letTemporaryGo (xy h₃))) fun _ _ x=>x)
 first
  | exact xy (qf fin)
  | exact qf (xy (qf fin))
  | exact qf fin
theorem ZS{X:Cx}{pins:List (Addr×Obj)}{Z:St}{s:Shared}{a:Addr}{y:V}{o:Option V}(I:Inv X pins Z H s)(g:U5 H a y o):s.TypeIs (.ref a) "dict":=by
 rcases g with ⟨kvs,k,e,_,_⟩ | ⟨kvs,k,b,e,_,_,_⟩
 ·obtain⟨_,_,vs,_,dd⟩:=fQ I.hok e;exact dd.typeIs
 ·obtain⟨_,_,xs,_,dd⟩:=fL I.hok e;exact dd.typeIs
noncomputable def lB(td ty:TE):TE:=fun Z H Q=>td Z H fun x H1=>ty Z H1 fun y H2=>∃a v,x=.ref a/\U5 H2 a y (some v)/\Q v H2
noncomputable def WN(ty td:TE):TE:=fun Z H Q=>ty Z H fun y H1=>td Z H1 fun x H2=>∃a o,x=.ref a/\U5 H2 a y o/\Q (.bl (!o.isSome)) H2
noncomputable def mR(td ty tv:TE):TS:=fun D Z H=>tv Z H fun v H1=>td Z H1 fun x H2=>ty Z H2 fun y H3=>∃a H4,x=.ref a/\jt H3 a y v H4/\D.nx Z H4
section
variable{X:Cx}{o i e value:Expr}{pos pos' tpos:Pos}{td ty tv:TE}
theorem d8(hu:X.A.units+1<cLine)(ho:PE X o td)(hi:PE X i ty)(hs:AAs i):PE X (.Subscript o i pos) (lB td ty):=by
 intro pins s Z H Q I h;refine dH PySem.F.slot_dict_getitem.lookup hs (thn (ho s Z H _ I h) fun u s1 ⟨x,H1,I1,rx,q1⟩=>thn (hi s1 Z H1 _ I1 q1) fun iv s2 hZ=>?_);obtain⟨y,H2,I2,ry,a,v,ex,g,q2⟩:=hZ;subst ex;obtain rfl:u=Value.ref a:=rx;exact⟨ZS I2 g,jU hu I2 g ry fun w' s3 I3 rw'=>⟨v,H2,I3,rw',q2⟩⟩
theorem VR(hu:X.A.units+1<cLine)(hi:PE X i ty)(ho:PE X o td):PC X .NotIn i o (WN ty td):=by
 intro pins s Z H Q I h;refine thn (hi s Z H _ I h) fun iv s1 ⟨y,H1,I1,ry,q1⟩=>thn (ho s1 Z H1 _ I1 q1) fun u s2 hZ=>?_;obtain⟨x,H2,I2,rx,a,ov,ex,g,q2⟩:=hZ;subst ex;obtain rfl:u=Value.ref a:=rx;exact vI hu I2 g ry fun s3 I3=>⟨.bl (!ov.isSome),H2,I3,rfl,q2⟩
theorem W5(hu:X.A.units+1<cLine)(ho:PE X o td)(hi:PE X i ty)(hv:PE X value tv)(hs:swapsWith value (some (.Subscript o i pos')) pos.line X.env=pure false):
 PS X (.Assign [.Subscript o i pos'] value pos) (mR td ty tv):=by
 intro pins s Z H D I h;refine wpAny_Assign_Subscript (thn (hv s Z H _ I h) fun r s1 ⟨v,H1,I1,rv,q1⟩=>thn (ho s1 Z H1 _ I1 q1) fun u s2 ⟨x,H2,I2,rx,q2⟩=>thn (hi s2 Z H2 _ I2 q2) fun iv s3 hZ=>?_) hs;obtain⟨y,H3,I3,ry,a,H4,ex,g,q3⟩:=hZ;subst ex;obtain rfl:u=Value.ref a:=rx;exact jT hu I3 g ry rv fun s4 I4=>⟨Z,H4,I4,q3⟩
end
theorem pM{P:Program}{w:World}(h:Heap)(hb:sysModules<h.objs.size):Ej P w H (h.push { cls:=.type "dict",data:=.dict #[] }) h.objs.size (.dK []):=
 ⟨ve _,beq_eq_false_iff_ne.mpr (Ne.symm (vi hb)),[],.nil,Heap.DictOf.new h⟩
noncomputable def xu:TE:=fun _ H Q=>∀p,H p=none->Q (.ref p) (upd H p (.dK []))
section
variable{X:Cx}{pos:Pos}
theorem Yx:PE X (.Dict [] [] pos) xu:=fun pins s Z H Q I h=>
 wpAny_Dict_empty ⟨.ref s.heap.objs.size,_,I.laid (a:=s.heap.objs.size) (o:=.dK []) (t':=s.toks) (fun _ _ q=>jv _ q) (ze _) (pM s.heap I.big),rfl,h _ (I.hok.fresh (ze _))⟩
end
end L2
namespace L2
open PySem PySem.Spec PyProof.Rows
section
variable{X:Cx}{pins:List (Addr×Obj)}{Z:St}{H2:Hp}{s2:Shared}{M xs:List Str}{scope:Scope}{cl:List (Str×Addr)}{C:Addr}{fp:List Addr}{E:XK}{Qe:Value->Shared->Prop}{acc:Value}
end
section
variable{X:Cx}
end
section
variable{prog:Program}{w:World}{A:Around}{E:Value->Shared->Prop}{s:Shared}{z TI TO i1 i2 l1 l2:Addr}{k:Nat}{xs ys:Array Value}{a b:Value}
theorem zU{Q:Option Value->Shared->Prop}(hh:A.handled=none)(D:ZipApart z TI TO i1 i2 l1 l2){x y:Value}(hz:IsZip s.heap z TI TO .none)(hTI:IsPair s.heap TI (.ref i1) (.ref i2))(hTO:IsPair s.heap TO a b)
 (h1:s.heap.IsTupleIter i1 l1 k)(h2:s.heap.IsListIter i2 l2 k)(t1:s.heap.IsTuple l1 xs)(t2:s.heap.IsList l2 ys)(hx:xs[k]?=some x)(hy:ys[k]?=some y)
 (hQ:∀h' tk,IsZip h' z TI TO (rawInt s.heap.objs.size)->IsPair h' TO x y->h'.IsTupleIter i1 l1 (k+1)->h'.IsListIter i2 l2 (k+1)->IsPair h' s.heap.objs.size x y->
  (∀c o,c≠z->c≠TO->c≠i1->c≠i2->s.heap.get? c=some o->h'.get? c=some o)->Q (some (.ref s.heap.objs.size)) { s with heap:=h',toks:=tk }):wpAny (model prog w) A (pyNext (.ref z)) Q E s:=by
 have hT:s.TypeIs (.ref z) "zip":=⟨_,hz,rfl⟩;have lx:k<xs.size:=(Array.getElem?_eq_some_iff.mp hx).1;have ly:k<ys.size:=(Array.getElem?_eq_some_iff.mp hy).1;have D1:=pK (prog:=prog) (w:=w) (A:=A.in1) hh i1 l1 D.l1i1 xs;have D2:=Draws.list (prog:=prog) (w:=w) (A:=A.in1) hh i2 l2 D.l2i2 ys;unfold pyNext;refine qf (wpAny_attempt (jh5 (name:=Str.ofString "__next__") hT F.slot_zip_next (jo2 F.slot_zip_next hT F.entry_zip_next
  (gM (apart2 D) D1 D2 hz hTI hTO ⟨h1,t1⟩ ⟨h2,t2⟩ lx ly fun x' y' h' tk p1 p2 a1 a2 a3 a4 a5 a6=>?_) (F.args_zip_next_1 _))))
 rw[hx] at p1;rw[hy] at p2;cases p1;cases p2;exact xy (hQ h' tk a1 a2 a3.1 a4.1 a5 a6)
theorem AAR{Q:Option Value->Shared->Prop}(hh:A.handled=none)(D:ZipApart z TI TO i1 i2 l1 l2)(hz:IsZip s.heap z TI TO .none)(hTI:IsPair s.heap TI (.ref i1) (.ref i2))(hTO:IsPair s.heap TO a b)
 (h1:s.heap.IsTupleIter i1 l1 k)(h2:s.heap.IsListIter i2 l2 k)(t1:s.heap.IsTuple l1 xs)(t2:s.heap.IsList l2 ys)(hk:k=xs.size\/k<xs.size/\k=ys.size)
 (hQ:∀h' tk,(∀c o,c≠z->c≠TO->c≠i1->c≠i2->s.heap.get? c=some o->h'.get? c=some o)->Q none { s with heap:=h',toks:=tk }):wpAny (model prog w) A (pyNext (.ref z)) Q E s:=by
 have hT:s.TypeIs (.ref z) "zip":=⟨_,hz,rfl⟩;have D1:=pK (prog:=prog) (w:=w) (A:=A.in1) hh i1 l1 D.l1i1 xs;have D2:=Draws.list (prog:=prog) (w:=w) (A:=A.in1) hh i2 l2 D.l2i2 ys;unfold pyNext;refine qf (wpAny_attempt (jh5 (name:=Str.ofString "__next__") hT F.slot_zip_next (jo2 F.slot_zip_next hT F.entry_zip_next
  (jy (apart2 D) D1 D2 hz hTI hTO ⟨h1,t1⟩ ⟨h2,t2⟩ hk fun h' tk e q ⟨o,ho,hc⟩=>?_) (F.args_zip_next_1 _))))
 refine qf (wpAny_isInstance (T:="StopIteration") (b:=true) ⟨o,ho,hc⟩ isSubtype_stop ?_);exact xy (hQ _ _ q)
end
noncomputable def vq(K:Fr)(a b:Addr):It:=
 ⟨fun i H=>∃xs ys x y,SqT K H a xs/\SqL K H b ys/\xs[i]?=some x/\ys[i]?=some y,
  fun i H v H'=>∃T x y,H T=none/\v=.ref T/\H'=upd H T (.tup [x,y])/\∀xs ys,SqT K H a xs->SqL K H b ys->xs[i]?=some x/\ys[i]?=some y,
  fun i H=>∃xs ys,SqT K H a xs/\SqL K H b ys/\i=min xs.length ys.length⟩
noncomputable def AAn(z TI TO i1 i2 a b:Addr)(i:Nat)(h:Heap):Prop:=
 IsZip h z TI TO .none/\IsPair h TI (.ref i1) (.ref i2)/\(∃p q,IsPair h TO p q)/\h.IsTupleIter i1 a i/\h.IsListIter i2 b i
theorem gO{P:Program}{w:World}{K:Fr}{es:List Expr}{kk:Nat}{pos:Pos}(z TI TO i1 i2 a b:Addr)(D:ZipApart z TI TO i1 i2 a b):
 Turn P w K (.Tuple es kk pos) (vq K a b) [z,TI,TO,i1,i2] z (AAn z TI TO i1 i2 a b) where
 mem:=by simp
 obj:=fun i h st c hc=>by
  obtain⟨h1,h2,⟨p,q,h3⟩,⟨o4,e4,_,d4⟩,⟨o5,e5,_,d5⟩⟩:=st;simp only[qq,yi,or_false] at hc;rcases hc with rfl | rfl | rfl | rfl | rfl
  ·exact⟨_,h1,fun v z=>by cases z⟩
  ·exact⟨_,h2,fun v z=>by cases z⟩
  ·exact⟨_,h3,fun v z=>by cases z⟩
  ·exact⟨_,e4,fun v z=>by rw[d4] at z;cases z⟩
  ·exact⟨_,e5,fun v z=>by rw[d5] at z;cases z⟩
 keep:=fun i h h' st k=>by
  obtain⟨h1,h2,⟨p,q,h3⟩,h4,h5⟩:=st;exact⟨k z (by simp) _ h1,k TI (by simp) _ h2,⟨p,q,k TO (by simp) _ h3⟩,IsTupleIter.at' h4 fun o e=>k i1 (by simp) o e,h5.at fun o e=>k i2 (by simp) o e⟩
 item:=by
  intro X hP hw hK hc i pins s Z H E I hf st hg;subst hP hw hK;obtain⟨xs,ys,x,y,qa,qb,ex,ey⟩:=hg;obtain⟨us,ra,pa,_⟩:=I.tuple qa;obtain⟨ws,rb,pb,_⟩:=I.list qb;obtain⟨u,hu,ru⟩:=ra.get ex;obtain⟨v,hv,rv⟩:=rb.get ey;obtain⟨h1,h2,⟨p,q,h3⟩,h4,h5⟩:=st;refine zU (xs:=us.toArray) (ys:=ws.toArray) (I.ok.hd hc) D h1 h2 h3 h4 h5 pa pb.isList (by simpa using hu) (by simpa using hv) fun h' tk a1 a2 a3 a4 a5 a6=>?_;have lt:∀{c o},s.heap.get? c=some o->s.heap.objs.size≠c:=fun e=>Nat.ne_of_gt (zo e);refine⟨.ref s.heap.objs.size,rfl,wpAny_letOwnedTupleGo_zip a1 fun g2 z2 k2=>?_⟩;have hn:H s.heap.objs.size=none:=I.hok.fresh (ze _);have k3:∀c o,c∉[z,TO,i1,i2]->s.heap.get? c=some o->g2.get? c=some o:=fun c o hc e=>by
   simp only[qq,yi,or_false,not_or] at hc;exact k2.extBut c o hc.1 (a6 c o hc.1 hc.2.1 hc.2.2.1 hc.2.2.2 e)
  refine⟨.ref s.heap.objs.size,upd H s.heap.objs.size (.tup [x,y]),I.turnedNew (ch:=[z,TO,i1,i2]) k3 (fun c hc=>hf c ?_) (ze _) ⟨?_,[u,v],.cons ru (.cons rv .nil),⟨_,k2.extBut _ _ (lt h1) a5,rfl,_,rfl⟩⟩,rfl,⟨_,x,y,hn,rfl,rfl,fun xs' ys' qa' qb'=>?_⟩,?_,fun c hc=>?_⟩
  ·simp only[qq,yi,or_false] at hc ⊢;rcases hc with h | h | h | h
   ·exact .inl h
   ·exact .inr (.inr (.inl h))
   ·exact .inr (.inr (.inr (.inl h)))
   ·exact .inr (.inr (.inr (.inr h)))
  ·show 2<=sizeLine;rw[sizeLine_eq];decide
  ·rw[I.tuple_inj qa' qa,I.list_inj qb' qb];exact⟨ex,ey⟩
  ·exact⟨z2,k3 _ _ (by simp[D.TIz,D.TITO,D.TIi1,D.TIi2]) h2,⟨_,_,k2.extBut _ _ D.TOz a2⟩,IsTupleIter.at' a3 fun o e=>k2.extBut _ _ D.i1z e,a4.at fun o e=>k2.extBut _ _ D.i2z e⟩
  ·have hlt:s.heap.objs.size≠c:=by
    simp only[qq,yi,or_false] at hc;obtain⟨o4,e4,_⟩:=h4;obtain⟨o5,e5,_⟩:=h5;rcases hc with rfl | rfl | rfl | rfl | rfl
    ·exact lt h1
    ·exact lt h2
    ·exact lt h3
    ·exact lt e4
    ·exact lt e5
   rw[Ax hlt.symm];exact(hf c hc).1
 done:=by
  intro X hP hw hK hc i pins s Z H E I hf st hg;subst hP hw hK;obtain⟨xs,ys,qa,qb,e⟩:=hg;obtain⟨us,ra,pa,_⟩:=I.tuple qa;obtain⟨ws,rb,pb,_⟩:=I.list qb;have la:=ra.length;have lb:=rb.length;obtain⟨h1,h2,⟨p,q,h3⟩,h4,h5⟩:=st;refine AAR (xs:=us.toArray) (ys:=ws.toArray) (I.ok.hd hc) D h1 h2 h3 h4 h5 pa pb.isList (by simp;lia) fun h' tk k=>⟨rfl,I.turnedL (ch:=[z,TO,i1,i2]) (fun c o hc e=>?_) fun c hc=>hf c ?_⟩
  ·simp only[qq,yi,or_false,not_or] at hc;exact k c o hc.1 hc.2.1 hc.2.2.1 hc.2.2.2 e
  simp only[qq,yi,or_false] at hc ⊢;rcases hc with h | h | h | h
  ·exact .inl h
  ·exact .inr (.inr (.inl h))
  ·exact .inr (.inr (.inr (.inl h)))
  ·exact .inr (.inr (.inr (.inr h)))
 self:=fun _ _ _ _ _ st h=>jo3 st.1 h
noncomputable abbrev zLL(h:Heap)(a:Addr):Heap:=h.push { cls:=.type "list_iterator",data:=.fields #[.ref a,.int 0 0] }
noncomputable abbrev zL3(h:Heap)(a b:Addr):Heap:=(zLL (zT1 h a) b).push { cls:=.type "tuple",data:=.seq #[.ref h.objs.size,.ref (zT1 h a).objs.size] }
noncomputable abbrev zL4(h:Heap)(a b:Addr):Heap:=(zL3 h a b).push { cls:=.type "tuple",data:=.seq #[.none,.none] }
noncomputable abbrev zL5(h:Heap)(a b:Addr):Heap:=(zL4 h a b).push { cls:=.type "zip",data:=.fields #[.none,.bool false,.bool false,.ref (zLL (zT1 h a) b).objs.size,.ref (zL3 h a b).objs.size] }
theorem bJ(l1 l2:Addr)(xs ys:Array Value):
 Meets (Builtin.«zip.__new__» ⟨[.type "zip",.ref l1,.ref l2],[]⟩) (fun _ R s=>s.heap.IsTuple l1 xs/\s.heap.IsList l2 ys/\R (.ok (.ret (.ref (zL4 s.heap l1 l2).objs.size))) { s with heap:=zL5 s.heap l1 l2 }):=
 .of_wp fun prog w A R s h=>by
  obtain⟨hp,g,d,tk,os⟩:=s;obtain⟨t1,t2,h⟩:=h;have hsub:=sub_zip;have hL1:Heap.IsTuple (Shared.heap ⟨hp,g,d,tk,os⟩) l1 xs:=t1;have hL2:Heap.IsList (Shared.heap ⟨hp.push { cls:=.type "tuple_iterator",data:=.fields #[.ref l1,.int 0 0] },g,d,tk,os⟩) l2 ys:=t2.at fun o e=>jv _ e
  wp_walk using wpAny_pyIter_tuple hL1,wpAny_pyIter_list hL2
  exact⟨_,rfl,h⟩
theorem jd{prog:Program}{w:World}{A:Around}{E:Value->Shared->Prop}{s:Shared}{l1 l2:Addr}{xs ys:Array Value}{Q:Value->Shared->Prop}(t1:s.heap.IsTuple l1 xs)(t2:s.heap.IsList l2 ys)
 (h:∀h',IsZip h' (s.heap.objs.size+4) (s.heap.objs.size+2) (s.heap.objs.size+3) .none->IsPair h' (s.heap.objs.size+2) (.ref s.heap.objs.size) (.ref (s.heap.objs.size+1))->IsPair h' (s.heap.objs.size+3) .none .none->
  h'.IsTupleIter s.heap.objs.size l1 0->h'.IsListIter (s.heap.objs.size+1) l2 0->(∀c o,s.heap.get? c=some o->h'.get? c=some o)->Q (.ref (s.heap.objs.size+4)) { s with heap:=h' }):
 wpAny (model prog w) A (call (.type "zip") [.ref l1,.ref l2]) Q E s:=by
 refine callType_new F.called_zip (by decide) (F.typeCall_zip_2 _ _) (F.newCall_zip_2 _ _) (fun obj=>F.args_object_init_3 obj _ _) F.entry_zip_new (bJ l1 l2 xs ys) ⟨t1,t2,?_⟩;have z1:(zT1 s.heap l1).objs.size=s.heap.objs.size+1:=ji0 ..;have z2:(zLL (zT1 s.heap l1) l2).objs.size=s.heap.objs.size+2:=by rw[ji0,z1]
 have z3:(zL3 s.heap l1 l2).objs.size=s.heap.objs.size+3:=by rw[ji0,z2]
 have z4:(zL4 s.heap l1 l2).objs.size=s.heap.objs.size+4:=by rw[ji0,z3]
 have p1:∀c o,(zL4 s.heap l1 l2).get? c=some o->(zL5 s.heap l1 l2).get? c=some o:=fun c o e=>jv _ e;have p2:∀c o,(zL3 s.heap l1 l2).get? c=some o->(zL5 s.heap l1 l2).get? c=some o:=fun c o e=>p1 c o (jv _ e);have p3:∀c o,(zLL (zT1 s.heap l1) l2).get? c=some o->(zL5 s.heap l1 l2).get? c=some o:=fun c o e=>p2 c o (jv _ e);have p4:∀c o,(zT1 s.heap l1).get? c=some o->(zL5 s.heap l1 l2).get? c=some o:=fun c o e=>p3 c o (jv _ e);have g5:(zL5 s.heap l1 l2).get? (zL4 s.heap l1 l2).objs.size=some _:=zw _ rfl;have g4:(zL5 s.heap l1 l2).get? (zL3 s.heap l1 l2).objs.size=some _:=p1 _ _ (zw _ rfl);have g3:(zL5 s.heap l1 l2).get? (zLL (zT1 s.heap l1) l2).objs.size=some _:=p2 _ _ (zw _ rfl);have g2:(zL5 s.heap l1 l2).get? (zT1 s.heap l1).objs.size=some _:=p3 _ _ (zw _ rfl);have g1:(zL5 s.heap l1 l2).get? s.heap.objs.size=some _:=p4 _ _ (zw _ rfl);show _/\_;rw[z2,z3,z4] at g5;rw[z1,z2] at g3;rw[z3] at g4;rw[z1] at g2;rw[z4];exact⟨⟨_,g5,rfl⟩,h _ g5 g3 g4 ⟨_,g1,rfl,rfl⟩ ⟨_,g2,rfl,rfl⟩ fun c o x=>p4 c o (jv _ x)⟩
noncomputable def w5(K:Fr)(ta:TA):TI:=fun Z H R=>ta Z H fun vs H1=>∃a b,vs=[.ref a,.ref b]/\(∃xs ys,SqT K H1 a xs/\SqL K H1 b ys)/\R (vq K a b) H1
section
variable{X:Cx}
theorem uH{a b:Expr}{ta:TA}{p pos:Pos}{es:List Expr}{kk:Nat}{tp:Pos}(hg:Gl X "zip")(hm:X.mg "zip"=none)(ha:PA X [a,b] ta)(hs:starEach [a,b] X.env=[(false,eval a X.env),(false,eval b X.env)]:=by rfl)(hs2:starEach [b] X.env=[(false,eval b X.env)]:=by rfl):
 PI X (.Tuple es kk tp) (.Call (.Name "zip" p) [a,b] [] pos) (w5 X.K ta):=by
 intro pins s Z H R I h;refine Call_ (Hl I hg hm boot_zip (vc (thn (ha (pos:=pos) pins s Z H _ I h) fun us s1 ⟨vs,H1,I1,r1,q1⟩=>?_) (by rw[hs,hs2]) (by rw[hs2];rfl)));obtain⟨x,y,e,⟨xs,ys,qa,qb⟩,q⟩:=q1;subst e;obtain⟨ia,ra,pa,_⟩:=I1.tuple qa;obtain⟨ib,rb,pb,_⟩:=I1.list qb;cases r1 with
 | cons r rr=>
  cases rr with
  | cons r' rr=>
   cases rr;cases (show _=Value.ref x from r);cases (show _=Value.ref y from r');have l1:x<s1.heap.objs.size:=by obtain⟨o,eo,_⟩:=id pa;exact zo eo
   have l2:y<s1.heap.objs.size:=by obtain⟨o,eo,_⟩:=pb.isList;exact zo eo
   refine jd pa pb.isList fun h' hz hTI hTO hi1 hi2 hk=>?_;refine jo3 hz ?_;refine⟨_,_,_,_,H1,rfl,I1.kept (t':=s1.toks) fun c o e=>hk c o e,gO _ _ _ _ _ x y (jz l1 l2),⟨hz,hTI,⟨_,_,hTO⟩,hi1,hi2⟩,fun c hc=>?_,q⟩;have hcs:s1.heap.objs.size<=c:=by
    simp only[qq,yi,or_false] at hc;rcases hc with rfl | rfl | rfl | rfl | rfl
    ·exact vj _ _
    ·exact vj _ _
    ·exact vj _ _
    ·exact ze _
    ·exact vj _ _
   exact I1.fpOk hcs (I1.hok.fresh hcs)
end
theorem tV{K:Fr}{ta:TA}{Z:St}{H:Hp}{R:It->Hp->Prop}(h:ta Z H fun vs H1=>∃a b,vs=[.ref a,.ref b]/\(∃xs ys,SqT K H1 a xs/\SqL K H1 b ys)/\R (vq K a b) H1):w5 K ta Z H R:=h
noncomputable def KD(P:Program)(w:World)(K:Fr)(a:Addr)(kvs:List (Key×V)):Prop:=
 (a==sysModules)=false/\∀h:Heap,K.In h->∃vs,KV kvs vs/\h.DictOf (En P w) a vs
noncomputable def esK(p:Params)(l:List (Str×Tok×Addr)):List DictEntry:=l.map fun x=>⟨PyData.keyHash p x.1,.str x.1 x.2.1,.ref x.2.2⟩
theorem d9(P:Program)(w:World)(p:Params):∀l:List (Str×Tok×Addr),Pairs (En P w) (esK p l) (l.map fun x=>(Sum.inr x.1,Value.ref x.2.2))
 | []=>.nil
 | x::l=>.cons (Jv P w x.1 x.2.1) rfl (d9 P w p l)
theorem ACT:∀l:List (Str×Tok×Addr),KV (κ:=Key) (l.map fun x=>(Sum.inr x.1,V.ref x.2.2)) (l.map fun x=>(Sum.inr x.1,Value.ref x.2.2))
 | []=>.nil
 | x::l=>.cons ⟨rfl,rfl⟩ (ACT l)
theorem ww{P:Program}{w:World}{K:Fr}{a:Addr}{n:Nat}(l:List (Str×Tok×Addr))(e:K.lookup a=some ⟨.type "dict",none,.dict (esK w.params l).toArray n,#[]⟩)(nd:(l.map (·.1)).Nodup)(hs:(a==sysModules)=false):
 KD P w K a (l.map fun x=>(Sum.inr x.1,V.ref x.2.2)):=
 ⟨hs,fun h X=>⟨_,ACT l,_,_,_,X _ _ e,⟨rfl,rfl,rfl⟩,rfl,fun d hd=>by
  have hd:d∈esK w.params l:=by simpa using hd
  obtain⟨x,hx,rfl⟩:=ya.mp hd;exact⟨.inr x.1,Jv P w x.1 x.2.1,rfl⟩,by simpa using d9 P w w.params l,by
   rw[ua];exact List.pairwise_map.mpr ((List.pairwise_map.mp nd).imp fun h z=>h (Sum.inr.inj z))⟩⟩
noncomputable def aA(P:Program)(w:World)(K:Fr)(td ty:TE):TE:=fun Z H Q=>td Z H fun x H1=>ty Z H1 fun y H2=>∃a kvs k v,x=.ref a/\KD P w K a kvs/\y=kV k/\Fv kvs k=some v/\Q v H2
noncomputable def dC(neg:Bool)(P:Program)(w:World)(K:Fr)(ty td:TE):TE:=fun Z H Q=>ty Z H fun y H1=>td Z H1 fun x H2=>∃a kvs k,x=.ref a/\KD P w K a kvs/\y=kV k/\Q (.bl (if neg then !(Fv kvs k).isSome else (Fv kvs k).isSome)) H2
section
variable{X:Cx}{o i e:Expr}{pos:Pos}{td ty tf:TE}
theorem Rv(ho:PE X o td)(hi:PE X i ty)(hs:AAs i):PE X (.Subscript o i pos) (aA X.prog X.w X.K td ty):=by
 intro pins s Z H Q I h;refine dH PySem.F.slot_dict_getitem.lookup hs (thn (ho s Z H _ I h) fun u s1 ⟨x,H1,I1,rx,q1⟩=>thn (hi s1 Z H1 _ I1 q1) fun iv s2 hZ=>?_);obtain⟨y,H2,I2,ry,a,kvs,k,v,ex,kd,ey,l,q2⟩:=hZ;subst ex ey;obtain rfl:u=Value.ref a:=rx;obtain⟨vs,rel,dd⟩:=kd.2 _ I2.kIn;obtain⟨w',hw,rw'⟩:=Jb.some_of (v:=v) (o:=valueAt vs k) (by rw[<-l];exact rel.val k);exact⟨dd.typeIs,wpAny_getItem_of (SJ ry) dd.mapOf hw ⟨v,H2,I2.tok _,rw',q2⟩⟩
theorem uN(hi:PE X i ty)(ho:PE X o td):PC X .In i o (dC false X.prog X.w X.K ty td):=by
 intro pins s Z H Q I h;refine thn (hi s Z H _ I h) fun iv s1 ⟨y,H1,I1,ry,q1⟩=>thn (ho s1 Z H1 _ I1 q1) fun u s2 hZ=>?_;obtain⟨x,H2,I2,rx,a,kvs,k,ex,kd,ey,q2⟩:=hZ;subst ex ey;obtain rfl:u=Value.ref a:=rx;obtain⟨vs,rel,dd⟩:=kd.2 _ I2.kIn;refine wpAny_in_of (SJ ry) kd.1 dd.mapOf ?_;rw[<-(rel.val k).isSome_eq];exact⟨.bl _,H2,I2.tok _,rfl,q2⟩
theorem bC(hi:PE X i ty)(ho:PE X o td):PC X .NotIn i o (dC true X.prog X.w X.K ty td):=by
 intro pins s Z H Q I h;refine thn (hi s Z H _ I h) fun iv s1 ⟨y,H1,I1,ry,q1⟩=>thn (ho s1 Z H1 _ I1 q1) fun u s2 hZ=>?_;obtain⟨x,H2,I2,rx,a,kvs,k,ex,kd,ey,q2⟩:=hZ;subst ex ey;obtain rfl:u=Value.ref a:=rx;obtain⟨vs,rel,dd⟩:=kd.2 _ I2.kIn;refine wpAny_notIn_of (SJ ry) kd.1 dd.mapOf ?_;rw[<-(rel.val k).isSome_eq];exact⟨.bl _,H2,I2.tok _,rfl,q2⟩
theorem ABz:PE X e (fun _ _ _=>False):=fun _ _ _ _ _ _ h=>h.elim
end
section
variable{prog:Program}{w:World}{A:Around}{E:Value->Shared->Prop}{s:Shared}
end
section
open PySem.Builtin PySem.Builtin.Str
theorem Mj(x:Str)(c L:Nat):∀(n k free:Nat) (acc:Array Nat),k+n=x.length+1->free<=k->acc.size<=L->
 (forIn (List.range' k n) (acc,free) (StrLaws.occBody x ⟨#[c]⟩ x.length L)).run.fst.toList=acc.toList++(plc c k ((cps x).drop k)).take (L-acc.size)
 | 0,k,free,acc,h,_,_=>by
  rw[uj (by rw[Ke];lia)];show acc.toList=acc.toList++List.take _ [];rw[List.take_nil,xz]
 | n+1,k,free,acc,h,hf,ha=>by
  rw[List.range'_succ,jl2];have one:(⟨#[c]⟩:Str).length=1:=rfl;by_cases full:acc.size=L
  ·have ih:=Mj x c L n (k+1) free acc (by lia) (by lia) ha;unfold StrLaws.occBody;rw[xk fun y=>by have:acc.size<L:=y.1.1.1;lia,show L-acc.size=0 by lia,jp9,xz];rw[show L-acc.size=0 by lia,jp9,xz] at ih;exact ih
  by_cases z:(cps x)[k]?=some c
  ·have kl:k<(cps x).length:=(qv.mp z).1;have hs:=(StrLaws.subAt_one x c k).mpr z;have ed:(cps x).drop k=c::(cps x).drop (k+1):=by
    rw[ja6 kl,(qv.mp z).2]
   have ih:=Mj x c L n (k+1) (k+1) (acc.push k) (by lia) (ze _) (by rw[Array.size_push];lia);unfold StrLaws.occBody;rw[xh ⟨⟨⟨by show acc.size<L;lia,hf⟩,hs.1⟩,hs.2⟩,ed];unfold plc;rw[xh rfl,show L-acc.size=(L-(acc.push k).size)+1 by rw[Array.size_push];lia,List.take_succ_cons];have e2:acc.toList++k::(plc c (k+1) ((cps x).drop (k+1))).take (L-(acc.push k).size)=(acc.push k).toList++(plc c (k+1) ((cps x).drop (k+1))).take (L-(acc.push k).size):=by
    rw[Array.toList_push,jc5];rfl
   rw[e2];exact ih
  ·have hs:¬(k+(⟨#[c]⟩:Str).length<=x.length/\subAt x ⟨#[c]⟩ k=true):=fun y=>z ((StrLaws.subAt_one x c k).mp y);have ih:=Mj x c L n (k+1) free acc (by lia) (by lia) ha;have ep:plc c k ((cps x).drop k)=plc c (k+1) ((cps x).drop (k+1)):=by
    by_cases kl:k<(cps x).length
    ·rw[ja6 kl];have:(cps x)[k]≠c:=fun y=>z (by rw[qm kl,y]);show(if (cps x)[k]=c then _ else _)=_;rw[xk this]
    ·rw[uj (by lia),uj (by lia)];rfl
   unfold StrLaws.occBody;rw[xk fun y=>hs ⟨y.1.2,y.2⟩,ep];exact ih
theorem W6(c:Nat):∀(p l:List Nat) (k:Nat),c∉p->plc c k (p++c::l)=(k+p.length)::plc c (k+p.length+1) l
 | [],l,k,_=>by show(if c=c then _ else _)=_;rw[xh rfl];rfl
 | a::p,l,k,h=>by
  have ne:a≠c:=fun z=>h (by rw[z];exact qc);show(if a=c then _ else plc c (k+1) (p++c::l))=_;rw[xk ne,W6 c p l (k+1) fun z=>h (qh _ z),qo];rw[show k+1+p.length=k+(p.length+1) by lia]
noncomputable def uB:V->List V->Hp->VK->Prop:=fun x xs H Q=>∃(z:Str) (c:Nat) (A B C:List Nat),x=.str z/\xs=[.str ⟨#[c]⟩,.int 2]/\c<256/\cps z=A++c::(B++c::C)/\c∉A/\c∉B/\z.length<=1000000/\∀l,H l=none->Q (.ref l) (upd H l (.lst [.str ⟨A.toArray⟩,.str ⟨B.toArray⟩,.str ⟨C.toArray⟩]))
theorem iZ{X:Cx}:MtR X "str.split" uB:=by
 intro pins s Z H x xs v us Q I rx rs h;obtain⟨z,c,A,B,C,rfl,rfl,hc,ez,hA,hB,hz,q⟩:=h;obtain⟨t,rfl⟩:=(show ∃t,v=Value.str z t from rx);cases rs with
 | cons ru rs=>
  obtain⟨t',rfl⟩:=(show ∃t,_=Value.str ⟨#[c]⟩ t from ru);obtain⟨u,rfl,ru2⟩:=vals1 rs;obtain⟨t2,rfl⟩:=(show ∃t,u=Value.int 2 t from ru2);have zl:z.length=A.length+(B.length+(C.length+1)+1):=by rw[<-Ke,ez];simp
  have sl:z.length<=sizeLine:=zv hz (by decide);have k1:PySem.Builtin.Str.strKind (⟨#[c]⟩:Str)=1:=by
   unfold PySem.Builtin.Str.strKind;simp[hc]
  have k0:1<=PySem.Builtin.Str.strKind z:=by
   unfold PySem.Builtin.Str.strKind
   repeat' split
   all_goals lia
  have h1:(decide (z.length<(⟨#[c]⟩:Str).length)||decide (PySem.Builtin.Str.strKind z<PySem.Builtin.Str.strKind ⟨#[c]⟩))=false:=by
   rw[k1,Bool.or_eq_false_iff];exact⟨decide_eq_false (by show ¬z.length<1;lia),decide_eq_false (by lia)⟩
  have eo:occurrences z ⟨#[c]⟩ 0 z.length (limitOf z 2)=[A.length,A.length+1+B.length]:=by
   rw[show limitOf z 2=2 from rfl,StrLaws.occ_eq];have:=Mj z c 2 (z.length+1) 0 0 #[] (by lia) (ze _) (ve _);rw[jj6,ez,W6 c A _ 0 hA,W6 c B _ _ hB] at this;simpa using this
  have ep:partsBetween z (occurrences z ⟨#[c]⟩ 0 z.length (limitOf z 2)) (⟨#[c]⟩:Str).length=[⟨A.toArray⟩,⟨B.toArray⟩,⟨C.toArray⟩]:=by
   rw[eo];show[strSub z 0 A.length,strSub z (A.length+1) (A.length+1+B.length),strSub z (A.length+1+B.length+1) z.length]=_;have e1:strSub z 0 A.length=⟨A.toArray⟩:=RD (je4.mp (by
    rw[StrLaws.strSub_toList,show z.cps.toList=_ from ez,jj6,Nat.sub_zero,List.take_left'];rfl))
   have e2:strSub z (A.length+1) (A.length+1+B.length)=⟨B.toArray⟩:=RD (je4.mp (by
    rw[StrLaws.strSub_toList,show z.cps.toList=_ from ez,show A++c::(B++c::C)=(A++[c])++(B++c::C) by simp,List.drop_left' (by simp),show A.length+1+B.length-(A.length+1)=B.length by lia,List.take_left'];rfl))
   have e3:strSub z (A.length+1+B.length+1) z.length=⟨C.toArray⟩:=RD (je4.mp (by
    rw[StrLaws.strSub_toList,show z.cps.toList=_ from ez,show A++c::(B++c::C)=(A++c::(B++[c]))++C by simp,List.drop_left' (by simp;lia),uk (by lia)]))
   rw[e1,e2,e3]
  refine call_meets F.slot_str_split (typeIs_str _ _ _) F.entry_str_split (F.args_str_split_3 _ _ _) (meets_str_split_sep_max z ⟨#[c]⟩ 2 t t' t2 (by decide) h1 rfl (by rw[eo];rfl) sl (by rw[ep];show 3<=sizeLine;decide)) ?_;rw[ep];exact⟨.ref _,_,I.laid (a:=s.heap.objs.size) (o:=.lst [.str ⟨A.toArray⟩,.str ⟨B.toArray⟩,.str ⟨C.toArray⟩]) (fun _ _ e=>jv _ e) (ze _) ⟨by show 3<=sizeLine;decide,strsFrom s.toks [⟨A.toArray⟩,⟨B.toArray⟩,⟨C.toArray⟩],0,WT [⟨A.toArray⟩,⟨B.toArray⟩,⟨C.toArray⟩] _,zw _ rfl⟩,rfl,q _ I.fresh⟩
end
end L2
namespace L2
open PySem PySem.Spec PyProof.Rows PySem.W
section
variable{X:Cx}{o:Expr}{to:TE}{apos cpos:Pos}
end
end L2
namespace L2
open PySem PySem.Spec PyProof.Rows
noncomputable def Li(mg:Str->Option Value)(L:List (Str×Sp))(tf:TE)(t:TA):TE:=fun Z H Q=>tf Z H fun v H1=>∃f x sp,v=.ref f/\(x,sp)∈L/\mg x=some (.ref f)/\t Z H1 fun vs H2=>sp vs H2 Q E0
section
variable{X:Cx}{o i e:Expr}{pos:Pos}{tf:TE}
theorem nH{k:Nat}{L:List (Str×Sp)}{es:List Expr}{t:TA}{p:Pos}(CV:Hr X.prog X.w X.K X.mg X.base k L)(hr:Ec k X.A)(hf:PE X (.Subscript o i p) tf)(ha:PA X (e::es) t)
 (he:starEach (e::es) X.env=(false,eval e X.env)::starEach es X.env:=by rfl)(hpl:(backTo pos (starEach es X.env)).any (·.1)=false:=by rfl):
 PE X (.Call (.Subscript o i p) (e::es) [] pos) (Li X.mg L tf t):=by
 intro pins s Z H Q I h;show wpAny _ _ (do callWith pos (<-eval (.Subscript o i p) X.env) [] (backTo pos (starEach (e::es) X.env)) (backToKw pos (keywordEach [] X.env))) _ _ _;refine qf (thn (hf s Z H _ I h) fun u s1 hZ=>?_);obtain⟨v,H1,I1,rv,f,y,sp,ev,hm,hmg,q1⟩:=hZ;subst ev;obtain rfl:u=Value.ref f:=rv;obtain⟨ps,C⟩:=CV.get hm;obtain⟨f',fd,F,b,kp,m⟩:=C.ex;have ef:f'=f:=by
  rw[hmg] at m;injection m with m;injection m with m;exact m.symm
 subst ef;refine jd2 (h₀:=X.base) I1.ok.mod.kin kp (thn (ha (pos:=pos) pins s1 Z _ _ I1 q1) fun us s2 ⟨vs,H2,I2,r,q⟩=>⟨I2.kIn,?_⟩) he hpl;dsimp only at q;have hl:us.length=ps.length:=by rw[<-r.length];exact F.len _ _ _ _ q
 have hb:=b s2 us I2.kIn (by rw[xz];exact hl);rw[xz] at hb;show wpAny _ _ (call (.ref f') us) _ _ _;refine wpAny_call (jn8 (F.run X.A X.stack s2 H2 ⟨us,[]⟩ us vs Q _ hr I2.env0 hb r q) fun z s' hq=>?_);cases z with
 | error e=>exact False.elim hq
 | ok fl=>
  cases fl with
  | ret u=>exact I2.after hq
  | next=>exact False.elim hq
  | brk=>exact False.elim hq
  | cont=>exact False.elim hq
end
noncomputable def ACr(K:Fr)(g n q:Str)(st:Stmt)(ds:Array Value):Prop:=∃f fd,PySem.W.nsIn K mainGlobals g=some (some (.ref f))/\KZ K n q st f fd ds
noncomputable def AAt(K:Fr)(C:Addr)(x n q:Str)(st:Stmt)(ds:Array Value):Prop:=∃f fd,PySem.W.findIn K (.ref C) x=some (some (.ref f))/\KZ K n q st f fd ds/\PySem.W.typeIn K (.ref f)=some (.type "function")
noncomputable def ACs(K:Fr)(C:Addr)(x n q:Str)(st:Stmt)(ds:Array Value):Prop:=∃f fd,PySem.W.findCls K (.ref C) (.type "type") x=some (.val (.ref f))/\KZ K n q st f fd ds
noncomputable abbrev X3(n q:Str)(st:Stmt)(ps:List Str)(dv:List Value)(ds:Array Value)(m:Nat):Prop:=∀(T:Addr) (kV doc pm:Value) (an:Option Addr) (cdv ct:Value) (us:List Value),us.length=m->
 ∃k:Option (Array Value)->Sem (List (Str×Value)),bindArgs (PySem.W.fnOf n q (Ey st) (DQ st) (BP st) (.ref T) kV doc pm an cdv ct) ⟨us,[]⟩=seqItems? (.ref T) >>= k/\k (some ds)=pure (ps.zip (us++dv))
section
variable{K:Fr}{g n q:Str}{C f T:Addr}{st:Stmt}{oc to:Value}{od an td:Option Addr}{osl ts:Array (Option Value)}{kV doc pm cdv ct:Value}{ds:Array Value}{tn:Nat}
theorem u6(a:PySem.W.nsIn K mainGlobals g=some (some (.ref f)))(l:K.lookup f=some ⟨oc,od,.func (PySem.W.fnOf n q (Ey st) (DQ st) (BP st) (.ref T) kV doc pm an cdv ct),osl⟩)
 (c:PySem.W.codeIn K cdv q=true)(k:PySem.W.keepIn K (.ref f)=true)(t:K.lookup T=some ⟨to,td,.seq ds tn,ts⟩):ACr K g n q st ds:=⟨f,_,a,Xg l c k t rfl⟩
theorem uz(a:PySem.W.findIn K (.ref C) g=some (some (.ref f)))(l:K.lookup f=some ⟨oc,od,.func (PySem.W.fnOf n q (Ey st) (DQ st) (BP st) (.ref T) kV doc pm an cdv ct),osl⟩)
 (c:PySem.W.codeIn K cdv q=true)(k:PySem.W.keepIn K (.ref f)=true)(t:K.lookup T=some ⟨to,td,.seq ds tn,ts⟩)(u:PySem.W.typeIn K (.ref f)=some (.type "function")):AAt K C g n q st ds:=⟨f,_,a,Xg l c k t rfl,u⟩
theorem u9(a:PySem.W.findCls K (.ref C) (.type "type") g=some (.val (.ref f)))(l:K.lookup f=some ⟨oc,od,.func (PySem.W.fnOf n q (Ey st) (DQ st) (BP st) (.ref T) kV doc pm an cdv ct),osl⟩)
 (c:PySem.W.codeIn K cdv q=true)(k:PySem.W.keepIn K (.ref f)=true)(t:K.lookup T=some ⟨to,td,.seq ds tn,ts⟩):ACs K C g n q st ds:=⟨f,_,a,Xg l c k t rfl⟩
end
section
variable{P:Program}{w:World}{K:Fr}{h:Heap}{mg:Str->Option Value}{base:Heap}{g n q:Str}{C:Addr}{st:Stmt}{ps:List Str}{k:Nat}{sp:Sp}{ds:Array Value}{CX:CXT}{x:Str}
theorem vN(X:K.In h)(G:h.Ns mainGlobals mg)(Q:ACr K g n q st ds)(b:X3 n q st ps [] ds ps.length)(ok:∀{f:Addr} {fd:FuncData} {ds:Array Value},KZ K n q st f fd ds->Es P w K mg base CX0 k f fd ps sp):Cal P w K mg base k g ps sp:=by
 obtain⟨f,fd,a,F⟩:=Q;exact⟨⟨f,fd,ok F,F.bindsD _ rfl b,F.kp,jh3 X G a⟩⟩
theorem TF(X:K.In h)(G:h.Ns mainGlobals mg)(mk:PySem.W.makesIn K C=true)(kp:PySem.W.keepIn K (.ref C)=true)(nC:PySem.W.nsIn K mainGlobals x=some (some (.ref C)))(Q:AAt K C "__init__" n q st ds)(b:X3 n q st ps [] ds ps.length)
 (ok:∀{f:Addr} {fd:FuncData} {ds:Array Value},KZ K n q st f fd ds->Es P w K mg base CX k f fd ps sp):jx P w K mg base CX k x C ps sp:=by
 obtain⟨f,fd,a,F,u⟩:=Q;exact⟨⟨f,fd,ok F,F.bindsD _ rfl b,⟨mk,a,jb3.mpr u,kp⟩,jh3 X G nC⟩⟩
theorem jg{dv:List Value}{dvs:List V}(m:Nat)(hm:m+dv.length=ps.length)(X:K.In h)(G:h.Ns mainGlobals mg)(mk:PySem.W.makesIn K C=true)(kp:PySem.W.keepIn K (.ref C)=true)(nC:PySem.W.nsIn K mainGlobals x=some (some (.ref C)))(Q:AAt K C "__init__" n q st ds)(b:X3 n q st ps dv ds m)
 (r:Vals dvs dv)(ok:∀{f:Addr} {fd:FuncData} {ds:Array Value},KZ K n q st f fd ds->Es P w K mg base CX k f fd ps sp):qe P w K mg base CX k x C ps dvs sp:=by
 obtain⟨f,fd,a,F,u⟩:=Q;exact⟨⟨f,fd,_,ok F,F.bindsD _ hm b,r,⟨mk,a,jb3.mpr u,kp⟩,jh3 X G nC⟩⟩
theorem pW(X:K.In h)(G:h.Ns mainGlobals mg)(nC:PySem.W.nsIn K mainGlobals x=some (some (.ref C)))(bsp:PySem.W.specialIn K (.ref C) "__getattribute__"=some (some (.builtin "type.__getattribute__")))(brd:PySem.W.readsIn K C (.type "type")=true)(Q:ACs K C "__init__" n q st ds)(b:X3 n q st ps [] ds ps.length)
 (ok:∀{f:Addr} {fd:FuncData} {ds:Array Value},KZ K n q st f fd ds->Es P w K mg base CX0 k f fd ps sp):AAv P w K mg base k x ps sp:=by
 obtain⟨f,fd,a,F⟩:=Q;exact⟨⟨f,C,fd,ok F,F.bindsD _ rfl b,⟨jh3 X G nC,bsp,brd,a,F.kp⟩⟩⟩
end
variable{X:Cx}{x:Str}{p q pos:Pos}{j:Int}{kd:Nat}
theorem pxT(i:Nat)(hN:X.N[i]?=some x:=by rfl)(hv:Vis X.env.scope x:=by first | exact Or.inl rfl | exact Or.inr (Or.inl rfl) | exact Or.inr (Or.inr rfl))(hd:(x==("__debug__":Str))=false:=by decide)
 (hcd:(x==("__classdict__":Str))=false:=by decide):PE X (.Subscript (.Name x p) (.Constant (.int j) kd q) pos) (tOp (uE X.K) (Lh i) (tC (.int j))):=Dp LQ (pv i hN hv hd hcd) Ae (fun _ _=>rfl)
theorem pxL(i:Nat)(hN:X.N[i]?=some x:=by rfl)(hv:Vis X.env.scope x:=by first | exact Or.inl rfl | exact Or.inr (Or.inl rfl) | exact Or.inr (Or.inr rfl))(hd:(x==("__debug__":Str))=false:=by decide)
 (hcd:(x==("__classdict__":Str))=false:=by decide):PE X (.Subscript (.Name x p) (.Constant (.int j) kd q) pos) (tOp (uF X.K) (Lh i) (tC (.int j))):=Dp FZ (pv i hN hv hd hcd) Ae (fun _ _=>rfl)
end L2
namespace L2
open PySem PySem.W PySem.Spec PyProof.Rows
class Stp (G:Prop) (T:outParam Prop):Prop where
 go:T->G
instance:Stp (xj t u D Z H) (t { D with nx:=u D } Z H):=⟨id⟩
instance:Stp (ABI te D Z H) (te Z H D.rt):=⟨id⟩
instance:Stp (lG te g D Z H) (te Z H fun x H1=>g x Z H1 D.nx):=⟨id⟩
instance:Stp (ABN c t u D Z H) (c Z H fun b H1=>if b=true then t D Z H1 else u D Z H1):=⟨id⟩
instance:Stp (wL D Z H) (D.nx Z H):=⟨id⟩
instance:Stp (wN te D Z H) (te Z H fun _ H1=>D.nx Z H1):=⟨id⟩
instance:Stp (tOp r ta tb Z H Q) (ta Z H fun x H1=>tb Z H1 fun y H2=>r x y H2 Q):=⟨id⟩
instance:Stp (tC v Z H Q) (Q v H):=⟨id⟩
instance:Stp (tUn r ta Z H Q) (ta Z H fun x H1=>r x H1 Q):=⟨id⟩
instance:Stp (wI t Z H Q) (t Z H fun x H'=>∃k,x=.bl k/\Q k H'):=⟨id⟩
instance:Stp (L2.tB t Z H Q) (t Z H fun x H'=>∃k,x=.bl k/\Q k H'):=⟨id⟩
instance:Stp (ABL t Z H Q) (t Z H fun c H1=>Q (!c) H1):=⟨id⟩
instance:Stp (ABR t u Z H Q) (t Z H fun c H1=>if c=true then u Z H1 Q else Q false H1):=⟨id⟩
instance:Stp (tOr t u Z H Q) (t Z H fun c H1=>if c=true then Q true H1 else u Z H1 Q):=⟨id⟩
instance:Stp (wQ ta tb Z H Q) (ta Z H fun x H1=>∃c,x=.bl c/\if c=true then tb Z H1 Q else Q (.bl false) H1):=⟨id⟩
instance:Stp (ABK ta tb Z H Q) (ta Z H fun x H1=>∃c,x=.bl c/\if c=true then Q (.bl true) H1 else tb Z H1 Q):=⟨id⟩
instance:Stp (wK ta Z H Q) (ta Z H fun x H1=>∃c,x=.bl c/\Q (.bl (!c)) H1):=⟨id⟩
instance:Stp (lD r r' ta tb tc Z H Q) (ta Z H fun x H1=>tb Z H1 fun y H2=>r x y H2 fun z H3=>∃k,z=.bl k/\(if k=true then tc Z H3 fun w' H4=>r' y w' H4 Q else Q (.bl false) H3)):=⟨id⟩
instance:Stp (dF sp dvs E t Z H Q) (t Z H fun vs H1=>sp (vs++dvs) H1 Q E):=⟨id⟩
instance:Stp (tCB r t Z H Q) (t Z H fun vs H1=>r vs H1 Q):=⟨id⟩
instance:Stp (YG Z H Q) (Q [] H):=⟨id⟩
instance:Stp (wO ta tr Z H Q) (ta Z H fun x H1=>tr Z H1 fun xs H2=>Q (x::xs) H2):=⟨id⟩
instance:Stp (ABG t Z H Q) (t Z H fun xs H1=>xs.length<=sizeLine/\∀p,H1 p=none->Q (.ref p) (upd H1 p (.tup xs))):=⟨id⟩
instance:Stp (rH t Z H Q) (t Z H fun xs H1=>xs.length<=sizeLine/\∀p,H1 p=none->Q (.ref p) (upd H1 p (.lst xs))):=⟨id⟩
instance {K:Fr}:Stp (ABQ K T r to Z H Q) (to Z H fun x H1=>tyV K T x H1/\r x [] H1 Q):=⟨id⟩
instance:Stp (VB C sp dvs E0 t Z H Q) (t Z H fun vs H1=>∀x dx,H1 x=none->H1 dx=none->dx≠x->sp (.ref x::(vs++dvs)) (upd (upd H1 dx (.own x)) x (.ins C dx [])) (fun v H2=>v=.non/\Q (.ref x) H2) E0):=⟨id⟩
instance {K:Fr}:Stp (xq K ta f Z H Q) (ta Z H fun x H1=>∃a C dx fs v,x=.ref a/\H1 a=some (.ins C dx fs)/\Cls K C/\DG K C f/\fs.lookup f=some v/\Q v H1):=⟨id⟩
instance {K:Fr}:Stp (ABm K ta tv f D Z H) (tv Z H fun y H1=>ta Z H1 fun x H2=>∃a C dx fs,x=.ref a/\H2 a=some (.ins C dx fs)/\Cls K C/\DG K C f/\fs.length<1000/\D.nx Z (upd H2 a (.ins C dx (DN f y fs)))):=⟨id⟩
instance:Stp (YH C m sp [] E0 ta t Z H Q) (ta Z H fun x H1=>∃a dx fs,x=.ref a/\H1 a=some (.ins C dx fs)/\fs.lookup m=none/\t Z H1 fun vs H2=>sp (x::(vs++[])) H2 Q E0):=⟨id⟩
instance:Stp (Z9 L m ta t Z H Q) (ta Z H fun x H1=>∃a C dx fs sp,(C,sp)∈L/\x=.ref a/\H1 a=some (.ins C dx fs)/\fs.lookup m=none/\t Z H1 fun vs H2=>sp (x::(vs++[])) H2 Q E0):=⟨id⟩
instance:Stp (tLR ta Z H Q) (ta Z H fun vs H1=>∃(i j c:Int) (n:Nat),(vs=[.int i,.int j,.int c]\/(vs=[.int i,.int j]/\c=1))/\0<c/\c<1073741824/\Builtin.Range.small i j c=true/\Builtin.Range.rangeSize i j c=(n:Int)/\n<=1000000/\
 ∀l,H1 l=none->Q (.ref l) (upd H1 l (.lst ((List.range n).map fun(k:Nat)=>V.int (i+(k:Int)*c))))):=⟨id⟩
instance:Stp (ABM ta Z H Q) (ta Z H fun vs H1=>∃(i j:Int),vs=[.int i,.int j]/\i<=j/\j-i<=1000000/\
 ∀l,H1 l=none->Q (.ref l) (upd H1 l (.lst ((List.range (j-i).toNat).map fun(k:Nat)=>V.int (i+(k:Int)))))):=⟨id⟩
instance:Stp (tSl r te tl th Z H Q) (te Z H fun x H1=>tl Z H1 fun l H2=>th Z H2 fun u H3=>r x l u H3 Q):=⟨id⟩
instance:Stp (wJ t Z H Q) (t Z H fun x H1=>∃i,x=.int i/\Q (some i) H1):=⟨id⟩
instance:Stp (dB Z H Q) (Q none H):=⟨id⟩
instance:Stp (wH ta Z H Q) (ta Z H fun x H'=>∃i:Int,x=.int i/\Q (i != 0) H'):=⟨id⟩
instance:Stp (ACb to ti t v Z H Q) (to Z H fun o H1=>ti Z H1 fun i H2=>t o i v H2 fun H3=>Q Z H3):=⟨id⟩
instance:Stp (ABJ i j ta D Z H) (ta Z H fun vs H1=>∃v w,vs=[v,w]/\D.nx ((Z.set i (some v)).set j (some w)) H1):=⟨id⟩
class StL (N:List Str) (vs:List V) (τ:outParam St):Prop where
 e:start N vs=τ
instance i_st0:StL [] [] []:=⟨rfl⟩
instance i_st1{n:Str}{N:List Str}{v:V}{vs:List V}{τ:St}[h:StL N vs τ]:StL (n::N) (v::vs) (some v::τ):=⟨by
 rw[<-h.e];unfold start;rw[qo,qo,Nat.add_sub_add_right];rfl⟩
instance i_st2{n:Str}{N:List Str}{τ:St}[h:StL N [] τ]:StL (n::N) [] (none::τ):=⟨by
 rw[<-h.e];rfl⟩
class SeL (Z:St) (i:Nat) (v:Option V) (τ:outParam St):Prop where
 e:Z.set i v=τ
instance i_se0{Z:St}{x v:Option V}:SeL (x::Z) 0 v (v::Z):=⟨rfl⟩
instance i_se1{Z τ:St}{x v:Option V}{i:Nat}[h:SeL Z i v τ]:SeL (x::Z) (i+1) v (x::τ):=⟨yk (x:: ·) h.e⟩
class NoL (Z:St) (τ:outParam St):Prop where
 e:Z=τ
instance i_no0:NoL [] []:=⟨rfl⟩
instance i_no1{Z:St}{x:Option V}:NoL (x::Z) (x::Z):=⟨rfl⟩
instance i_no2{N:List Str}{vs:List V}{τ:St}[h:StL N vs τ]:NoL (start N vs) τ:=⟨h.e⟩
instance i_no3{Z τ ρ:St}{v:Option V}{i:Nat}[h:NoL Z τ][g:SeL τ i v ρ]:NoL (Z.set i v) ρ:=⟨by rw[h.e,g.e]⟩
class LoL (Z:St) (i:Nat) (v:outParam V):Prop where
 e:Z[i]?=some (some v)
instance i_lo0{Z:St}{v:V}:LoL (some v::Z) 0 v:=⟨rfl⟩
instance i_lo1{Z:St}{x:Option V}{i:Nat}{v:V}[h:LoL Z i v]:LoL (x::Z) (i+1) v:=⟨h.e⟩
instance i_gname0{i:Nat}{v:V}{Z:St}{H:Hp}{Q:St->Hp->Prop}:Stp (Im i v Z H Q) (Q (Z.set i (some v)) H):=⟨id⟩
instance i_gname{i:Nat}{v:V}{Z τ ρ:St}{H:Hp}{Q:St->Hp->Prop}[h:NoL Z τ][g:SeL τ i (some v) ρ]:Stp (Im i v Z H Q) (Q ρ H):=⟨fun z=>by
 show Q (Z.set i (some v)) H
 rwa [h.e,g.e]⟩
instance i_var{i:Nat}{Z τ:St}{H:Hp}{Q:VK}{v:V}[h:NoL Z τ][g:LoL τ i v]:Stp (Lh i Z H Q) (Q v H):=⟨fun z=>N6 (h.e ▸ g.e) z⟩
instance:Stp (wM t Z H Q) (t Str.empty Z H Q):=⟨id⟩
instance {K:Fr}:Stp (wG K ta f Z H Q) (ta Z H fun x H1=>∃a C d fs v,x=.ref a/\H1 a=some (AAu a (.ref C) (some d))/\H1 d=some (.xd fs)/\AAo K C/\PySem.W.hasDictIn K C=true/\PySem.W.findIn K (.ref C) f=some none/\fs.lookup f=some v/\Q v H1):=⟨id⟩
instance:Stp (tIf t ta tb Z H Q) (t Z H fun c H1=>if c=true then ta Z H1 Q else tb Z H1 Q):=⟨id⟩
end L2
local macro_rules | `(tactic| fail "l")=> `(tactic| (intro _ _ _ _ h;(repeat (cases h;rename_i h));subst_vars;rfl))
local macro_rules | `(tactic| fail "v")=> `(tactic| ((with_reducible refine' L2.N6 ?ev ?_);(case ev=>exact rfl)))
local macro_rules | `(tactic| fail "d")=> `(tactic| (refine' (?fw:L2.Vw _ _) ?pw ?xw;(case pw=>intro h;(repeat1' (first | with_reducible refine L2.Stp.go ?_ | fail "v"));exact h);(case fw=>exact fun _ x=>x)))
local macro_rules | `(tactic| fail"r")=> `(tactic| first | fail"d" | (with_reducible first | refine L2.ABp ?_ | refine L2.ADS ?_) | ((with_reducible refine' L2.ABq ?es ?_);(case es=>exact rfl)) | ((with_reducible refine' L2.ABo ?es ?_);(case es=>exact rfl)) | (with_reducible first | refine L2.dj ?_ | refine L2.yz ?_ | refine L2.tY ?_ | refine L2.mj ?_ | refine L2.mX ?_ | refine L2.tu ?_) | ((with_reducible refine' L2.Du ?ec ?_);(case ec=>first | ((with_reducible show L2.ACv _ _);exact⟨by decide,by decide,by decide⟩) | ((with_reducible show L2.qi _ _);exact L2.Fi (by decide) (by decide)) | (show (0:Int)<_;first | decide | lia | exact L2.mz _))))
local macro_rules | `(tactic| symm)=> `(tactic| repeat fail "r")
local macro_rules | `(tactic| walk_at"fm")=> `(tactic| (repeat (first | exact List.forall_mem_nil _ | refine List.forall_mem_cons.mpr ⟨by with_unfolding_all rfl,?_⟩)))
local macro_rules | `(tactic| walk_at"f")=> `(tactic| ((with_reducible refine L2.N8 ?_);(with_reducible first | refine L2.Jr ?_ | refine L2.wZ ?_ | refine L2.W3 ?_ | refine L2.tZ ?_ | refine L2.dZ ?_ | refine L2.mU ?_)))
local macro_rules | `(tactic| walk_at"b0")=> `(tactic| (intro _ _ _ _ _ _ us hl;have h:us=[]:=jb5.mp hl;subst h;rfl))
local macro_rules | `(tactic| walk_at"b1")=> `(tactic| (intro _ _ _ _ _ _ us hl;obtain⟨_,h⟩:=L2.ADa hl;subst h;rfl))
local macro_rules | `(tactic| walk_at"b2")=> `(tactic| (intro _ _ _ _ _ _ us hl;obtain⟨_,_,h⟩:=L2.ADZ hl;subst h;rfl))
local macro_rules | `(tactic| walk_at"b3")=> `(tactic| (intro _ _ _ _ _ _ us hl;obtain⟨_,_,_,h⟩:=L2.za hl;subst h;rfl))
local macro_rules | `(tactic| walk_at"b4")=> `(tactic| (intro _ _ _ _ _ _ us hl;obtain⟨_,_,_,_,h⟩:=L2.ACS hl;subst h;rfl))
local macro_rules | `(tactic| walk_at"b5")=> `(tactic| (intro _ _ _ _ _ _ us hl;obtain⟨_,_,_,_,_,h⟩:=L2.zZ hl;subst h;rfl))
local macro_rules | `(tactic| walk_at"b6")=> `(tactic| (intro _ _ _ _ _ _ us hl;obtain⟨_,_,_,_,_,_,h⟩:=L2.ADY hl;subst h;rfl))
local macro_rules | `(tactic| walk_at"b7")=> `(tactic| (intro _ _ _ _ _ _ us hl;obtain⟨_,_,_,_,_,_,_,h⟩:=L2.ACR hl;subst h;rfl))
local macro_rules | `(tactic| walk_at"b8")=> `(tactic| (intro _ _ _ _ _ _ us hl;obtain⟨_,_,_,_,_,_,_,_,h⟩:=L2.ADX hl;subst h;rfl))
namespace Fw
inductive Ex2{T0 T1:Type}(p:T0->T1->Prop):Prop where
 | i (x0:T0) (x1:T1) (h:p x0 x1):Ex2 p
inductive Ex3{T0 T1 T2:Type}(p:T0->T1->T2->Prop):Prop where
 | i (x0:T0) (x1:T1) (x2:T2) (h:p x0 x1 x2):Ex3 p
inductive Ex4{T0 T1 T2 T3:Type}(p:T0->T1->T2->T3->Prop):Prop where
 | i (x0:T0) (x1:T1) (x2:T2) (x3:T3) (h:p x0 x1 x2 x3):Ex4 p
inductive Ex5{T0 T1 T2 T3 T4:Type}(p:T0->T1->T2->T3->T4->Prop):Prop where
 | i (x0:T0) (x1:T1) (x2:T2) (x3:T3) (x4:T4) (h:p x0 x1 x2 x3 x4):Ex5 p
inductive Ex6{T0 T1 T2 T3 T4 T5:Type}(p:T0->T1->T2->T3->T4->T5->Prop):Prop where
 | i (x0:T0) (x1:T1) (x2:T2) (x3:T3) (x4:T4) (x5:T5) (h:p x0 x1 x2 x3 x4 x5):Ex6 p
inductive Ex7{T0 T1 T2 T3 T4 T5 T6:Type}(p:T0->T1->T2->T3->T4->T5->T6->Prop):Prop where
 | i (x0:T0) (x1:T1) (x2:T2) (x3:T3) (x4:T4) (x5:T5) (x6:T6) (h:p x0 x1 x2 x3 x4 x5 x6):Ex7 p
inductive Ex8{T0 T1 T2 T3 T4 T5 T6 T7:Type}(p:T0->T1->T2->T3->T4->T5->T6->T7->Prop):Prop where
 | i (x0:T0) (x1:T1) (x2:T2) (x3:T3) (x4:T4) (x5:T5) (x6:T6) (x7:T7) (h:p x0 x1 x2 x3 x4 x5 x6 x7):Ex8 p
inductive Ex9{T0 T1 T2 T3 T4 T5 T6 T7 T8:Type}(p:T0->T1->T2->T3->T4->T5->T6->T7->T8->Prop):Prop where
 | i (x0:T0) (x1:T1) (x2:T2) (x3:T3) (x4:T4) (x5:T5) (x6:T6) (x7:T7) (x8:T8) (h:p x0 x1 x2 x3 x4 x5 x6 x7 x8):Ex9 p
inductive ACt{T0 T1 T2 T3 T4 T5 T6 T7 T8 T9:Type}(p:T0->T1->T2->T3->T4->T5->T6->T7->T8->T9->Prop):Prop where
 | i (x0:T0) (x1:T1) (x2:T2) (x3:T3) (x4:T4) (x5:T5) (x6:T6) (x7:T7) (x8:T8) (x9:T9) (h:p x0 x1 x2 x3 x4 x5 x6 x7 x8 x9):ACt p
inductive An3(p0 p1 p2:Prop):Prop where
 | i (h0:p0) (h1:p1) (h2:p2):An3 p0 p1 p2
inductive An4(p0 p1 p2 p3:Prop):Prop where
 | i (h0:p0) (h1:p1) (h2:p2) (h3:p3):An4 p0 p1 p2 p3
inductive An5(p0 p1 p2 p3 p4:Prop):Prop where
 | i (h0:p0) (h1:p1) (h2:p2) (h3:p3) (h4:p4):An5 p0 p1 p2 p3 p4
inductive An6(p0 p1 p2 p3 p4 p5:Prop):Prop where
 | i (h0:p0) (h1:p1) (h2:p2) (h3:p3) (h4:p4) (h5:p5):An6 p0 p1 p2 p3 p4 p5
inductive An7(p0 p1 p2 p3 p4 p5 p6:Prop):Prop where
 | i (h0:p0) (h1:p1) (h2:p2) (h3:p3) (h4:p4) (h5:p5) (h6:p6):An7 p0 p1 p2 p3 p4 p5 p6
inductive An8(p0 p1 p2 p3 p4 p5 p6 p7:Prop):Prop where
 | i (h0:p0) (h1:p1) (h2:p2) (h3:p3) (h4:p4) (h5:p5) (h6:p6) (h7:p7):An8 p0 p1 p2 p3 p4 p5 p6 p7
inductive An9(p0 p1 p2 p3 p4 p5 p6 p7 p8:Prop):Prop where
 | i (h0:p0) (h1:p1) (h2:p2) (h3:p3) (h4:p4) (h5:p5) (h6:p6) (h7:p7) (h8:p8):An9 p0 p1 p2 p3 p4 p5 p6 p7 p8
inductive wB(p0 p1 p2 p3 p4 p5 p6 p7 p8 p9:Prop):Prop where
 | i (h0:p0) (h1:p1) (h2:p2) (h3:p3) (h4:p4) (h5:p5) (h6:p6) (h7:p7) (h8:p8) (h9:p9):wB p0 p1 p2 p3 p4 p5 p6 p7 p8 p9
inductive ACz(p0 p1 p2 p3 p4 p5 p6 p7 p8 p9 p10 p11 p12:Prop):Prop where
 | i (h0:p0) (h1:p1) (h2:p2) (h3:p3) (h4:p4) (h5:p5) (h6:p6) (h7:p7) (h8:p8) (h9:p9) (h10:p10) (h11:p11) (h12:p12):ACz p0 p1 p2 p3 p4 p5 p6 p7 p8 p9 p10 p11 p12
theorem LR(r d:Int)(hd:d≠0):0<=r.fmod d*d/\(r.fmod d).natAbs<d.natAbs:=by
 rcases(by omega:0<d\/d<0) with h | h
 ·have a:=jl8 r h;have b:=Int.fmod_lt_of_pos r h;exact⟨jf4 a (Zl h),by omega⟩
 ·have e:r.fmod d= -((-r).fmod (-d)):=by
   rw[Int.fmod_def,Int.fmod_def,Int.neg_fdiv_neg,Int.neg_mul];omega
  have a:=jl8 (-r) (b:= -d) (by omega);have b:=Int.fmod_lt_of_pos (-r) (b:= -d) (by omega);rw[e];generalize (-r).fmod (-d)=z at*
  refine⟨?_,by omega⟩;have:=jf4 a (show 0<= -d by omega);rw[Int.neg_mul];rw[ji4] at this;omega
structure EqI(a b u v r u' v' r':Int):Prop where
 e1:u*a+v*b=r
 e2:u'*a+v'*b=r'
 g:Int.gcd r r'=Int.gcd a b
 ph:(u=1/\v=0/\r=a/\u'=0/\v'=1/\r'=b)\/
  (b≠0/\r≠0/\0<=r'*r/\r.natAbs<=b.natAbs/\r'.natAbs<=b.natAbs/\u'.natAbs*r.natAbs+u.natAbs*r'.natAbs<=b.natAbs/\u.natAbs<=b.natAbs+1)
theorem EqI.start(a b:Int):EqI a b 1 0 a 0 1 b:=⟨by lia,by lia,rfl,.inl ⟨rfl,rfl,rfl,rfl,rfl,rfl⟩⟩
theorem Ju(u q x:Int):(u-q*x).natAbs<=u.natAbs+q.natAbs*x.natAbs:=by
 have h:=Int.natAbs_sub_le u (q*x);rw[jm6] at h;exact h
variable{r d:Int}
theorem RN(hd:d≠0)(hs:0<=d*r):(r-r.fdiv d*d).natAbs+(r.fdiv d).natAbs*d.natAbs=r.natAbs:=by
 have e:r.fmod d+r.fdiv d*d=r:=jm9 r d;have e2:r-r.fdiv d*d=r.fmod d:=by omega
 rw[e2,<-jm6];have fs:=LR r d hd;rcases(by omega:0<d\/d<0) with h | h
 ·have r0:0<=r:=by
   rcases(by omega:0<=r\/r<0) with z | z
   ·exact z
   ·have:=Int.mul_neg_of_pos_of_neg h z;omega
  have q0:0<=r.fdiv d:=Int.fdiv_nonneg r0 (Zl h);have a:=jl8 r h;have p:=jf4 q0 (Zl h);omega
 ·have r0:r<=0:=by
   rcases(by omega:r<=0\/0<r) with z | z
   ·exact z
   ·have:=Int.mul_neg_of_neg_of_pos h z;omega
  have q0:0<=r.fdiv d:=Int.fdiv_nonneg_of_nonpos_of_nonpos r0 (Zl h);have a:r.fmod d<=0:=by
   rcases(by omega:r.fmod d<=0\/0<r.fmod d) with z | z
   ·exact z
   ·have:=Int.mul_neg_of_pos_of_neg z h;omega
  have p:=jf4 q0 (show 0<= -d by omega);rw[ji4] at p;omega
variable{a r':Int}
theorem EqI.step{b u v u' v':Int}(I:EqI a b u v r u' v' r')(h:r'≠0):
 EqI a b u' v' r' (u-r.fdiv r'*u') (v-r.fdiv r'*v') (r-r.fdiv r'*r')/\(r-r.fdiv r'*r').natAbs<r'.natAbs:=by
 have e:r.fmod r'+r.fdiv r'*r'=r:=jm9 r r';have e2:r-r.fdiv r'*r'=r.fmod r':=by lia
 have fs:=LR r r' h;refine⟨⟨I.e2,?_,?_,?_⟩,by rw[e2];exact fs.2⟩
 ·have:=I.e1;have:=I.e2
  grind
 ·rw[Int.gcd_sub_mul_right_right,Int.gcd_comm];exact I.g
 ·right;rcases I.ph with ⟨h1,h2,h3,h4,h5,h6⟩ | ⟨hb,hr,hs,l1,l2,l3,l4⟩
  ·subst h1 h2 h3 h4 h5 h6;refine⟨h,h,by rw[e2];exact fs.1,ze _,by rw[e2];lia,?_,by simp⟩;simp
  ·have q:=RN h hs;refine⟨hb,h,by rw[e2];exact fs.1,l2,by rw[e2];lia,?_,?_⟩
   ·have m:=Ju u (r.fdiv r') u';generalize (r-r.fdiv r'*r').natAbs=A at*
    generalize (u-r.fdiv r'*u').natAbs=B at*
    generalize (r.fdiv r').natAbs=C at*
    have k1:B*r'.natAbs<=(u.natAbs+C*u'.natAbs)*r'.natAbs:=jj5 _ m;have k2:(u.natAbs+C*u'.natAbs)*r'.natAbs+u'.natAbs*A=u.natAbs*r'.natAbs+u'.natAbs*(A+C*r'.natAbs):=by grind
    rw[q] at k2;lia
   ·have:u'.natAbs*1<=u'.natAbs*r.natAbs:=jh2 _ (by lia);lia
theorem v_bound{b u v:Int}(hb:b≠0)(e:u*a+v*b=r)(l1:r.natAbs<=b.natAbs)(l4:u.natAbs<=b.natAbs+1):v.natAbs<=1+2*a.natAbs:=by
 have e1:v*b=r-u*a:=by lia
 have h:=Ju r u a;rw[<-e1,jm6] at h;have hb':0<b.natAbs:=by lia
 have k:u.natAbs*a.natAbs<=(b.natAbs+1)*a.natAbs:=jj5 _ l4;have k2:a.natAbs*1<=a.natAbs*b.natAbs:=jh2 _ hb';have k3:v.natAbs*b.natAbs<=(1+2*a.natAbs)*b.natAbs:=by grind
 exact Nat.le_of_mul_le_mul_right k3 hb'
theorem EqI.bounds{b u v u' v':Int}(I:EqI a b u v r u' v' r'):
 u.natAbs<=b.natAbs+1/\v.natAbs<=1+2*a.natAbs/\u'.natAbs<=b.natAbs+1/\v'.natAbs<=1+2*a.natAbs/\r.natAbs<=a.natAbs+b.natAbs/\r'.natAbs<=b.natAbs:=by
 rcases I.ph with ⟨h1,h2,h3,h4,h5,h6⟩ | ⟨hb,hr,hs,l1,l2,l3,l4⟩
 ·subst h1 h2 h3 h4 h5 h6;refine⟨by simp,by simp,by simp,by simp,by lia,by lia⟩
 ·have:u'.natAbs*1<=u'.natAbs*r.natAbs:=jh2 _ (by lia);have lu:u'.natAbs<=b.natAbs+1:=by lia
  exact⟨l4,v_bound hb I.e1 l1 l4,lu,v_bound hb I.e2 l2 lu,by lia,l2⟩
theorem aj(hd:d≠0):(r.fdiv d).natAbs<=r.natAbs+1:=by
 have e:r.fmod d+r.fdiv d*d=r:=jm9 r d;have fs:=(LR r d hd).2;have h:(r.fdiv d*d).natAbs<=r.natAbs+(r.fmod d).natAbs:=by omega
 rw[jm6] at h;have d1:1<=d.natAbs:=by omega
 generalize (r.fdiv d).natAbs=x at*
 generalize d.natAbs=y at*
 generalize r.natAbs=z at*
 rcases(by omega:x<=1\/2<=x) with c | c
 ·omega
 ·obtain⟨k,rfl⟩:∃k,x=k+1:=⟨x-1,by omega⟩;have:(k+1)*y=k*y+y:=jp7 k y;have:k*1<=k*y:=jh2 k d1;omega
structure Eqn(a b u v g:Int):Prop where
 eq:u*a+v*b=g
 gd:g=(Int.gcd a b:Int)
 bu:u.natAbs<=b.natAbs+1
 bv:v.natAbs<=1+2*a.natAbs
theorem EqI.done{b u v u' v':Int}(I:EqI a b u v r u' v' 0):(r<0->Eqn a b (-u) (-v) (-r))/\(¬r<0->Eqn a b u v r):=by
 have g:=I.g;rw[Int.gcd_zero_right] at g;have B:=I.bounds;refine⟨fun h=>⟨?_,by lia,by lia,by lia⟩,fun h=>⟨I.e1,by lia,B.1,B.2.1⟩⟩;have:=I.e1;rw[Int.neg_mul,Int.neg_mul];lia
theorem Mr{b:Int}(ha:0<a):0<(Int.gcd a b:Int):=by
 have:Int.gcd a b≠0:=fun z=>by
  have:=Int.eq_zero_of_gcd_eq_zero_left z;lia
 lia
theorem bY{b:Int}(ha:0<a):(Int.gcd a b:Int)<=a:=jk8 ha (jh6 ..)
noncomputable def Bx(a b:Int):Int:=a/(Int.gcd a b:Int)*b
theorem Bp{b:Int}(ha:0<a)(hb:0<b):
 0<Bx a b/\a∣Bx a b/\b∣Bx a b/\Bx a b*(Int.gcd a b:Int)=a*b/\(∀t,a∣t->b∣t->Bx a b∣t)/\Bx a b=(Int.lcm a b:Int):=by
 have gp:=Mr (b:=b) ha;obtain⟨x,hx⟩:(Int.gcd a b:Int)∣a:=jh6 ..;obtain⟨y,hy⟩:(Int.gcd a b:Int)∣b:=jj3 ..;have e1:a/(Int.gcd a b:Int)=x:=by
  have gne:(Int.gcd a b:Int)≠0:=by lia
  generalize hg:(Int.gcd a b:Int)=g at*
  rw[hx];exact jk4 x gne
 have e:Bx a b=x*b:=by unfold Bx;rw[e1]
 have pr:Bx a b*(Int.gcd a b:Int)=a*b:=by rw[e];conv=>rhs;rw[hx]
                                          grind
 have pl:(Int.lcm a b:Int)*(Int.gcd a b:Int)=a*b:=by
  have h:=Int.gcd_mul_lcm a b;have h2:((Int.gcd a b*Int.lcm a b:Nat):Int)=((a.natAbs*b.natAbs:Nat):Int):=by rw[h]
  rw[jk9,jk9,Int.natAbs_of_nonneg (Zl ha),Int.natAbs_of_nonneg (Zl hb)] at h2;rw[Zs];exact h2
 have el:Bx a b=(Int.lcm a b:Int):=Int.eq_of_mul_eq_mul_right (by lia:(Int.gcd a b:Int)≠0) (pr.trans pl.symm);refine⟨?_,?_,?_,pr,?_,el⟩
 ·have:0<Bx a b*(Int.gcd a b:Int):=by rw[pr];exact jq1 ha hb
  exact Int.pos_of_mul_pos_left this gp
 ·rw[el];exact Int.dvd_lcm_left ..
 ·rw[el];exact Int.dvd_lcm_right ..
 ·intro t h1 h2;rw[el];exact Int.coe_lcm_dvd h1 h2
theorem Vf{b:Int}(ha:0<a)(hb:0<b):Bx a b=Bx b a:=by
 rw[(Bp ha hb).2.2.2.2.2,(Bp hb ha).2.2.2.2.2,Int.lcm_comm]
theorem uh{b:Int}(ha:0<a)(hb:0<b):Bx a b<=a*b:=by
 have f:=Bp ha hb;have gp:=Mr (b:=b) ha;have h:Bx a b*1<=Bx a b*(Int.gcd a b:Int):=Jn (by lia) (Zl f.1);rw[f.2.2.2.1] at h;lia
noncomputable def On(n:Int)(b:Nat)(d:Int):Bool:=b.testBit (d%n).toNat
theorem ACH(b k:Nat):decide (((b:Nat):Int)/2^k%2=1)=b.testBit k:=by
 rw[jf8];have e:((b:Nat):Int)/2^k%2=((b/2^k%2:Nat):Int):=by
  rw[jn9,Int.natCast_ediv,jg2];rfl
 rw[e,ku];simp only[decide_eq_true_eq];lia
theorem Hh(b k:Nat):((b:Nat):Int)/2^k=((b >>> k:Nat):Int):=by
 rw[ub,Int.natCast_ediv,jg2];rfl
theorem RL(b k:Nat):((b:Nat):Int)*2^k=((b <<< k:Nat):Int):=by
 rw[Nat.shiftLeft_eq,jk9,jg2];rfl
theorem jO(k:Nat):(1:Int)*2^k-1=((2^k-1:Nat):Int):=by
 have:0<2^k:=ki k;rw[Int.natCast_sub (by lia),jg2];simp
theorem my(k:Nat):(1:Int)*2^k=((2^k:Nat):Int):=by
 rw[jg2];simp
variable{b:Nat}
theorem Tz{w c:Nat}(hb:b<2^w)(hc:c<2^w)(h:∀i,i<w->b.testBit i=c.testBit i):b=c:=by
 refine vx fun i=>?_;by_cases hi:i<w
 ·exact h i hi
 ·have p:2^w<=2^i:=va (by decide) (by lia);rw[je0 (by lia),je0 (by lia)]
theorem high{n i:Nat}(hb:b<2^n)(h:n<=i):b.testBit i=false:=by
 have p:2^n<=2^i:=va (by decide) h;exact je0 (by lia)
theorem KR(c w:Nat):c &&& (2^w-1)<2^w:=by
 rw[Nat.and_two_pow_sub_one_eq_mod];exact Nat.mod_lt _ (ki w)
theorem Ja(c w i:Nat)(h:i<w):(c &&& (2^w-1)).testBit i=c.testBit i:=by
 rw[ja7,ji7];simp[h]
noncomputable def lat(n b s:Nat):Nat:=((b <<< s) ||| (b >>> (n-s))) &&& (2^n-1)
theorem J0(n b s:Nat):lat n b s<2^n:=KR _ _
theorem um{n s i:Nat}(hb:b<2^n)(hs:s<n)(hi:i<n):(lat n b s).testBit i=b.testBit ((i+n-s)%n):=by
 unfold lat;rw[Ja _ _ _ hi,jc8,jn5,jc4];by_cases h:s<=i
 ·have e:(i+n-s)%n=i-s:=by
   have:i+n-s=i-s+n:=by lia
   rw[this,Nat.add_mod_right,jh9 (by lia)]
  rw[e,high hb (show n<=n-s+i by lia)];simp[h]
 ·have e:(i+n-s)%n=n-s+i:=by
   rw[jh9 (by lia)];lia
  rw[e];simp[h]
theorem idx{n num:Int}(hn:0<n):(((d%n).toNat+n.toNat-(num%n).toNat)%n.toNat)=((d-num)%n).toNat:=by
 have h1:=qk d (show n≠0 by lia);have h2:=qg d hn;have h3:=qk num (show n≠0 by lia);have h4:=qg num hn;have e:(d-num)%n=(d%n+n-num%n)%n:=by
  rw[Int.sub_emod,Int.sub_emod (d%n+n),Int.add_emod_right,Int.emod_emod,Int.emod_emod]
 have h5:=qk (d%n+n-num%n) (show n≠0 by lia);rw[e];have k:(((d%n).toNat+n.toNat-(num%n).toNat:Nat):Int)=d%n+n-num%n:=by lia
 have k2:(n.toNat:Int)=n:=by lia
 have:((((d%n).toNat+n.toNat-(num%n).toNat)%n.toNat:Nat):Int)=(d%n+n-num%n)%n:=by
  rw[jn9,k,k2]
 lia
theorem Jz{n:Int}{num:Int}(hn:0<n)(hb:b<2^n.toNat):On n (lat n.toNat b (num%n).toNat) d=On n b (d-num):=by
 unfold On;have h1:=qk d (show n≠0 by lia);have h2:=qg d hn;have h3:=qk num (show n≠0 by lia);have h4:=qg num hn;rw[um hb (by lia) (by lia),idx hn]
structure Gy(n b w c:Nat):Prop where
 lt:c<2^w
 bit:∀i,i<w->c.testBit i=b.testBit (i%n)
theorem Gy.start{n:Nat}(h:b<2^n):Gy n b n b:=⟨h,fun i hi=>by rw[jh9 hi]⟩
theorem Gy.dbl{n w c:Nat}(S:Gy n b w c)(hd:n∣w):Gy n b (w*2) (c ||| (c <<< w)):=by
 have e:2^(w*2)=2^w*2^w:=by rw[Nat.mul_two,jo9]
 refine⟨?_,fun i hi=>?_⟩
 ·refine Nat.or_lt_two_pow (xa S.lt (va (by decide) (by lia))) ?_;rw[Nat.shiftLeft_eq,e];exact Nat.mul_lt_mul_of_pos_right S.lt (ki w)
 ·rw[jc8,jn5];by_cases h:i<w
  ·rw[S.bit i h];simp[Nat.not_le.mpr h]
  ·rw[high S.lt (by lia),S.bit (i-w) (by lia)];obtain⟨k,rfl⟩:=hd;have e2:i=(i-n*k)+n*k:=by lia
   have e3:i%n=(i-n*k)%n:=by conv=>lhs;rw[e2,Nat.add_mul_mod_self_left]
   rw[e3];simp;intro z;lia
theorem Gy.cut{n w c z:Nat}(S:Gy n b w c)(h:z<=w):Gy n b z (c &&& (2^z-1)):=
 ⟨KR _ _,fun i hi=>by rw[Ja _ _ _ hi,S.bit i (by lia)]⟩
theorem Gy.on{n m:Int}{c:Nat}(hn:0<n)(hm:0<m)(hd:n∣m)(S:Gy n.toNat b m.toNat c)(d:Int):On m c d=On n b d:=by
 unfold On;have h1:=qk d (show m≠0 by lia);have h2:=qg d hm;rw[S.bit _ (by lia)]
 congr 1
 have e:(d%m)%n=d%n:=Int.emod_emod_of_dvd d hd;have h3:=qk d (show n≠0 by lia);have k:(((d%m).toNat%n.toNat:Nat):Int)=d%m%n:=by
  rw[jn9];have a1:((d%m).toNat:Int)=d%m:=by lia
  have a2:(n.toNat:Int)=n:=by lia
  rw[a1,a2]
 rw[e] at k;lia
noncomputable def hit(n:Int)(ds:List Int)(d:Int):Bool:=ds.any fun x=>decide ((d-x)%n=0)
structure RB(n:Int)(ds:List Int)(b:Nat):Prop where
 lt:b<2^n.toNat
 bit:∀d,On n b d=hit n ds d
theorem RB.nil(n:Int):RB n [] 0:=⟨ki _,fun d=>by unfold On hit;simp⟩
theorem WQ{n x:Int}(hn:0<n):(d-x)%n=0<->d%n=x%n:=by
 rw[Int.sub_emod];have h1:=qk d (show n≠0 by lia);have h2:=qg d hn;have h3:=qk x (show n≠0 by lia);have h4:=qg x hn;constructor
 ·intro h;have:=jk7 h;obtain⟨k,hk⟩:=this;have:k=0:=by
   rcases jg1 k 0 with z | z | z
   ·have:n*k<=n*(-1):=Jn (by lia) (by lia);lia
   ·exact z
   ·have:n*1<=n*k:=Jn (by lia) (by lia);lia
  subst this;lia
 ·intro h;rw[h];simp
theorem RB.snoc{n:Int}{ds:List Int}{x:Int}(hn:0<n)(h:RB n ds b):RB n (ds++[x]) (b ||| 2^(x%n).toNat):=by
 have h3:=qk x (show n≠0 by lia);have h4:=qg x hn;refine⟨Nat.or_lt_two_pow h.lt (Nat.pow_lt_pow_right (by decide) (by lia)),fun d=>?_⟩;have h1:=qk d (show n≠0 by lia);have hb:=h.bit d;unfold On hit at*
 rw[jc8,hb,List.any_append,jk3]
 congr 1
 rw[jl1,List.any_nil,Bool.or_false,ku,decide_eq_true_eq,decide_eq_true_eq,WQ hn];lia
noncomputable def cnt(b:Nat):Nat->Nat
 | 0=>0
 | k+1=>cnt b k+(if b.testBit k then 1 else 0)
theorem ZW(b:Nat):∀k,cnt b (k+1)=b%2+cnt (b/2) k
 | 0=>by
  simp only[cnt,jj9];have:=Nat.mod_two_eq_zero_or_one b;rcases this with h | h<;>simp[h]
 | k+1=>by
  have ih:=ZW b k;rw[cnt,ih];show b%2+cnt (b/2) k+_=b%2+(cnt (b/2) k+_);rw[jd3];lia
noncomputable def CC(n:Int)(b:Nat)(d:Int):Int:=d/n*(cnt b n.toNat:Int)+(cnt b (d%n).toNat:Int)
theorem G5{n:Int}(hn:0<n)(d:Int):CC n b (d+1)=CC n b d+(if On n b d then 1 else 0):=by
 have h1:=qk d (show n≠0 by lia);have h2:=qg d hn;have h3:=Xs d n;unfold CC On;by_cases hl:d%n=n-1
 ·have hd:d+1=n*(d/n+1):=by rw[Zp,ja3];lia
  have e1:(d+1)/n=d/n+1:=by rw[hd];exact jk4 _ (by lia)
  have e2:(d+1)%n=0:=by rw[hd];exact Int.mul_emod_right _ _
  have e3:n.toNat=(d%n).toNat+1:=by lia
  rw[e1,e2];show(d/n+1)*(cnt b n.toNat:Int)+((cnt b 0:Nat):Int)=_;have e4:(cnt b n.toNat:Int)=(cnt b (d%n).toNat:Int)+(if b.testBit (d%n).toNat then 1 else 0):=by
   rw[e3,cnt];split<;>simp
  have e5:((cnt b 0:Nat):Int)=0:=rfl;rw[jk0,jf5,e5];lia
 ·have e1:(d+1)/n=d/n:=by
   have:d+1=n*(d/n)+(d%n+1):=by lia
   rw[this,jn1 _ _ (by lia),jc2 (a:=d%n+1) (b:=n) (by lia) (by lia),jc9]
  have e2:(d+1)%n=d%n+1:=by
   have:d+1=n*(d/n)+(d%n+1):=by lia
   rw[this,Int.mul_add_emod_self_left];exact jg0 (by lia) (by lia)
  rw[e1,e2];have e3:(d%n+1).toNat=(d%n).toNat+1:=by lia
  rw[e3,cnt];split<;>simp<;>lia
theorem wA{n:Int}(hn:0<n)(d:Int):CC n b (d+n)=CC n b d+(cnt b n.toNat:Int):=by
 unfold CC;have e1:(d+n)/n=d/n+1:=by rw[Int.add_ediv_of_dvd_right (kq n),Int.ediv_self (by lia)]
 have e2:(d+n)%n=d%n:=Int.add_emod_right d n;rw[e1,e2,jk0,jf5];lia
theorem Pq{n:Int}{b:Nat}(hn:0<n)(d:Int):∀k:Nat,CC n b d<=CC n b (d+(k:Int))
 | 0=>by simp
 | k+1=>by
  have ih:=Pq (b:=b) hn d k;have e:=G5 (b:=b) hn (d+(k:Int));have:d+((k+1:Nat):Int)=d+(k:Int)+1:=by lia
  rw[this,e];split<;>lia
theorem Jd{n:Int}(hn:0<n){d e:Int}(h:d<=e):CC n b d<=CC n b e:=by
 have:=Pq (b:=b) hn d (e-d).toNat
 rwa [show d+((e-d).toNat:Int)=e by lia] at this
theorem pH(c d:Nat):(2*c) &&& (2*d+1)=2*(c &&& d):=by
 refine vx fun i=>?_;cases i with
 | zero=>rw[ja7];simp[jj9]
 | succ i=>
  rw[ja7,jd3,jd3,jd3,show 2*c/2=c by lia,show(2*d+1)/2=d by lia,show 2*(c &&& d)/2=c &&& d by lia,ja7]
theorem uR(c:Nat):(2*c+1) &&& (2*c)=2*c:=by
 refine vx fun i=>?_;cases i with
 | zero=>rw[ja7];simp[jj9]
 | succ i=>
  rw[ja7,jd3,jd3,show 2*c/2=c by lia,show(2*c+1)/2=c by lia,Bool.and_self]
theorem eV:∀(k b:Nat),b.testBit k=true->(∀i,i<k->b.testBit i=false)->(b &&& (b-1))+2^k=b
 | 0,b,h,_=>by
  rw[jj9,decide_eq_true_eq] at h;obtain⟨c,rfl⟩:∃c,b=2*c+1:=⟨b/2,by lia⟩;rw[show 2*c+1-1=2*c by lia,uR]
 | k+1,b,h,g=>by
  have g0:=g 0 (by lia);rw[jj9,decide_eq_false_iff_not] at g0;obtain⟨c,rfl⟩:∃c,b=2*c:=⟨b/2,by lia⟩;rw[jd3,show 2*c/2=c by lia] at h;have c0:c≠0:=by
   rintro rfl;rw[jd4] at h;exact Bool.noConfusion h
  have ih:=eV k c h fun i hi=>by
   have:=g (i+1) (by lia)
   rwa [jd3,show 2*c/2=c by lia] at this
  rw[show 2*c-1=2*(c-1)+1 by lia,pH,Nat.pow_succ];lia
theorem zX(h:b≠0):∃k,b.testBit k=true/\∀i,i<k->b.testBit i=false:=by
 obtain⟨j,hj⟩:=Nat.exists_testBit_of_ne_zero h;have:∀n j,j<=n->b.testBit j=true->∃k,b.testBit k=true/\∀i,i<k->b.testBit i=false:=by
  intro n
  induction n with
  | zero=>
   intro j hj hb;exact⟨j,hb,fun i hi=>by lia⟩
  | succ n ih=>
   intro j hj hb;by_cases c:∃i,i<j/\b.testBit i=true
   ·obtain⟨i,hi,hb'⟩:=c;exact ih i (by lia) hb'
   ·exact⟨j,hb,fun i hi=>by
     cases e:b.testBit i with
     | false=>rfl
     | true=>exact absurd ⟨i,hi,e⟩ c⟩
 exact this j j (ze _) hj
theorem oG(k:Nat):(2^k).log2=k:=by
 have h0:(2:Nat)^k≠0:=by have:=ki k;lia
 exact Nat.log2_two_pow
theorem o6(h:b≠0):b.testBit b.log2=true/\∀i,b.log2<i->b.testBit i=false:=by
 have h1:=Nat.log2_self_le h;have h2:b<2^(b.log2+1):=Nat.lt_log2_self;constructor
 ·rw[jf8,decide_eq_true_eq];have p:=ki b.log2;have e:b/2^b.log2=1:=by
   rw[Nat.pow_succ] at h2;generalize 2^b.log2=w at*
   have a1:1<=b/w:=(Nat.le_div_iff_mul_le p).mpr (by lia);have a2:b/w<2:=(Nat.div_lt_iff_lt_mul p).mpr (by lia);lia
  rw[e]
 ·intro i hi;exact je0 (xa h2 (va (by decide) hi))
noncomputable def Kp(w:Nat):List Nat->Nat
 | []=>0
 | a::l=>a+2^w*Kp w l
noncomputable def fsum:List Nat->Nat
 | []=>0
 | a::l=>a+fsum l
noncomputable def Dg(w f s:Nat):Prop:=∃l:List Nat,(∀a∈l,a<=w)/\f=Kp w l/\s=fsum l
theorem Dg.nil{w:Nat}:Dg w 0 0:=⟨[],(fun _ h=>nomatch h),rfl,rfl⟩
theorem Dg.cons{w a f s:Nat}(h:a<=w)(g:Dg w f s):Dg w (a+2^w*f) (a+s):=by
 obtain⟨l,h1,rfl,rfl⟩:=g;exact⟨a::l,fun x hx=>(qq.mp hx).elim (fun e=>e ▸ h) (h1 x),rfl,rfl⟩
noncomputable def Ev(w f e:Nat):Prop:=∀i,e.testBit i=(f.testBit i&&decide (i%(2*w)<w))
theorem Vm{w:Nat}:∀l:List Nat,Kp w l=0->fsum l=0
 | [],_=>rfl
 | a::l,e=>by
  have e:a+2^w*Kp w l=0:=e;have e1:a=0:=by lia
  have e2:2^w*Kp w l=0:=by lia
  have p:=ki w;rcases Nat.mul_eq_zero.mp e2 with z | z
  ·lia
  ·show a+fsum l=0;rw[e1,Vm l z]
theorem Dg.last{w f s:Nat}(h:Dg w f s)(hl:f<2^w):f=s:=by
 obtain⟨l,_,rfl,rfl⟩:=h;cases l with
 | nil=>rfl
 | cons a l=>
  have hl:a+2^w*Kp w l<2^w:=hl;have z:Kp w l=0:=by
   rcases ji1 (Kp w l) with z | z
   ·exact z
   ·have:=Nat.le_mul_of_pos_right (2^w) z;lia
  show a+2^w*Kp w l=a+fsum l;rw[Vm l z,z];simp
theorem V4{w a h:Nat}(ha:a<2^w)(i:Nat):(a+2^w*h).testBit i=if i<w then a.testBit i else h.testBit (i-w):=by
 rw[Nat.add_comm,Nat.testBit_two_pow_mul_add h ha]
theorem Ev.peel{w a h e:Nat}(w0:0<w)(ha:a<2^w)(H:Ev w (a+2^w*h) e):e=a+2^(2*w)*(e/2^(2*w))/\Ev w (h/2^w) (e/2^(2*w)):=by
 have e1:e%2^(2*w)=a:=by
  refine vx fun i=>?_;rw[jb6,H i,V4 ha];by_cases c:i<w
  ·rw[xh c,jh9 (by lia)];simp[c,show i<2*w by lia]
  ·rw[xk c];have:a.testBit i=false:=je0 (xa ha (va (by decide) (by lia)));rw[this];by_cases c2:i<2*w
   ·rw[jh9 c2];simp[c]
   ·simp[c2]
 refine⟨?_,fun i=>?_⟩
 ·have:=Nat.mod_add_div e (2^(2*w));rw[e1] at this;exact this.symm
 ·rw[<-ub,<-ub,jc4,jc4,H,V4 ha,xk (by lia),show 2*w+i-w=w+i by lia,Nat.add_mod_left]
theorem xJ{w:Nat}(w0:0<w):∀l:List Nat,(∀a∈l,a<=w)->∀e1 e2,Ev w (Kp w l) e1->Ev w (Kp w l/2^w) e2->Dg (2*w) (e1+e2) (fsum l)/\e1+e2<=Kp w l
 | [],_,e1,e2,h1,h2=>by
  have z:∀e,Ev w 0 e->e=0:=fun e he=>vx fun i=>by rw[he i,jd4];rfl
  have h2:Ev w (0/2^w) e2:=h2;rw[Nat.zero_div] at h2;rw[z e1 h1,z e2 h2];exact⟨.nil,ze _⟩
 | [a],ha,e1,e2,h1,h2=>by
  have ha:=ha a qc;have h1:Ev w (a+2^w*0) e1:=h1;have h2:Ev w ((a+2^w*0)/2^w) e2:=h2;show Dg (2*w) (e1+e2) (a+0)/\e1+e2<=a+2^w*0;have al:a<2^w:=yv ha jo8;have z:∀e,Ev w 0 e->e=0:=fun e he=>vx fun i=>by rw[he i,jd4];rfl
  obtain⟨p1,p2⟩:=h1.peel w0 al;rw[Nat.zero_div] at p2;have p3:=z _ p2;rw[jp6,Nat.add_zero,jo0 al] at h2;have p4:=z _ h2;rw[p3,jp6,Nat.add_zero] at p1;rw[p1,p4,jp6];refine⟨?_,by lia⟩;have:=Dg.cons (w:=2*w) (a:=a) (by lia) (.nil)
  rwa [jp6] at this
 | a::b::l,hl,e1,e2,h1,h2=>by
  have ha:=hl a qc;have hb:=hl b (qh _ qc);have hg:∀x∈l,x<=w:=fun x hx=>hl x (qh _ (qh _ hx));have h1:Ev w (a+2^w*(b+2^w*Kp w l)) e1:=h1;have h2:Ev w ((a+2^w*(b+2^w*Kp w l))/2^w) e2:=h2;have ih:=xJ w0 l hg;show Dg (2*w) (e1+e2) (a+(b+fsum l))/\e1+e2<=a+2^w*(b+2^w*Kp w l);generalize Kp w l=g at*
  generalize fsum l=s at*
  have al:a<2^w:=yv ha jo8;have bl:b<2^w:=yv hb jo8;have p:=ki w;have d1:(a+2^w*(b+2^w*g))/2^w=b+2^w*g:=by rw[Nat.add_mul_div_left _ _ p,jo0 al,jn6]
  have d2:(b+2^w*g)/2^w=g:=by rw[Nat.add_mul_div_left _ _ p,jo0 bl,jn6]
  rw[d1] at h2;obtain⟨p1,p2⟩:=h1.peel w0 al;obtain⟨p3,p4⟩:=h2.peel w0 bl;rw[d2] at p2;obtain⟨i1,i2⟩:=ih _ _ p2 p4;have:=Dg.cons (w:=2*w) (a:=a+b) (by lia) i1;refine⟨?_,?_⟩
  ·rw[p1,p3];rw[Nat.mul_add] at this;have e:a+2^(2*w)*(e1/2^(2*w))+(b+2^(2*w)*(e2/2^(2*w)))=a+b+(2^(2*w)*(e1/2^(2*w))+2^(2*w)*(e2/2^(2*w))):=by lia
   rw[e,<-Nat.add_assoc a b s];exact this
  ·have m:=jh2 (2^(2*w)) i2;rw[Nat.mul_add] at m;have q1:b<=2^w*b:=Nat.le_mul_of_pos_left b p;have q2:2^w*(2^w*g)=2^(2*w)*g:=by rw[<-Nat.mul_assoc,<-jo9,Nat.two_mul]
   rw[Nat.mul_add,q2];lia
theorem Dg.pair{w f s:Nat}(w0:0<w)(h:Dg w f s){e1 e2:Nat}(h1:Ev w f e1)(h2:Ev w (f/2^w) e2):Dg (2*w) (e1+e2) s/\e1+e2<=f:=by
 obtain⟨l,hl,rfl,rfl⟩:=h;exact xJ w0 l hl e1 e2 h1 h2
theorem Dg.start:∀(n b:Nat),b<2^n->Dg 1 b (cnt b n)
 | 0,b,h=>by
  have:b=0:=by simp at h;exact h
  subst this;exact .nil
 | n+1,b,h=>by
  have:=Dg.cons (w:=1) (a:=b%2) (by lia) (Dg.start n (b/2) (by rw[Nat.pow_succ] at h;lia));rw[ZW]
  rwa [Nat.pow_one,Nat.mod_add_div] at this
theorem ZX{c:Nat}:∀{k:Nat},(∀i,i<k->b.testBit i=c.testBit i)->cnt b k=cnt c k
 | 0,_=>rfl
 | k+1,h=>by
  rw[cnt,cnt,ZX (fun i hi=>h i (by lia)),h k (by lia)]
theorem pU(b:Nat):∀k,cnt b k<=k
 | 0=>ze _
 | k+1=>by
  have:=pU b k;rw[cnt];split<;>lia
noncomputable def pc(b j:Nat):Nat:=b/2^(256*j)%2^256
theorem Ry(b j i:Nat):(pc b j).testBit i=(decide (i<256)&&b.testBit (256*j+i)):=by
 unfold pc;rw[jb6,<-ub,jc4]
theorem ACG(b j:Nat):pc b j<2^256:=Nat.mod_lt _ (ki _)
theorem nO(b p:Nat):pc (b ||| 2^p) (p/256)=pc b (p/256) ||| 2^(p%256):=by
 refine vx fun i=>?_;rw[Ry,jc8,jc8,Ry,jk3,jk3];by_cases c:i<256
 ·have:(p=256*(p/256)+i)=(p%256=i):=propext ⟨fun h=>by lia,fun h=>by lia⟩;simp[c,this]
 ·have:¬p%256=i:=by lia
  simp[c,this]
theorem nM{p j:Nat}(h:j≠p/256):pc (b ||| 2^p) j=pc b j:=by
 refine vx fun i=>?_;rw[Ry,jc8,Ry,jk3];by_cases c:i<256
 ·have:¬p=256*j+i:=by lia
  simp[c,this]
 ·simp[c]
theorem uL(b m:Nat):b%2^(256*m) ||| (pc b m <<< (256*m))=b%2^(256*(m+1)):=by
 refine vx fun i=>?_;rw[jc8,jn5,jb6,jb6,Ry];by_cases c:i<256*m
 ·simp[c,show ¬256*m<=i by lia,show i<256*(m+1) by lia]
 ·by_cases c2:i<256*(m+1)
  ·simp[c,c2,show 256*m<=i by lia,show i-256*m<256 by lia,show 256*m+(i-256*m)=i by lia]
  ·simp[c,c2,show ¬i-256*m<256 by lia]
structure Rw(on:Int->Bool)(rw:List Int):Prop where
 srt:rw.Pairwise (· < ·)
 all:∀r∈rw,on r=true
 cov:∀r,on r=true->(∃x∈rw,x<=r)->(∃y∈rw,r<=y)->r∈rw
theorem Rn{l:List Int}(h:l.Pairwise (· < ·)){i j:Nat}{x y:Int}(hij:i<j)(hx:l[i]?=some x)(hy:l[j]?=some y):x<y:=by
 obtain⟨hi,rfl⟩:=qv.mp hx;obtain⟨hj,rfl⟩:=qv.mp hy;exact List.pairwise_iff_getElem.mp h i j hi hj hij
theorem Rw.gap{on:Int->Bool}{rw:List Int}(h:Rw on rw){p:Nat}{x y r:Int}(hx:rw[p]?=some x)(hy:rw[p+1]?=some y)(h1:x<r)(h2:r<y):on r=false:=by
 cases e:on r with
 | false=>rfl
 | true=>
  have m:=h.cov r e ⟨x,zh hx,by lia⟩ ⟨y,zh hy,by lia⟩;obtain⟨j,hj⟩:=ky.mp m;rcases Nat.lt_trichotomy j p with z | z | z
  ·have:=Rn h.srt z hj hx;lia
  ·subst z;rw[hj] at hx;injection hx with hx;lia
  ·rcases Nat.lt_trichotomy j (p+1) with w | w | w
   ·lia
   ·subst w;rw[hj] at hy;injection hy with hy;lia
   ·have:=Rn h.srt w hy hj;lia
theorem O2{n m:Int}(hd:n∣m)(d k:Int):On n b (d+m*k)=On n b d:=by
 unfold On;obtain⟨c,rfl⟩:=hd;rw[jg9,jj4]
variable{z:Int}
theorem Rw.mk'{on:Int->Bool}{ds:List Int}(z0:0<z)(per:∀d k,on (d+z*k)=on d)(srt:ds.Pairwise (· < ·))(mem:∀d,d∈ds<->0<=d/\d<z/\on d=true){f g:Int}
 (hf:ds[0]?=some f)(hg:ds[ds.length-1]?=some g):Rw on ([g-z]++ds++[f+z])/\g-z<0/\z<=f+z:=by
 have fm:=(mem f).mp (zh hf);have gm:=(mem g).mp (zh hg);have lo:∀d∈ds,f<=d:=fun d hd=>by
  obtain⟨j,hj⟩:=ky.mp hd;rcases ji1 j with e | e
  ·subst e;rw[hj] at hf;injection hf with hf;lia
  ·have:=Rn srt e hf hj;lia
 have hi:∀d∈ds,d<=g:=fun d hd=>by
  obtain⟨j,hj⟩:=ky.mp hd;have jl:j<ds.length:=(qv.mp hj).1;rcases Nat.lt_or_eq_of_le (Nat.le_sub_one_of_lt jl) with e | e
  ·have:=Rn srt e hj hg;lia
  ·subst e;rw[hj] at hg;injection hg with hg;lia
 have p1:on (g-z)=true:=by
  have:=per (g-z) 1;rw[show g-z+z*1=g by lia] at this;rw[<-this];exact gm.2.2
 have p2:on (f+z)=true:=by
  have:=per f 1;rw[ja3] at this;rw[this];exact fm.2.2
 refine⟨⟨?_,?_,?_⟩,by lia,by lia⟩
 ·rw[List.pairwise_append,List.pairwise_append];refine⟨⟨List.pairwise_singleton _ _,srt,fun a ha b hb=>?_⟩,List.pairwise_singleton _ _,fun a ha b hb=>?_⟩
  ·cases xc.mp ha;have:=((mem b).mp hb).1;lia
  ·cases xc.mp hb;rcases ui.mp ha with h | h
   ·cases xc.mp h;lia
   ·have:=((mem a).mp h).2.1;lia
 ·intro r hr;rcases ui.mp hr with h | h
  ·rcases ui.mp h with h | h
   ·cases xc.mp h;exact p1
   ·exact((mem r).mp h).2.2
  ·cases xc.mp h;exact p2
 ·rintro r hr ⟨x,hx,xr⟩ ⟨y,hy,ry⟩;have x0:g-z<=x:=by
   rcases ui.mp hx with h | h
   ·rcases ui.mp h with h | h
    ·cases xc.mp h;lia
    ·have:=((mem x).mp h).1;lia
   ·cases xc.mp h;lia
  have y0:y<=f+z:=by
   rcases ui.mp hy with h | h
   ·rcases ui.mp h with h | h
    ·cases xc.mp h;lia
    ·have:=((mem y).mp h).2.1;lia
   ·cases xc.mp h;lia
  rcases je8 r 0 with c | c
  ·have e:=per r 1;rw[ja3,hr] at e;have m:=(mem (r+z)).mpr ⟨by lia,by lia,e⟩;have:=hi _ m;exact jb9 _ (jb9 _ (xc.mpr (by lia)))
  ·rcases je8 r z with c2 | c2
   ·exact jb9 _ (yy _ ((mem r).mpr ⟨c,c2,hr⟩))
   ·have e:=per (r-z) 1;rw[show r-z+z*1=r by lia,hr] at e;have m:=(mem (r-z)).mpr ⟨by lia,by lia,e.symm⟩;have:=lo _ m;exact yy _ (xc.mpr (by lia))
theorem fJ{xs:List Int}:hit z xs d=true<->∃x∈xs,∃k,d=x+z*k:=by
 unfold hit;rw[List.any_eq_true];constructor
 ·rintro⟨x,hx,h⟩;obtain⟨k,hk⟩:=jk7 (jd8 h);exact⟨x,hx,k,by lia⟩
 ·rintro⟨x,hx,k,hk⟩;refine⟨x,hx,decide_eq_true ?_⟩;rw[show d-x=z*k by lia];exact Int.mul_emod_right z k
variable{e:Int}
theorem Vg{on:Int->Bool}{s:Int}(hs:on s=true):∀(n:Nat) (d:Int),d-s=(n:Int)->∃x,x<=d/\on x=true/\∀r,x<r->r<=d->on r=false
 | 0,d,h=>⟨s,by lia,hs,fun r h1 h2=>by lia⟩
 | n+1,d,h=>by
  cases e:on d with
  | true=>exact⟨d,jg8 _,e,fun r h1 h2=>by lia⟩
  | false=>
   obtain⟨x,h1,h2,h3⟩:=Vg hs n (d-1) (by lia);refine⟨x,by lia,h2,fun r a b=>?_⟩;rcases je8 r d with c | c
   ·exact h3 r a (by lia)
   ·rw[show r=d by lia];exact e
theorem eZ{on:Int->Bool}{s:Int}(z0:0<z)(per:∀d k,on (d+z*k)=on d)(hs:on s=true)(d:Int):∃x,x<=d/\on x=true/\∀r,x<r->r<=d->on r=false:=by
 have e:=Xs (d-s) z;have m0:=qk (d-s) (show z≠0 by lia);have h:on (s+z*((d-s)/z))=true:=by rw[per];exact hs
 exact Vg h ((d-s)%z).toNat d (by lia)
theorem Xz{n:Int}(hn:0<n):∀(k:Nat) (f:Int),(∀r,f<=r->r<f+(k:Int)->On n b r=false)->CC n b (f+(k:Int))=CC n b f
 | 0,f,_=>by simp
 | k+1,f,h=>by
  have ih:=Xz hn k f fun r h1 h2=>h r h1 (by lia);have e:=G5 (b:=b) hn (f+(k:Int));rw[h (f+(k:Int)) (by lia) (by lia),xk zi,ih] at e;rw[show f+((k+1:Nat):Int)=f+(k:Int)+1 by lia,e];lia
theorem xV{n:Int}(hn:0<n){e:Int}:∀(rs:List Int) (f:Int),f<=e->rs.Pairwise (· < ·)->(∀r,r∈rs<->f<=r/\r<e/\On n b r=true)->
 (∀(i:Nat) (x:Int),rs[i]?=some x->CC n b x=CC n b f+(i:Int))/\CC n b e=CC n b f+(rs.length:Int)
 | [],f,fe,_,hm=>by
  refine⟨fun i x h=>by simp at h,?_⟩;have:=Xz (b:=b) hn (e-f).toNat f fun r h1 h2=>by
   cases c:On n b r with
   | false=>rfl
   | true=>exact absurd ((hm r).mpr ⟨h1,by lia,c⟩) (by simp)
  rw[show f+((e-f).toNat:Int)=e by lia] at this;simpa using this
 | r::tl,f,fe,hs,hm=>by
  obtain⟨h1,h2,h3⟩:=(hm r).mp qc;obtain⟨s1,s2⟩:=List.pairwise_cons.mp hs;have c1:CC n b r=CC n b f:=by
   have:=Xz (b:=b) hn (r-f).toNat f fun x x1 x2=>by
    cases c:On n b x with
    | false=>rfl
    | true=>
     rcases qq.mp ((hm x).mpr ⟨x1,by lia,c⟩) with z | z
     ·lia
     ·have:=s1 x z;lia
   rwa [show f+((r-f).toNat:Int)=r by lia] at this
  have c2:=G5 (b:=b) hn r;rw[h3,xh rfl] at c2;obtain⟨i1,i2⟩:=xV hn (e:=e) tl (r+1) (by lia) s2 fun x=>by
   constructor
   ·intro hx;have a:=(hm x).mp (qh _ hx);have:=s1 x hx;exact⟨by lia,a.2.1,a.2.2⟩
   ·rintro⟨x1,x2,x3⟩;rcases qq.mp ((hm x).mpr ⟨by lia,x2,x3⟩) with z | z
    ·lia
    ·exact z
  refine⟨fun i x hx=>?_,?_⟩
  ·cases i with
   | zero=>
    injection hx with hx;subst hx;rw[c1];simp
   | succ i=>
    have:=i1 i x hx;rw[this,c2,c1];lia
  ·rw[i2,c2,c1,qo];lia
noncomputable def Kth(n1:Int)(b1:Nat)(n2:Int)(b2:Nat)(k d:Int):Prop:=On n1 b1 d=true/\∃b e,On n2 b2 b=true/\On n2 b2 e=true/\b<=d/\d<e/\(∀r,b<r->r<e->On n2 b2 r=false)/\(0<k->CC n1 b1 (d+1)-CC n1 b1 b=k)/\(k<0->CC n1 b1 e-CC n1 b1 d= -k)
theorem Va{on:Int->Bool}{s:Int}(hs:on s=true):∀(n:Nat) (d:Int),s-d=(n:Int)->∃x,d<=x/\on x=true/\∀r,d<=r->r<x->on r=false
 | 0,d,h=>⟨s,by lia,hs,fun r h1 h2=>by lia⟩
 | n+1,d,h=>by
  cases e:on d with
  | true=>exact⟨d,jg8 _,e,fun r h1 h2=>by lia⟩
  | false=>
   obtain⟨x,h1,h2,h3⟩:=Va hs n (d+1) (by lia);refine⟨x,by lia,h2,fun r a b=>?_⟩;rcases je8 d r with c | c
   ·exact h3 r (by lia) b
   ·rw[show r=d by lia];exact e
theorem uX{on:Int->Bool}{s:Int}(z0:0<z)(per:∀d k,on (d+z*k)=on d)(hs:on s=true)(d:Int):∃x,d<=x/\on x=true/\∀r,d<=r->r<x->on r=false:=by
 have e:=Xs (s-d) z;have m0:=qk (s-d) (show z≠0 by omega);have h:on (s+z* -((s-d)/z))=true:=by rw[per];exact hs
 exact Va h ((s-d)%z).toNat d (by rw[ji4];omega)
theorem lO{on:Int->Bool}{b b' e':Int}(h1:on b=true)(h2:on e=true)(h3:b<=d)(h4:d<e)(h5:∀r,b<r->r<e->on r=false)(g1:on b'=true)(g2:on e'=true)(g3:b'<=d)(g4:d<e')(g5:∀r,b'<r->r<e'->on r=false):b=b'/\e=e':=by
 constructor
 ·rcases jg1 b b' with c | c | c
  ·have:=h5 b' c (by lia);rw[g1] at this;cases this
  ·exact c
  ·have:=g5 b c (by lia);rw[h1] at this;cases this
 ·rcases jg1 e e' with c | c | c
  ·have:=g5 e (by lia) c;rw[h2] at this;cases this
  ·exact c
  ·have:=h5 e' (by lia) c;rw[g2] at this;cases this
theorem qj{n:Int}(hn:0<n)(d j:Int):CC n b (d+n*j)=CC n b d+j*(cnt b n.toNat:Int):=by
 unfold CC;rw[jm7 _ _ (by lia),jj4,jk0];lia
theorem Nf{n:Int}:CC n b 0=0:=by
 unfold CC;rw[Int.zero_ediv,Int.zero_emod];show 0*_+((cnt b 0:Nat):Int)=0;rw[Int.zero_mul];rfl
theorem vz{n:Int}(hn:0<n){d e:Int}(h1:On n b d=true)(h2:On n b e=true)(h:CC n b d=CC n b e):d=e:=by
 have c1:=G5 (b:=b) hn d;have c2:=G5 (b:=b) hn e;rw[h1,xh rfl] at c1;rw[h2,xh rfl] at c2;rcases jg1 d e with c | c | c
 ·have:=Jd (b:=b) hn (show d+1<=e by lia);lia
 ·exact c
 ·have:=Jd (b:=b) hn (show e+1<=d by lia);lia
noncomputable def Evr(n:Int)(b:Nat)(k day d:Int):Prop:=On n b d=true/\(CC n b d-CC n b day)%k=0
structure Dn(n:Int)(b:Nat)(ds:List Int):Prop where
 len:(ds.length:Int)=(cnt b n.toNat:Int)
 at':∀(j:Nat) (x:Int),ds[j]?=some x->On n b x=true/\CC n b x=(j:Int)/\0<=x/\x<n
theorem Dn.mk'{n:Int}{ds:List Int}(hn:0<n)(srt:ds.Pairwise (· < ·))(mem:∀d,d∈ds<->0<=d/\d<n/\On n b d=true):Dn n b ds:=by
 obtain⟨h1,h2⟩:=xV (b:=b) hn ds 0 (Zl hn) srt mem;rw[Nf] at h1 h2;have t:=wA (b:=b) hn 0;rw[Nf,jg7,jg7,h2,jg7] at t;refine⟨t,fun j x hx=>?_⟩;have m:=(mem x).mp (zh hx);have:=h1 j x hx;exact⟨m.2.2,by lia,m.1,m.2.1⟩
noncomputable def Ji(n:Int)(ds:List Int)(P:Int):Int:=P/(ds.length:Int)*n+(ds[(P%(ds.length:Int)).toNat]?).getD 0
theorem Dn.day{n:Int}{ds:List Int}(hn:0<n)(D:Dn n b ds)(h:0<ds.length)(P:Int):On n b (Ji n ds P)=true/\CC n b (Ji n ds P)=P:=by
 have m0:=qk P (show (ds.length:Int)≠0 by lia);have m1:=qg P (show (0:Int)<(ds.length:Int) by lia);have hl:(P%(ds.length:Int)).toNat<ds.length:=by lia
 obtain⟨x,hx⟩:∃x,ds[(P%(ds.length:Int)).toNat]?=some x:=⟨_,qm hl⟩;obtain⟨a1,a2,a3,a4⟩:=D.at' _ _ hx;have e:Ji n ds P=x+n*(P/(ds.length:Int)):=by
  unfold Ji;rw[hx,Zs];show _+x=_;lia
 have p:=Xs P (ds.length:Int);rw[e];constructor
 ·unfold On at a1 ⊢
  rwa [jj4]
 ·rw[qj hn,a2,<-D.len,Zs];lia
theorem vB{n:Int}{ds:List Int}{k day:Int}(hn:0<n)(k0:0<k)(D:Dn n b ds)(d:Int):
 hit (n*k) ((List.range ds.length).map fun(i:Nat)=>Ji n ds (CC n b day%k+(i:Int)*k)) d=true<->Evr n b k day d:=by
 have f0:=qk (CC n b day) (show k≠0 by lia);have f1:=qg (CC n b day) k0;have fe:=Xs (CC n b day) k;have nk:0<n*k:=jq1 hn k0;have per:∀d q,On n b (d+n*k*q)=On n b d:=fun d q=>O2 ⟨k,rfl⟩ d q;have cmul:∀d q,CC n b (d+n*k*q)=CC n b d+k*(q*(ds.length:Int)):=fun d q=>by
  rw[jg9,qj hn,<-D.len,jg9]
 rw[fJ];constructor
 ·rintro⟨x,hx,q,rfl⟩;obtain⟨i,hi,rfl⟩:=ya.mp hx;have hi':=jc7.mp hi;obtain⟨a1,a2⟩:=D.day hn (by lia) (CC n b day%k+(i:Int)*k);refine⟨by rw[per];exact a1,?_⟩;rw[cmul,a2];have:CC n b day%k+(i:Int)*k+k*(q*(ds.length:Int))-CC n b day=k*((i:Int)+q*(ds.length:Int)-CC n b day/k):=by
   rw[Int.mul_sub,Zp,Zs k (i:Int)];lia
  rw[this];exact Int.mul_emod_right _ _
 ·rintro⟨o,hd⟩;have e:=Xs d (n*k);have m0:=qk d (show n*k≠0 by lia);have m1:=qg d nk;have o':=per (d%(n*k)) (d/(n*k));have c':=cmul (d%(n*k)) (d/(n*k));rw[show d%(n*k)+n*k*(d/(n*k))=d by lia] at o' c';rw[o] at o';generalize d%(n*k)=d' at*
  generalize hq:d/(n*k)=q at*
  have g0:=Jd (b:=b) hn m0;rw[Nf] at g0;have g1:=G5 (b:=b) hn d';rw[<-o',xh rfl] at g1;have g2:=Jd (b:=b) hn (show d'+1<=n*k by lia);have g3:=cmul 0 1;rw[jg7,ja3,Nf,jf5,jg7] at g3;have hm:0<ds.length:=by
   rcases ji1 ds.length with z | z
   ·rw[z] at g3;simp at g3;lia
   ·exact z
  obtain⟨t,ht⟩:=jk7 hd;have hc:CC n b d'-CC n b day%k=k*(t+CC n b day/k-q*(ds.length:Int)):=by
   rw[Int.mul_sub,Zp];lia
  generalize t+CC n b day/k-q*(ds.length:Int)=i at hc;have i0:0<=i:=by
   refine Int.not_lt.mp fun z=>?_;have:=Jn (show i<= -1 by lia) (Zl k0);lia
  have i1:i<(ds.length:Int):=by
   refine jq0.mp fun z=>?_;have:=Jn z (Zl k0);lia
  obtain⟨a1,a2⟩:=D.day hn hm (CC n b day%k+i*k);have ed:Ji n ds (CC n b day%k+i*k)=d':=vz hn a1 o'.symm (by rw[a2,Zs];lia);refine⟨d',ya.mpr ⟨i.toNat,jc7.mpr (by lia),?_⟩,q,by lia⟩;rw[show (i.toNat:Int)=i by lia];exact ed
noncomputable def GUp(o1 o2:Int->Bool)(d:Int):Prop:=o1 d=true/\∃s,o2 s=true/\s<=d/\∀r,s<=r->r<d->o1 r=false
noncomputable def GUn(o1 o2:Int->Bool)(d:Int):Prop:=o1 d=true/\∃s,o2 s=true/\d<=s/\∀r,d<r->r<=s->o1 r=false
noncomputable def GNr(o1 o2:Int->Bool)(d:Int):Prop:=o1 d=true/\∃s,o2 s=true/\∀r,o1 r=true->(d<r->(d-s).natAbs<=(r-s).natAbs)/\(r<d->(d-s).natAbs<(r-s).natAbs)
noncomputable def GTi(o1 o2:Int->Bool)(d:Int):Prop:=∃r,o1 r=true/\r<=d/\∀s,o2 s=true->r<s->d<s
section
variable{o1 o2 p1 p2:Int->Bool}{t:Int}
end
theorem AAw{n:Int}(hn:0<n){f e:Int}(fe:f<=e):0<CC n b e-CC n b f<->∃s,f<=s/\s<e/\On n b s=true:=by
 constructor
 ·intro h;by_cases c:∃s,f<=s/\s<e/\On n b s=true
  ·exact c
  ·exfalso;have:=Xz (b:=b) hn (e-f).toNat f fun r r1 r2=>by
    cases z:On n b r with
    | false=>rfl
    | true=>exact absurd ⟨r,r1,by lia,z⟩ c
   rw[show f+((e-f).toNat:Int)=e by lia] at this;lia
 ·rintro⟨s,h1,h2,h3⟩;have a1:=Jd (b:=b) hn h1;have a2:=Jd (b:=b) hn (show s+1<=e by lia);have a3:=G5 (b:=b) hn s;rw[h3,xh rfl] at a3;lia
section
variable{o1 o2:Int->Bool}{d r1 r2 p q:Int}
noncomputable def Jc(o:Int->Bool)(d r:Int):Prop:=r<=d/\o r=true/\∀e,r<e->e<=d->o e=false
noncomputable def Ld(o:Int->Bool)(d r:Int):Prop:=d<=r/\o r=true/\∀e,d<=e->e<r->o e=false
theorem Jc.max{o:Int->Bool}(h:Jc o d r)(he:o e=true)(ed:e<=d):e<=r:=Int.not_lt.mp fun z=>by
 have:=h.2.2 e z ed;rw[he] at this;cases this
theorem Ld.min{o:Int->Bool}(h:Ld o d r)(he:o e=true)(ed:d<=e):r<=e:=Int.not_lt.mp fun z=>by
 have:=h.2.2 e ed z;rw[he] at this;cases this
theorem nq{o:Int->Bool}(h:¬o r=true):o r=false:=by
 cases e:o r with
 | false=>rfl
 | true=>exact absurd e h
theorem rC(h1:Jc o1 d r1)(h2:Jc o2 d r2):GTi o1 o2 d<->r2<=r1:=by
 constructor
 ·rintro⟨r,a,b,e⟩;refine Int.not_lt.mp fun z=>?_;have:=h1.max a b;have:=e r2 h2.2.1 (by lia);have:=h2.1;lia
 ·intro z;refine⟨r1,h1.2.1,h1.1,fun s hs l=>jq0.mp fun c=>?_⟩;have:=h2.max hs c;lia
theorem rD(h1:Jc o1 d r1)(h2:∀s,o2 s=false):GTi o1 o2 d:=⟨r1,h1.2.1,h1.1,fun s hs=>by rw[h2] at hs;cases hs⟩
theorem qy(o:o1 d=true)(h1:Jc o1 (d-1) r1)(h2:Jc o2 d r2):GUp o1 o2 d<->r1<r2:=by
 constructor
 ·rintro⟨_,s,a,b,e⟩;have l1:=h1.1;refine jq0.mp fun z=>?_;have:=h2.max a b;have:=e r1 (by lia) (by lia);rw[h1.2.1] at this;cases this
 ·intro z;refine⟨o,r2,h2.2.1,h2.1,fun r a b=>nq fun c=>?_⟩;have:=h1.max c (by lia);lia
theorem qz(o:o1 d=true)(h1:Ld o1 (d+1) r1)(h2:Ld o2 d r2):GUn o1 o2 d<->r2<r1:=by
 constructor
 ·rintro⟨_,s,a,b,e⟩;have l1:=h1.1;refine jq0.mp fun z=>?_;have:=h2.min a b;have:=e r1 (by lia) (by lia);rw[h1.2.1] at this;cases this
 ·intro z;refine⟨o,r2,h2.2.1,h2.1,fun r a b=>nq fun c=>?_⟩;have:=h1.min c (by lia);lia
theorem uV(o:o1 d=true)(h1:Jc o1 (d-1) p)(h2:Ld o1 (d+1) q):GNr o1 o2 d<->∃s,(p+d)/2+1<=s/\s<(d+q)/2+1/\o2 s=true:=by
 have l1:=h1.1;have l2:=h2.1;constructor
 ·rintro⟨_,s,a,e⟩;have e1:=(e p h1.2.1).2 (by lia);have e2:=(e q h2.2.1).1 (by lia);exact⟨s,by lia,by lia,a⟩
 ·rintro⟨s,a,b,c⟩;refine⟨o,s,c,fun r hr=>⟨fun z=>?_,fun z=>?_⟩⟩
  ·have:=h2.min hr (by lia);lia
  ·have:=h1.max hr (by lia);lia
end
theorem Vc{n:Int}(hn:0<n)(h:Jc (On n b) d r):d-n<r:=by
 refine jq0.mp fun z=>?_;have:=h.2.2 (r+n) (by lia) (by lia);have e:=O2 (b:=b) (kq n) r 1;rw[ja3,h.2.1] at e;rw[e] at this;cases this
theorem Vb{n:Int}(hn:0<n)(h:Ld (On n b) d r):r<d+n:=by
 refine jq0.mp fun z=>?_;have:=h.2.2 (r-n) (by lia) (by lia);have e:=O2 (b:=b) (kq n) (r-n) 1;rw[ja3,show r-n+n=r by lia,h.2.1] at e;rw[<-e] at this;cases this
noncomputable abbrev Tm:=Int×Int×Int×Int
structure OkT(t:Tm):Prop where
 sg:t.1=1\/t.1= -1
 n0:1<=t.2.2.2
 n1:t.2.2.2<=1000
 a0:0<=t.2.1
 a1:t.2.1<=t.2.2.2
 b0:0<=t.2.2.1
 b1:t.2.2.1<t.2.2.2
noncomputable def onT(t:Tm)(k:Int):Bool:=decide (t.2.2.2<=(t.2.1*k+t.2.2.1)%t.2.2.2+t.2.1)
noncomputable def ctT(t:Tm)(k:Int):Int:=(t.2.1*k+t.2.2.1)/t.2.2.2
noncomputable def SU(ts:List Tm)(k:Int):Int:=(ts.map fun t=>t.1*ctT t k).sum
noncomputable def UP(base:Int)(ts:List Tm)(k:Int):Int:=base*k+SU ts k
noncomputable def ONS(ts:List Tm)(k:Int):Int:=((ts.filter fun t=>onT t k).map fun t=>t.1).sum
noncomputable def AT(base:Int)(ts:List Tm)(k:Int):Int:=base+ONS ts k
noncomputable def falls(ts:List Tm):Int:=((ts.filter fun t=>decide (t.1= -1)).length:Int)
theorem vL{t:Tm}(h:OkT t)(k:Int):ctT t (k+1)=ctT t k+(if onT t k=true then 1 else 0):=by
 unfold ctT onT;obtain⟨s,a,b,n⟩:=t;have n0:=h.n0;have a0:=h.a0;have a1:=h.a1;dsimp only at n0 a0 a1 ⊢;have e:a*(k+1)+b=a*k+b+a:=by rw[Zp,ja3];lia
 rw[e];generalize a*k+b=y;have q:=Xs y n;have r0:=qk y (show n≠0 by lia);have r1:=qg y (show 0<n by lia);by_cases c:n<=y%n+a
 ·rw[decide_eq_true c,xh rfl];have h:y+a=n*(y/n+1)+(y%n+a-n):=by rw[Zp,ja3];lia
  conv=>lhs;rw[h]
  rw[jn1 _ _ (by lia),jc2 (a:=y%n+a-n) (b:=n) (by lia) (by lia)];lia
 ·rw[decide_eq_false c,xk zi];have h:y+a=n*(y/n)+(y%n+a):=by lia
  conv=>lhs;rw[h]
  rw[jn1 _ _ (by lia),jc2 (a:=y%n+a) (b:=n) (by lia) (by lia)]
theorem vK{t:Tm}(h:OkT t):ctT t 0=0:=by
 unfold ctT;rw[Int.mul_zero,jg7];exact jc2 h.b0 h.b1
theorem gC:∀{ts:List Tm} (_:∀t∈ts,OkT t) (k:Int),SU ts (k+1)=SU ts k+ONS ts k
 | [],_,k=>rfl
 | t::ts,h,k=>by
  have ih:=gC (ts:=ts) (fun x hx=>h x (qh _ hx)) k;have s:=vL (h t qc) k;unfold SU ONS at*
  rw[zn,zn,kg,kg,ih,s,jh8];by_cases c:onT t k=true
  ·rw[xh c,xh c,zn,kg,Zp,ja3];lia
  ·rw[xk c,xk c,jc9];lia
theorem gB:∀{ts:List Tm} (_:∀t∈ts,OkT t),SU ts 0=0
 | [],_=>rfl
 | t::ts,h=>by
  have ih:=gB (ts:=ts) (fun x hx=>h x (qh _ hx));unfold SU at*
  rw[zn,kg,ih,vK (h t qc)];simp
theorem Q4:∀{ts:List Tm} (_:∀t∈ts,OkT t) (k:Int),-falls ts<=ONS ts k
 | [],_,k=>by show(-((0:Nat):Int))<=0;lia
 | t::ts,h,k=>by
  have ih:=Q4 (ts:=ts) (fun x hx=>h x (qh _ hx)) k;have sg:=(h t qc).sg;unfold falls ONS at*
  rw[jh8,jh8];by_cases c:onT t k=true
  ·rw[xh c,zn,kg];rcases sg with z | z
   ·rw[xk (by rw[decide_eq_true_eq];lia)];lia
   ·rw[xh (decide_eq_true z),qo];lia
  ·rw[xk c];split
   ·rw[qo];lia
   ·lia
variable{base:Int}{ts:List Tm}
theorem vm(h:∀t∈ts,OkT t)(k:Int):UP base ts (k+1)=UP base ts k+AT base ts k:=by
 unfold UP AT;rw[gC h,Zp,ja3];lia
theorem vh(h:∀t∈ts,OkT t):UP base ts 0=0:=by
 unfold UP;rw[gB h,Int.mul_zero];rfl
theorem f9(h:∀t∈ts,OkT t)(hf:falls ts<=base){j k:Int}(jk:j<=k):UP base ts j<=UP base ts k:=by
 have:∀m:Nat,UP base ts j<=UP base ts (j+(m:Int)):=by
  intro m
  induction m with
  | zero=>simp
  | succ m ih=>
   have e:=vm (base:=base) h (j+(m:Int));have l:=Q4 h (j+(m:Int));unfold AT at e;rw[show j+((m+1:Nat):Int)=j+(m:Int)+1 by lia,e];lia
 have:=this (k-j).toNat
 rwa [show j+((k-j).toNat:Int)=k by lia] at this
theorem ACf{t:Tm}(h:OkT t){k:Int}(k0:0<=k):0<=ctT t k/\ctT t k<=k:=by
 have n0:=h.n0;have a0:=h.a0;have b0:=h.b0;have b1:=h.b1;have p0:0<=t.2.1*k:=jf4 a0 k0;have p1:t.2.1*k<=t.2.2.2*k:=vv h.a1 k0;unfold ctT;refine⟨jf9 (by lia) (by lia),?_⟩;have:(t.2.1*k+t.2.2.1)/t.2.2.2<k+1:=by
  rw[Int.ediv_lt_iff_lt_mul (by lia),jk0,jf5,Zs k];lia
 lia
theorem xT:∀{ts:List Tm} (_:∀t∈ts,OkT t) {k:Int} (_:0<=k),-((ts.length:Int)*k)<=SU ts k/\SU ts k<=(ts.length:Int)*k
 | [],_,k,_=>by unfold SU;simp
 | t::ts,h,k,k0=>by
  have ih:=xT (ts:=ts) (fun x hx=>h x (qh _ hx)) k0;have c:=ACf (h t qc) k0;have sg:=(h t qc).sg;unfold SU at*
  rw[zn,kg,qo,ke,jk0];have e1:((1:Nat):Int)*k=k:=by simp
  rcases sg with z | z
  ·rw[z,jf5];lia
  ·rw[z,show(-1:Int)*ctT t k= -ctT t k by lia];lia
noncomputable def PER(ts:List Tm):Int:=ts.foldl (fun p t=>Bx p t.2.2.2) 1
theorem Xw(h:∀t∈ts,OkT t)(hf:falls ts<base){P:Int}(P0:0<P):0<UP base ts P:=by
 have m:=f9 h (jg8 (falls ts)) (show (0:Int)<=P by lia);rw[vh h] at m;unfold UP at*
 have:(falls ts+1)*P<=base*P:=vv (by lia) (by lia);rw[jk0,jf5] at this;lia
theorem AAX{t:Tm}(h:OkT t){k:Int}(k0:k<=0):k<=ctT t k/\ctT t k<=0:=by
 have n0:=h.n0;have a0:=h.a0;have b0:=h.b0;have b1:=h.b1;have p0:t.2.1*k<=0:=Int.mul_nonpos_of_nonneg_of_nonpos a0 k0;have p1:t.2.2.2*k<=t.2.1*k:=jg6 h.a1 k0;unfold ctT;constructor
 ·rw[Int.le_ediv_iff_mul_le (by lia),Zs];lia
 ·have:(t.2.1*k+t.2.2.1)/t.2.2.2<1:=by
   rw[Int.ediv_lt_iff_lt_mul (by lia),jf5];lia
  lia
theorem qT:∀{ts:List Tm} (_:∀t∈ts,OkT t) {k:Int} (_:k<=0),(ts.length:Int)*k<=SU ts k/\SU ts k<= -((ts.length:Int)*k)
 | [],_,k,_=>by unfold SU;simp
 | t::ts,h,k,k0=>by
  have ih:=qT (ts:=ts) (fun x hx=>h x (qh _ hx)) k0;have c:=AAX (h t qc) k0;have sg:=(h t qc).sg;unfold SU at*
  rw[zn,kg,qo,ke,jk0];have e1:((1:Nat):Int)*k=k:=by simp
  rcases sg with z | z
  ·rw[z,jf5];omega
  ·rw[z,show(-1:Int)*ctT t k= -ctT t k by omega];omega
theorem qR{b:Int}(h:∀t∈ts,OkT t)(b0:0<=b)(b1:b<=20000)(few:ts.length<=6){k K:Int}(h0: -K<=k)(h1:k<=K): -(20006*K)<=UP b ts k/\UP b ts k<=20006*K:=by
 unfold UP;rcases je8 k 0 with c | c
 ·obtain⟨s1,s2⟩:=qT h (show k<=0 by lia);have m1:20000*k<=b*k:=jg6 b1 (by lia);have m2:b*k<=0:=Int.mul_nonpos_of_nonneg_of_nonpos b0 (by lia);have m3:6*k<=(ts.length:Int)*k:=jg6 (by lia) (by lia);lia
 ·obtain⟨s1,s2⟩:=xT h c;have m1:b*k<=20000*k:=vv b1 c;have m2:0<=b*k:=jf4 b0 c;have m3:(ts.length:Int)*k<=6*k:=vv (by lia) c;lia
theorem gK(h:∀t∈ts,OkT t)(k:Int):ONS ts k<=(ts.length:Int):=by
 unfold ONS
 induction ts with
 | nil=>exact jg8 0
 | cons t ts ih=>
  have i:=ih fun x hx=>h x (qh _ hx);have sg:=(h t qc).sg;rw[jh8,qo];split
  ·rw[zn,kg];lia
  ·lia
theorem lH:∀{ls:List Int},(∀n∈ls,0<=n/\n<=1000)->0<=ls.sum/\ls.sum<=1000*(ls.length:Int)
 | [],_=>by simp
 | a::ls,h=>by
  have i:=lH (ls:=ls) fun n hn=>h n (qh _ hn);have:=h a qc;rw[kg,qo];lia
noncomputable def U4(ls:List Int)(lp:Int)(ts:List Tm)(y:Int):List Int:=ls.set (lp-1).toNat (ls.getD (lp-1).toNat 0+ONS ts y)
structure HN(ls:List Int)(lp:Int)(ts:List Tm):Prop where
 l0:1<=ls.length
 l1:ls.length<=20
 m:∀n∈ls,0<=n/\n<=1000
 p0:1<=lp
 p1:lp<=(ls.length:Int)
 f0:falls ts<=ls.getD (lp-1).toNat 0
 f1:falls ts<ls.sum
 ok:∀t∈ts,OkT t
 few:ts.length<=6
theorem HN.sum{ls:List Int}{lp:Int}(g:HN ls lp ts):0<=ls.sum/\ls.sum<=20000:=by
 have:=lH g.m;have:=g.l1;lia
theorem getD_mem'{ls:List Int}{i:Nat}(h:i<ls.length):ls.getD i 0∈ls:=by
 rw[ja2,qm h];exact jj8 h
theorem qX{ls:List Int}{lp:Int}(g:HN ls lp ts)(y:Int):∀n∈U4 ls lp ts y,0<=n/\n<=1006:=by
 intro n hn;have p0:=g.p0;have p1:=g.p1;unfold U4 at hn;rcases List.mem_or_eq_of_mem_set hn with z | z
 ·have:=g.m n z;omega
 ·have:=g.m _ (getD_mem' (ls:=ls) (i:=(lp-1).toNat) (by omega));have l:=Q4 g.ok y;have u:=gK g.ok y;have:=g.few;have:=g.f0;omega
theorem qY{ls:List Int}{lp:Int}{y:Int}:(U4 ls lp ts y).length=ls.length:=by
 unfold U4;rw[List.length_set]
structure Ih(bd:Int)(td:List Tm)(bm:Int)(tm:List Tm):Prop where
 fd:falls td<bd
 gd:bd<=1000
 fm:falls tm<bm
 gm:bm<=20
 okd:∀t∈td,OkT t
 okm:∀t∈tm,OkT t
 fwd:td.length<=6
 fwm:tm.length<=6
noncomputable def MYS(s bd:Int)(td:List Tm)(bm:Int)(tm:List Tm)(y:Int):Int:=s+UP bd td (UP bm tm y)
noncomputable def cO(bd:Int)(td:List Tm)(bm:Int)(tm:List Tm)(y:Int):List Int:=(List.range (AT bm tm y).toNat).map fun i:Nat=>AT bd td (UP bm tm y+(i:Int))
theorem pG:0<=falls ts:=by
 unfold falls;lia
theorem cR{b:Int}(h:∀t∈ts,OkT t)(hf:falls ts<b)(k:Int):1<=AT b ts k:=by
 have:=Q4 h k;unfold AT;lia
theorem qt{b:Int}(h:∀t∈ts,OkT t)(few:ts.length<=6)(k:Int):AT b ts k<=b+6:=by
 have:=gK h k;unfold AT;lia
theorem qU{bd:Int}{td:List Tm}{bm:Int}{tm:List Tm}(g:Ih bd td bm tm)(y:Int):∀n∈cO bd td bm tm y,0<=n/\n<=1006:=by
 intro n hn;unfold cO at hn;obtain⟨i,_,rfl⟩:=ya.mp hn;have:=cR g.okd g.fd (UP bm tm y+(i:Int));have:=qt g.okd g.fwd (b:=bd) (UP bm tm y+(i:Int));have:=g.gd;lia
theorem qW{bd:Int}{td:List Tm}{bm:Int}{tm:List Tm}(g:Ih bd td bm tm)(y:Int):1<=(cO bd td bm tm y).length/\(cO bd td bm tm y).length<=26:=by
 unfold cO;rw[js,Qb];have:=cR g.okm g.fm y;have:=qt g.okm g.fwm (b:=bm) y;have:=g.gm;lia
inductive Bu where
 | sun (s:Int) (ls:List Int) (lp:Int) (ts:List Tm)
 | moon (s bd:Int) (td:List Tm) (bm:Int) (tm:List Tm)
noncomputable def Bu.Y:Bu->Int->Int
 | .sun s ls _ ts,y=>s+UP ls.sum ts y
 | .moon s bd td bm tm,y=>MYS s bd td bm tm y
noncomputable def Bu.L:Bu->Int->List Int
 | .sun _ ls lp ts,y=>U4 ls lp ts y
 | .moon _ bd td bm tm,y=>cO bd td bm tm y
noncomputable def Bu.good:Bu->Prop
 | .sun _ ls lp ts=>HN ls lp ts
 | .moon _ bd td bm tm=>Ih bd td bm tm
noncomputable def Bu.st:Bu->Int
 | .sun s _ _ _=>s
 | .moon s _ _ _ _=>s
noncomputable def PS(l:List Int)(j:Nat):Int:=(l.take j).sum
theorem vp{l:List Int}:PS l 0=0:=rfl
theorem gD{l:List Int}{j:Nat}(h:j<l.length):PS l (j+1)=PS l j+l.getD j 0:=by
 unfold PS;rw[Qr,ja2,qm h,List.sum_append];simp
theorem gF{l:List Int}(h:∀n∈l,0<=n){i:Nat}:∀{j:Nat},i<=j->j<=l.length->PS l i<=PS l j
 | 0,hij,_=>by
  have:i=0:=by lia
  subst this;exact jg8 _
 | j+1,hij,hj=>by
  rcases Nat.lt_or_eq_of_le hij with c | c
  ·have:=gF (i:=i) h (show i<=j by lia) (by lia);have e:=gD (l:=l) (j:=j) (by lia);have:=h _ (getD_mem' (ls:=l) (i:=j) (by lia));lia
  ·subst c;exact jg8 _
theorem AAr{l:List Int}:PS l l.length=l.sum:=by
 unfold PS;rw[jc1]
theorem Bu.mem{d:Bu}(g:d.good)(y:Int):∀n∈d.L y,0<=n/\n<=1006:=by
 cases d with
 | sun s ls lp ts=>exact qX g y
 | moon s bd td bm tm=>exact qU g y
theorem Bu.len{d:Bu}(g:d.good)(y:Int):1<=(d.L y).length/\(d.L y).length<=26:=by
 cases d with
 | sun s ls lp ts=>
  show 1<=(U4 ls lp ts y).length/\(U4 ls lp ts y).length<=26;rw[qY];have:=HN.l0 g;have:=HN.l1 g;lia
 | moon s bd td bm tm=>exact qW g y
noncomputable def moT(td:List Tm)(bm:Int)(tm:List Tm):Int:=PER td/(Int.gcd (PER td) (UP bm tm (PER tm)):Int)
noncomputable def Bu.cy:Bu->Int×Int
 | .sun _ ls _ ts=>(PER ts,UP ls.sum ts (PER ts))
 | .moon _ bd td bm tm=>(PER tm*moT td bm tm,UP bd td (UP bm tm (PER tm)*moT td bm tm))
noncomputable def Gt(T B:Int->Bool)(e:Int)(k:Nat)(d:Int):Prop:=∃j:Nat,j<k/\T (d-e*(j:Int))=true/\∀i:Nat,i<j->B (d-e*(i:Int))=false
noncomputable def Fre(B:Int->Bool)(e:Int)(k:Nat)(d:Int):Prop:=∀i:Nat,i<k->B (d-e*(i:Int))=false
noncomputable def Gat(T B:Int->Bool)(e d:Int):Prop:=∃j:Nat,T (d-e*(j:Int))=true/\∀i:Nat,i<j->B (d-e*(i:Int))=false
theorem Iu(d e:Int)(k i:Nat):d-e*(k:Int)-e*(i:Int)=d-e*((k+i:Nat):Int):=by
 rw[ke,Zp];lia
variable{B:Int->Bool}
theorem Gt.step{T:Int->Bool}{k:Nat}:Gt T B e (2*k) d<->Gt T B e k d\/(Gt T B e k (d-e*(k:Int))/\Fre B e k d):=by
 constructor
 ·rintro⟨j,hj,ht,hb⟩;by_cases c:j<k
  ·exact .inl ⟨j,c,ht,hb⟩
  ·refine .inr ⟨⟨j-k,by lia,?_,fun i hi=>?_⟩,fun i hi=>hb i (by lia)⟩
   ·rw[Iu,show k+(j-k)=j by lia];exact ht
   ·rw[Iu];exact hb _ (by lia)
 ·rintro(⟨j,hj,ht,hb⟩ | ⟨⟨j,hj,ht,hb⟩,hf⟩)
  ·exact⟨j,by lia,ht,hb⟩
  ·refine⟨k+j,by lia,?_,fun i hi=>?_⟩
   ·rw[<-Iu];exact ht
   ·by_cases c:i<k
    ·exact hf i c
    ·have:=hb (i-k) (by lia);rw[Iu,show k+(i-k)=i by lia] at this;exact this
theorem Fre.step{k:Nat}:Fre B e (2*k) d<->Fre B e k d/\Fre B e k (d-e*(k:Int)):=by
 constructor
 ·intro h;refine⟨fun i hi=>h i (by lia),fun i hi=>?_⟩;rw[Iu];exact h _ (by lia)
 ·rintro⟨h1,h2⟩ i hi;by_cases c:i<k
  ·exact h1 i c
  ·have:=h2 (i-k) (by lia);rw[Iu,show k+(i-k)=i by lia] at this;exact this
theorem Gt.one{T:Int->Bool}:Gt T B e 1 d<->T d=true:=by
 constructor
 ·rintro⟨j,hj,ht,_⟩;have:j=0:=by lia
  subst this;simpa using ht
 ·intro h;exact⟨0,by lia,by simpa using h,fun i hi=>by lia⟩
theorem Fre.one:Fre B e 1 d<->B d=false:=by
 constructor
 ·intro h;have:=h 0 (by lia);simpa using this
 ·intro h i hi;have:i=0:=by lia
  subst this;simpa using h
theorem Gat.iff{T:Int->Bool}{n k:Nat}(n0:0<n)(hk:n<=k)(pT:∀x y:Int,(n:Int)∣x-y->T x=T y)(pB:∀x y:Int,(n:Int)∣x-y->B x=B y):Gt T B e k d<->Gat T B e d:=by
 constructor
 ·rintro⟨j,_,ht,hb⟩;exact⟨j,ht,hb⟩
 ·rintro⟨j,ht,hb⟩;by_cases c:j<k
  ·exact⟨j,c,ht,hb⟩
  ·have m:=Nat.mod_lt j n0;have dv:∀a:Nat,(n:Int)∣d-e*(a:Int)-(d-e*((a%n:Nat):Int)):=fun a=>by
    have h:=Nat.mod_add_div a n;refine⟨-(e*((a/n:Nat):Int)),?_⟩;have h2:(a:Int)=((a%n:Nat):Int)+(n:Int)*((a/n:Nat):Int):=by
     rw[<-jk9,<-ke,h]
    generalize ((a%n:Nat):Int)=r at*
    generalize ((a/n:Nat):Int)=q at*
    rw[h2,Zp,ji4,jm3];lia
   refine⟨j%n,by lia,?_,fun i hi=>hb i (by lia)⟩;rw[<-pT _ _ (dv j)];exact ht
theorem lcm_self{n:Int}(h:0<n):Bx n n=n:=by
 unfold Bx;have e:((Int.gcd n n:Nat):Int)=n:=by
  rw[Int.gcd_self];lia
 rw[e,Int.ediv_self (by lia),jf5]
theorem K9{n:Int}{x y:Int}(h:n∣x-y):On n b x=On n b y:=by
 unfold On;rw[Int.emod_eq_emod_iff_emod_sub_eq_zero.mpr (Int.emod_eq_zero_of_dvd h)]
noncomputable def cG(T B:Int->Bool)(e:Int):Nat->Int->Nat
 | 0,_=>0
 | k+1,d=>(if T d=true then 1 else 0)+(if B d=true then 0 else cG T B e k (d-e))
noncomputable def Bar(B:Int->Bool)(e:Int)(k:Nat)(d:Int):Prop:=∃j:Nat,j<k/\B (d-e*(j:Int))=true
theorem Bar.down{k:Nat}(h:Bar B e (k+1) d)(hb:¬B d=true):Bar B e k (d-e):=by
 obtain⟨j,hj,ht⟩:=h;cases j with
 | zero=>exact absurd (by simpa using ht) hb
 | succ j=>
  refine⟨j,by lia,?_⟩;rw[show d-e-e*(j:Int)=d-e*((j+1:Nat):Int) by rw[ke,Zp];simp;lia];exact ht
theorem Xr{T:Int->Bool}:∀{k N:Nat} {d:Int},Bar B e k d->k<=N->cG T B e N d=cG T B e k d
 | 0,_,_,⟨j,hj,_⟩,_=>absurd hj (by lia)
 | k+1,0,_,_,h=>absurd h (by lia)
 | k+1,N+1,d,h,hk=>by
  unfold cG;by_cases hb:B d=true
  ·rw[xh hb,xh hb]
  ·rw[xk hb,xk hb,Xr (h.down hb) (by lia)]
theorem KN{T:Int->Bool}{n:Nat}(hB:∀d,Bar B e n d)(d:Int):cG T B e n d=(if T d=true then 1 else 0)+(if B d=true then 0 else cG T B e n (d-e)):=by
 rw[<-Xr (N:=n+1) (hB d) (by lia)];rfl
theorem qF{T B:Int->Bool}{e:Int}(m:Nat):∀(k:Nat) (d:Int),(Fre B e k d->cG T B e (k+m) d=cG T B e k d+cG T B e m (d-e*(k:Int)))/\(¬Fre B e k d->cG T B e (k+m) d=cG T B e k d)
 | 0,d=>⟨fun _=>by rw[jn6];unfold cG;cases m<;>simp[cG],fun h=>absurd (fun i hi=>absurd hi (by lia)) h⟩
 | k+1,d=>by
  have ih:=qF (T:=T) (B:=B) (e:=e) m k (d-e);have fr:Fre B e (k+1) d<->B d=false/\Fre B e k (d-e):=by
   constructor
   ·intro h;refine⟨by simpa using h 0 (by lia),fun i hi=>?_⟩;have:=h (i+1) (by lia);rw[show d-e*((i+1:Nat):Int)=d-e-e*(i:Int) by rw[ke,Zp];simp;lia] at this;exact this
   ·rintro⟨h1,h2⟩ i hi;cases i with
    | zero=>simpa using h1
    | succ i=>
     have:=h2 i (by lia);rw[show d-e*((i+1:Nat):Int)=d-e-e*(i:Int) by rw[ke,Zp];simp;lia];exact this
  have ek:d-e*((k+1:Nat):Int)=d-e-e*(k:Int):=by rw[ke,Zp];simp;lia
  rw[show k+1+m=(k+m)+1 by lia,ek];constructor
  ·intro h;obtain⟨h1,h2⟩:=fr.mp h;have hn:¬B d=true:=by rw[h1];exact zi
   show _+(if B d=true then 0 else _)=_+(if B d=true then 0 else _)+_;rw[xk hn,xk hn,ih.1 h2,Nat.add_assoc]
  ·intro h;show _+(if B d=true then 0 else _)=_+(if B d=true then 0 else _);by_cases hb:B d=true
   ·rw[xh hb,xh hb]
   ·rw[xk hb,xk hb,ih.2 fun h2=>h (fr.mpr ⟨by simpa using hb,h2⟩)]
theorem AAd{T:Int->Bool}{k:Nat}:cG T B e (2*k) d%2=1<->((cG T B e k d%2=1)≠(cG T B e k (d-e*(k:Int))%2=1/\Fre B e k d)):=by
 have h:=qF (T:=T) (B:=B) (e:=e) k k d;rw[show 2*k=k+k by lia];by_cases f:Fre B e k d
 ·rw[h.1 f];simp only[f,and_true,ne_eq,eq_iff_iff];lia
 ·rw[h.2 f];simp only[f,and_false,ne_eq,eq_iff_iff,iff_false,Decidable.not_not]
theorem qD{T T':Int->Bool}{n:Nat}(hB:∀d,Bar B e n d)(hT:∀d,T' d=true<->T d=true/\cG T B e n d%2=1):∀(k:Nat) (d:Int),Bar B e k d->cG T' B e n d=(cG T B e n d+1)/2
 | 0,_,⟨j,hj,_⟩=>absurd hj (by lia)
 | k+1,d,h=>by
  have r:=KN (T:=T) hB d;have r':=KN (T:=T') hB d;have t:=hT d;by_cases hb:B d=true
  ·rw[xh hb] at r r';by_cases td:T d=true
   ·rw[xh td] at r;rw[xh (t.mpr ⟨td,by lia⟩)] at r';lia
   ·rw[xk td] at r;rw[xk (fun x=>td (t.mp x).1)] at r';lia
  ·have ih:=qD hB hT k (d-e) (h.down hb);rw[xk hb] at r r';by_cases td:T d=true
   ·rw[xh td] at r;by_cases o:cG T B e n d%2=1
    ·rw[xh (t.mpr ⟨td,o⟩)] at r';lia
    ·rw[xk (fun x=>o (t.mp x).2)] at r';lia
   ·rw[xk td] at r;rw[xk (fun x=>td (t.mp x).1)] at r';lia
theorem fZ{T T':Int->Bool}{n:Nat}(hB:∀d,Bar B e n d)(hT:∀d,T' d=true<->T d=true/\cG T B e n d%2=0):∀(k:Nat) (d:Int),Bar B e k d->cG T' B e n d=cG T B e n d/2
 | 0,_,⟨j,hj,_⟩=>absurd hj (by lia)
 | k+1,d,h=>by
  have r:=KN (T:=T) hB d;have r':=KN (T:=T') hB d;have t:=hT d;by_cases hb:B d=true
  ·rw[xh hb] at r r';by_cases td:T d=true
   ·rw[xh td] at r;rw[xk (fun x=>by have:=(t.mp x).2;lia)] at r';lia
   ·rw[xk td] at r;rw[xk (fun x=>td (t.mp x).1)] at r';lia
  ·have ih:=fZ hB hT k (d-e) (h.down hb);rw[xk hb] at r r';by_cases td:T d=true
   ·rw[xh td] at r;by_cases o:cG T B e n d%2=0
    ·rw[xh (t.mpr ⟨td,o⟩)] at r';lia
    ·rw[xk (fun x=>o (t.mp x).2)] at r';lia
   ·rw[xk td] at r;rw[xk (fun x=>td (t.mp x).1)] at r';lia
theorem Zu{T:Int->Bool}{n:Nat}(hB:∀d,Bar B e n d):∀(k:Nat) (d:Int),Bar B e k d->(cG T B e n d=0<->∃j:Nat,B (d-e*(j:Int))=true/\∀i:Nat,i<=j->T (d-e*(i:Int))=false)
 | 0,_,⟨j,hj,_⟩=>absurd hj (by lia)
 | k+1,d,h=>by
  have r:=KN (T:=T) hB d;by_cases td:T d=true
  ·rw[xh td] at r;constructor
   ·intro h0;lia
   ·rintro⟨j,_,h2⟩;have:=h2 0 (by lia);rw[show d-e*((0:Nat):Int)=d by simp,td] at this;cases this
  ·rw[xk td] at r;by_cases hb:B d=true
   ·rw[xh hb] at r;refine⟨fun _=>⟨0,by simpa using hb,fun i hi=>?_⟩,fun _=>by lia⟩;have:i=0:=by lia
    subst this;simpa using td
   ·rw[xk hb,jn6] at r;rw[r,Zu hB k (d-e) (h.down hb)];have ek:∀j:Nat,d-e*((j+1:Nat):Int)=d-e-e*(j:Int):=fun j=>by rw[ke,Zp];simp;lia
    constructor
    ·rintro⟨j,h1,h2⟩;refine⟨j+1,by rw[ek];exact h1,fun i hi=>?_⟩;cases i with
     | zero=>simpa using td
     | succ i=>
      rw[ek];exact h2 i (by lia)
    ·rintro⟨j,h1,h2⟩;cases j with
     | zero=>exact absurd (by simpa using h1) hb
     | succ j=>
      refine⟨j,by rw[<-ek];exact h1,fun i hi=>?_⟩;rw[<-ek];exact h2 _ (by lia)
theorem xO{n1 n2:Int}{b1 b2 n:Nat}(h1:0<n1)(hB:∀d,Bar (On n2 b2) 1 n d):∀(k:Nat) (d:Int),Bar (On n2 b2) 1 k d->∃b,On n2 b2 b=true/\b<=d/\(∀r,b<r->r<=d->On n2 b2 r=false)/\CC n1 b1 (d+1)-CC n1 b1 b=(cG (On n1 b1) (On n2 b2) 1 n d:Int)
 | 0,_,⟨j,hj,_⟩=>absurd hj (by lia)
 | k+1,d,h=>by
  have r:=KN (T:=On n1 b1) hB d;have c:=G5 (b:=b1) h1 d;by_cases hb:On n2 b2 d=true
  ·rw[xh hb] at r;refine⟨d,hb,by lia,fun r h1 h2=>by lia,?_⟩;rw[r,c];split<;>simp_all<;>lia
  ·rw[xk hb] at r;obtain⟨b,g1,g2,g3,g4⟩:=xO h1 hB k (d-1) (h.down hb);rw[show d-1+1=d by lia] at g4;refine⟨b,g1,by lia,fun r h1 h2=>?_,?_⟩
   ·by_cases e:r=d
    ·rw[e];simpa using hb
    ·exact g3 r h1 (by lia)
   ·rw[r,c,ke,<-g4];split<;>simp_all<;>lia
theorem xP{n1 n2:Int}{b1 b2 n:Nat}(hb':∀d,B d=On n2 b2 (d+1))(h1:0<n1)(hB:∀d,Bar B (-1) n d):∀(k:Nat) (d:Int),Bar B (-1) k d->∃e,On n2 b2 e=true/\d<e/\(∀r,d<r->r<e->On n2 b2 r=false)/\CC n1 b1 e-CC n1 b1 d=(cG (On n1 b1) B (-1) n d:Int)
 | 0,_,⟨j,hj,_⟩=>absurd hj (by lia)
 | k+1,d,h=>by
  have r:=KN (T:=On n1 b1) hB d;have c:=G5 (b:=b1) h1 d;by_cases hb:B d=true
  ·rw[xh hb] at r;refine⟨d+1,by rw[<-hb'];exact hb,by lia,fun r h1 h2=>by lia,?_⟩;rw[r,c];split<;>simp_all<;>lia
  ·rw[xk hb] at r;obtain⟨e,g1,g2,g3,g4⟩:=xP hb' h1 hB k (d- -1) (h.down hb);rw[show d- -1=d+1 by lia] at g2 g3 g4 r;refine⟨e,g1,by lia,fun r h1 h2=>?_,?_⟩
   ·by_cases e:r=d+1
    ·rw[e,<-hb'];simpa using hb
    ·exact g3 r (by lia) h2
   ·rw[r,ke,<-g4,c];split<;>simp_all<;>lia
theorem qI(z0:0<z)(per:∀x y:Int,z∣x-y->B x=B y){x:Int}(hx:B x=true)(he:e=1\/e= -1)(d:Int):Bar B e z.toNat d:=by
 rcases he with rfl | rfl
 ·have h1:=qk (d-x) (show z≠0 by lia);have h2:=qg (d-x) z0;have h3:=jm8 (d-x) z;refine⟨((d-x)%z).toNat,by lia,?_⟩;rw[show d-1*((((d-x)%z).toNat:Nat):Int)=d-(d-x)%z by lia,per _ x ⟨(d-x)/z,by lia⟩];exact hx
 ·have h1:=qk (x-d) (show z≠0 by lia);have h2:=qg (x-d) z0;have h3:=jm8 (x-d) z;refine⟨((x-d)%z).toNat,by lia,?_⟩;rw[show d- -1*((((x-d)%z).toNat:Nat):Int)=d+(x-d)%z by lia,per _ x ⟨-((x-d)/z),by rw[ji4];lia⟩];exact hx
theorem AAe{T:Int->Bool}{n:Nat}(hB:∀d,Bar B e n d){d:Int}(td:T d=true):cG T B e n d=1<->∃j:Nat,B (d-e*(j:Int))=true/\∀i:Nat,0<i->i<=j->T (d-e*(i:Int))=false:=by
 have r:=KN (T:=T) hB d;have f:=Zu (T:=T) hB n (d-e) (hB _);have ek:∀j:Nat,d-e*((j+1:Nat):Int)=d-e-e*(j:Int):=fun j=>by rw[ke,Zp];simp;lia
 rw[xh td] at r;by_cases hb:B d=true
 ·rw[xh hb] at r;exact⟨fun _=>⟨0,by simpa using hb,fun i h1 h2=>by lia⟩,fun _=>by lia⟩
 ·rw[xk hb] at r;constructor
  ·intro h;obtain⟨j,h1,h2⟩:=f.mp (by lia);refine⟨j+1,by rw[ek];exact h1,fun i i0 hi=>?_⟩;have:=h2 (i-1) (by lia);rw[<-ek,show i-1+1=i by lia] at this;exact this
  ·rintro⟨j,h1,h2⟩;cases j with
   | zero=>exact absurd (by simpa using h1) hb
   | succ j=>
    have:=f.mpr ⟨j,by rw[<-ek];exact h1,fun i hi=>by rw[<-ek];exact h2 _ (by lia) (by lia)⟩;lia
theorem zf{n1 n2 k:Int}{b1 b2 n:Nat}(hb':∀d,B d=On n2 b2 (d+1))(h1:0<n1)(hU:∀d,Bar (On n2 b2) 1 n d)(hD:∀d,Bar B (-1) n d)(k0:k≠0):
 Kth n1 b1 n2 b2 k d<->On n1 b1 d=true/\(if 0<k then cG (On n1 b1) (On n2 b2) 1 n d else cG (On n1 b1) B (-1) n d)=k.natAbs:=by
 obtain⟨b,p1,p2,p3,p4⟩:=xO (b1:=b1) h1 hU n d (hU d);obtain⟨e,q1,q2,q3,q4⟩:=xP (b1:=b1) hb' h1 hD n d (hD d);constructor
 ·rintro⟨od,b',e',g1,g2,g3,g4,g5,g6,g7⟩;have eb:b=b':=by
   rcases jg1 b b' with h | h | h
   ·rw[p3 b' h g3] at g1;cases g1
   ·exact h
   ·rw[g5 b h (by lia)] at p1;cases p1
  have ee:e=e':=by
   rcases jg1 e e' with h | h | h
   ·rw[g5 e (by lia) h] at q1;cases q1
   ·exact h
   ·rw[q3 e' (by lia) h] at g2;cases g2
  subst eb;subst ee;refine⟨od,?_⟩;split
  ·next h=>
   have:=g6 h;lia
  ·next h=>
   have:=g7 (by lia);lia
 ·rintro⟨od,h⟩;refine⟨od,b,e,p1,q1,p2,q2,fun r r1 r2=>?_,fun h0=>?_,fun h0=>?_⟩
  ·by_cases c:r<=d
   ·exact p3 r r1 c
   ·exact q3 r (by lia) r2
  ·rw[xh h0] at h;lia
  ·rw[xk (by lia)] at h;lia
structure Nx(on:Int->Bool)(r r':Int):Prop where
 o1:on r=true
 o2:on r'=true
 lt:r<r'
 no:∀x,r<x->x<r'->on x=false
theorem Nx.per{on:Int->Bool}(per:∀d k,on (d+z*k)=on d)(h:Nx on r r')(k:Int):Nx on (r+z*k) (r'+z*k):=by
 refine⟨by rw[per];exact h.o1,by rw[per];exact h.o2,by have:=h.lt;lia,fun x h1 h2=>?_⟩;have:=h.no (x+z* -k) (by rw[ji4];lia) (by rw[ji4];lia)
 rwa [per] at this
theorem Nx.ge{on:Int->Bool}{x:Int}(h:Nx on r r')(hx:on x=true)(l:r<x):r'<=x:=by
 by_cases c:r'<=x
 ·exact c
 ·have:=h.no x l (by lia);rw[hx] at this;cases this
theorem Nx.le{on:Int->Bool}{x:Int}(h:Nx on r r')(hx:on x=true)(l:x<r'):x<=r:=by
 by_cases c:x<=r
 ·exact c
 ·have:=h.no x (by lia) l;rw[hx] at this;cases this
theorem Nx.un{on:Int->Bool}{u u' s:Int}(h:Nx on r r')(g:Nx on u u')(h1:r<=s)(h2:s<r')(g1:u<=s)(g2:s<u'):r=u/\r'=u':=by
 have a1:=h.le g.o1 (by lia);have a2:=g.le h.o1 (by lia);have b1:=h.ge g.o2 (by lia);have b2:=g.ge h.o2 (by lia);lia
theorem uW{on:Int->Bool}{s:Int}(z0:0<z)(per:∀d k,on (d+z*k)=on d)(hs:on s=true)(d:Int):∃y,d<y/\on y=true/\∀r,d<r->r<y->on r=false:=by
 obtain⟨x,h1,h2,h3⟩:=eZ (on:=fun t=>on (-t)) (z:=z) (s:= -s) z0 (fun t k=>by show on (-(t+z*k))=on (-t);rw[<-per (-t) (-k),ji4];congr 1;lia) (by show on (- -s)=true;rw[Int.neg_neg];exact hs) (-(d+1));refine⟨-x,by lia,h2,fun r a b=>?_⟩;have:=h3 (-r) (by lia) (by lia)
 rwa [Int.neg_neg] at this
theorem n6{on:Int->Bool}{s:Int}(z0:0<z)(per:∀d k,on (d+z*k)=on d)(hs:on s=true)(d:Int):∃r r',Nx on r r'/\r<=d/\d<r':=by
 obtain⟨r,a1,a2,a3⟩:=eZ z0 per hs d;obtain⟨r',b1,b2,b3⟩:=uW z0 per hs d;refine⟨r,r',⟨a2,b2,by lia,fun x h1 h2=>?_⟩,a1,b1⟩;rcases je8 d x with c | c
 ·exact b3 x c h2
 ·exact a3 x h1 c
noncomputable def Fj(z:Int)(ds:List Int):List Int:=ds.drop 1++(ds.take 1).map (· +z)
noncomputable def mids(z:Int)(ds:List Int):List Int:=List.zipWith (fun x y=>(x+y)/2+1) ds (Fj z ds)
theorem UL(z:Int)(ds:List Int):(Fj z ds).length=ds.length:=by
 unfold Fj;rw[zk,jb0,js,jc0];lia
theorem V9{on:Int->Bool}{ds:List Int}(z0:0<z)(per:∀d k,on (d+z*k)=on d)(srt:ds.Pairwise (· < ·))(mem:∀d,d∈ds<->0<=d/\d<z/\on d=true){i:Nat}{x y:Int}
 (hx:ds[i]?=some x)(hy:(Fj z ds)[i]?=some y):Nx on x y:=by
 have il:i<ds.length:=(qv.mp hx).1;obtain⟨f,hf⟩:∃f,ds[0]?=some f:=⟨_,qm (by lia)⟩;obtain⟨g,hg⟩:∃g,ds[ds.length-1]?=some g:=⟨_,qm (by lia)⟩;obtain⟨R,_,_⟩:=Rw.mk' z0 per srt mem hf hg;have e1:([g-z]++ds++[f+z])[i+1]?=some x:=by
  rw[jc5,ji6,jl3,jf6 il];exact hx
 have ht:ds.take 1=[f]:=by
  cases ds with
  | nil=>simp at hf
  | cons a r=>
   have:a=f:=by simpa using hf
   rw[this];rfl
 have hd:ds=f::ds.drop 1:=by
  cases ds with
  | nil=>simp at hf
  | cons a r=>
   have:a=f:=by simpa using hf
   rw[this];rfl
 have e2:([g-z]++ds++[f+z])[i+1+1]?=some y:=by
  rw[jc5,ji6,jl3];have:ds++[f+z]=f::(ds.drop 1++[f+z]):=by
   conv=>lhs;rw[hd]
   rfl
  rw[this,jl3];unfold Fj at hy;rw[ht] at hy;exact hy
 exact⟨R.all _ (zh e1),R.all _ (zh e2),Rn R.srt (jo1 _) e1 e2,fun r a b=>R.gap e1 e2 a b⟩
theorem oE{on:Int->Bool}{ds:List Int}(z0:0<z)(per:∀d k,on (d+z*k)=on d)(srt:ds.Pairwise (· < ·))(mem:∀d,d∈ds<->0<=d/\d<z/\on d=true)(d:Int):
 hit z (mids z ds) d=true<->∃r r',Nx on r r'/\d=(r+r')/2+1:=by
 rw[fJ];have bl:=UL z ds;constructor
 ·rintro⟨m,hm,k,rfl⟩;obtain⟨i,hi⟩:=ky.mp hm;unfold mids at hi;rw[jm0] at hi;cases ex:ds[i]? with
  | none=>rw[ex] at hi;simp at hi
  | some x=>
   cases ey:(Fj z ds)[i]? with
   | none=>rw[ex,ey] at hi;simp at hi
   | some y=>
    rw[ex,ey] at hi;have hi':(x+y)/2+1=m:=by simpa using hi
    have N:=(V9 z0 per srt mem ex ey).per per k;exact⟨_,_,N,by lia⟩
 ·rintro⟨r,r',N,rfl⟩;have e:=Xs r z;have m0:=qk r (show z≠0 by lia);have m1:=qg r z0;have N0:=N.per per (-(r/z));rw[ji4,show r+ -(z*(r/z))=r%z by lia] at N0;obtain⟨i,hi⟩:=ky.mp ((mem (r%z)).mpr ⟨m0,m1,N0.o1⟩);have il:i<ds.length:=(qv.mp hi).1;obtain⟨y,hy⟩:∃y,(Fj z ds)[i]?=some y:=⟨_,qm (by lia)⟩;have N1:=V9 z0 per srt mem hi hy;obtain⟨_,ey⟩:=N0.un N1 (jg8 _) N0.lt (jg8 _) N1.lt;refine⟨(r%z+y)/2+1,?_,r/z,by lia⟩;refine ky.mpr ⟨i,?_⟩;unfold mids;rw[jm0,hi,hy];rfl
noncomputable def WL(on:Int->Bool)(d:Int):Prop:=∃r r',Nx on r r'/\r<=d/\d<r'/\d-r<=r'-d
theorem jR{on on2:Int->Bool}(z0:0<z)(per:∀d k,on (d+z*k)=on d)(hm:∀d,on2 d=true<->∃r r',Nx on r r'/\d=(r+r')/2+1):
 (∃r,on r=true/\r<=d/\∀s,on2 s=true->r<s->d<s)<->WL on d:=by
 constructor
 ·rintro⟨r,h1,h2,h3⟩;obtain⟨x,y,N,a,b⟩:=n6 z0 per h1 d;refine⟨x,y,N,a,b,?_⟩;have rx:=N.le h1 (by lia);have lt:=N.lt;have:=h3 _ ((hm _).mpr ⟨x,y,N,rfl⟩) (by lia);lia
 ·rintro⟨r,r',N,h1,h2,h3⟩;refine⟨r,N.o1,h1,fun s hs rs=>?_⟩;obtain⟨u,u',M,e⟩:=(hm s).mp hs;by_cases c:d<s
  ·exact c
  ·have lt:=N.lt;have lt':=M.lt;by_cases c2:u<r
   ·have:=M.ge N.o1 c2;lia
   ·obtain⟨rfl,rfl⟩:=N.un M (s:=s-1) (by lia) (by lia) (by have:=N.le M.o1 (by lia);lia) (by lia);lia
theorem oA{on on2:Int->Bool}(z0:0<z)(per:∀d k,on (d+z*k)=on d):
 ((on d=true/\∃s,(on2 s=true/\WL on s)/\d<=s/\∀r,d<r->r<=s->on r=false)\/(on d=true/\∃s,(on2 s=true/\¬WL on s)/\s<=d/\∀r,s<=r->r<d->on r=false))<->
  (on d=true/\∃s,on2 s=true/\∀r,on r=true->(d<r->(d-s).natAbs<=(r-s).natAbs)/\(r<d->(d-s).natAbs<(r-s).natAbs)):=by
 constructor
 ·rintro(⟨hd,s,⟨hs,r,r',N,h1,h2,h3⟩,ds,no⟩ | ⟨hd,s,⟨hs,ne⟩,sd,no⟩)
  ·have e1:=N.le hd (by lia);have e:r=d:=by
    by_cases c:r=d
    ·exact c
    ·have:=no r (by lia) h1;rw[N.o1] at this;cases this
   subst e;refine⟨hd,s,hs,fun x hx=>⟨fun l=>?_,fun l=>by lia⟩⟩;have:=N.ge hx l;lia
  ·refine⟨hd,s,hs,fun x hx=>⟨fun l=>by lia,fun l=>?_⟩⟩;by_cases c:s=d
   ·lia
   obtain⟨r,r',N,h1,h2⟩:=n6 z0 per hd s;have g1:=N.ge hd (by lia);have g2:r'=d:=by
    by_cases c:r'=d
    ·exact c
    ·have:=no r' (by lia) (by lia);rw[N.o2] at this;cases this
   subst g2;have:=N.le hx l;by_cases c2:s-r<=r'-s
   ·exact absurd ⟨r,r',N,h1,h2,c2⟩ ne
   ·lia
 ·rintro⟨hd,s,hs,all⟩;rcases je8 s d with c | c
  ·refine .inr ⟨hd,s,⟨hs,?_⟩,by lia,fun r h1 h2=>?_⟩
   ·rintro⟨r,r',N,h1,h2,h3⟩;have g1:=N.ge hd (by lia);have:=(all r N.o1).2 (by lia);have:=(all r' N.o2);by_cases c2:r'=d
    ·lia
    ·have:=this.2 (by lia);lia
   ·cases e:on r with
    | false=>rfl
    | true=>
     have:=(all r e).2 h2;lia
  ·obtain⟨r,r',N,h1,h2⟩:=n6 z0 per hd s;refine .inl ⟨hd,s,⟨hs,r,r',N,h1,h2,?_⟩,c,fun x a b=>?_⟩
   ·have g1:=N.le hd (by lia);have g2:r=d:=by
     by_cases c2:r=d
     ·exact c2
     ·have:=(all r N.o1).1 (by lia);lia
    subst g2;have:=(all r' N.o2).1 (by lia);lia
   ·cases e:on x with
    | false=>rfl
    | true=>
     have:=(all x e).1 a;lia
noncomputable abbrev Wd:=List Nat
noncomputable def kL:Wd:=[40]
noncomputable def kR:Wd:=[41]
noncomputable def opd(p:Wd):Wd:=p.dropWhile (· ==40)
noncomputable def core(p:Wd):Wd:=((opd p).reverse.dropWhile (· ==41)).reverse
noncomputable def HR(p:Wd):List Wd:=List.replicate (p.length-(opd p).length) kL++[core p]++List.replicate ((opd p).length-(core p).length) kR
theorem Od(p:Wd):(opd p).length<=p.length:=(jl9 _).length_le
theorem Q0(p:Wd):(core p).length<=(opd p).length:=by
 unfold core;rw[jk1];have:=(jl9 (· ==41) (l:=(opd p).reverse)).length_le
 rwa [jk1] at this
noncomputable def jn:List Wd->Wd
 | []=>[]
 | [w]=>w
 | w::y::r=>w++32::jn (y::r)
noncomputable def bA:List Wd->List Wd
 | []=>[]
 | p::r=>(40::p)::r
noncomputable def bB:List Wd->List Wd
 | []=>[]
 | [p]=>[p++[41]]
 | p::q::r=>p::bB (q::r)
theorem JN{w:Wd}{r:List Wd}(h:r≠[]):jn (w::r)=w++32::jn r:=by
 cases r with
 | nil=>exact absurd rfl h
 | cons y r=>rfl
theorem oU:∀{ps qs:List Wd},ps≠[]->qs≠[]->jn (ps++qs)=jn ps++32::jn qs
 | [],_,h,_=>absurd rfl h
 | [w],qs,_,h=>by rw[ji6,JN h];rfl
 | w::y::r,qs,_,h=>by
  rw[jh7,JN (by simp),oU (by simp) h];show _=(w++32::jn (y::r))++_;simp
theorem ACU{ps:List Wd}(h:ps≠[]):jn (bA ps)=40::jn ps:=by
 match ps,h with
 | [w],_=>rfl
 | w::y::r,_=>rfl
theorem wz:∀{ps:List Wd},ps≠[]->jn (bB ps)=jn ps++[41]
 | [],h=>absurd rfl h
 | [w],_=>rfl
 | w::y::r,_=>by
  have ih:=wz (ps:=y::r) (by simp);have ne:bB (y::r)≠[]:=by cases r<;>simp[bB]
  show jn (w::bB (y::r))=_;rw[JN ne,ih];show _=(w++32::jn (y::r))++[41];simp
theorem lL:∀{w:Wd} {ws:List Wd},(∀p∈w::ws,32∉p)->L2.spl 32 (jn (w::ws))=w::ws
 | w,[],h=>L2.WX 32 w (h w qc)
 | w,y::r,h=>by
  show L2.spl 32 (w++32::jn (y::r))=_;rw[L2.Qt 32 w _ (h w qc),lL fun p hp=>h p (qh _ hp)]
theorem NK{ps:List Wd}(h:ps≠[]):bA ps≠[]:=by cases ps<;>simp_all [bA]
theorem WD{ps:List Wd}(h:ps≠[]):bB ps≠[]:=by
 match ps,h with
 | [w],_=>simp[bB]
 | w::y::r,_=>simp[bB]
theorem qJ:∀(ps:List Wd) {qs:List Wd},qs≠[]->bB (ps++qs)=ps++bB qs
 | [],_,_=>rfl
 | [p],q::r,_=>rfl
 | p::y::r,qs,h=>by
  have:=qJ (y::r) h;rw[jh7] at this ⊢;show bB (p::y::(r++qs))=_;show p::bB (y::(r++qs))=_;rw[this];rfl
theorem Mf(p:Wd):opd (40::p)=opd p:=by simp[opd,jb1]
theorem Gv(p:Wd):core (40::p)=core p:=by unfold core;rw[Mf]
theorem W9{p q:Wd}(h:opd p≠[]):opd (p++q)=opd p++q:=by
 unfold opd at*
 induction p with
 | nil=>exact absurd rfl h
 | cons a p ih=>
  by_cases e:a=40
  ·subst e;simp only[jh7,jb1,beq_self_eq_true,if_true] at*
   exact ih h
  ·simp[jb1,e]
theorem Kf{p:Wd}(h:opd p≠[]):core (p++[41])=core p:=by
 unfold core;rw[W9 h,List.reverse_append];simp[jb1]
theorem J5{p:Wd}(h:core p≠[]):opd p≠[]:=fun e=>h (by unfold core;rw[e];rfl)
theorem VL(p:Wd):HR (40::p)=kL::HR p:=by
 have:=Od p;unfold HR;rw[Mf,Gv,qo,Nat.succ_sub this,ja0];rfl
theorem VJ{p:Wd}(h:core p≠[]):HR (p++[41])=HR p++[kR]:=by
 have h2:=J5 h;have:=Q0 p;unfold HR;rw[Kf h2,W9 h2,zk,zk,show p.length+[41].length-((opd p).length+[41].length)=p.length-(opd p).length by simp,show(opd p).length+[41].length-(core p).length=(opd p).length-(core p).length+1 by simp;lia,List.replicate_succ'];simp
theorem Oo{p:Wd}(h1:p.head?≠some 40)(h2:p.getLast?≠some 41):core p=p:=by
 have e1:opd p=p:=by
  cases p with
  | nil=>rfl
  | cons a r=>
   have:a≠40:=fun e=>h1 (by rw[e];rfl);simp[opd,jb1,this]
 unfold core;rw[e1];cases e:p.reverse with
 | nil=>rw[List.dropWhile_nil];rw[List.reverse_eq_nil_iff.mp e];rfl
 | cons a r=>
  have:a≠41:=fun z=>h2 (by rw[List.getLast?_eq_head?_reverse,e,z];rfl);have e2:(a::r).dropWhile (· ==41)=a::r:=by simp[jb1,this]
  rw[e2,<-e,List.reverse_reverse]
theorem iQ{p:Wd}(h1:p.head?≠some 40)(h2:p.getLast?≠some 41):HR p=[p]:=by
 have e1:opd p=p:=by
  cases p with
  | nil=>rfl
  | cons a r=>
   have:a≠40:=fun e=>h1 (by rw[e];rfl);simp[opd,jb1,this]
 unfold HR;rw[Oo h1 h2,e1];simp
theorem eN{ps:List Wd}(h:ps≠[]):∃l p,ps=l++[p]:=⟨ps.dropLast,ps.getLast h,(List.dropLast_concat_getLast h).symm⟩
theorem fu{l:List Wd}{p:Wd}:bB (l++[p])=l++[p++[41]]:=qJ l (by simp)
noncomputable def tks(ps:List Wd):List Wd:=ps.flatMap HR
theorem kj{w:Wd}{ps:List Wd}(h:HR w=[w]):tks (w::ps)=w::tks ps:=by
 unfold tks;rw[jd6,h];rfl
theorem rB(ps qs:List Wd):tks (ps++qs)=tks ps++tks qs:=jh1
theorem kh{ps:List Wd}(ne:ps≠[])(co:∀p∈ps,core p≠[]):tks (bB (bA ps))=kL::(tks ps++[kR]):=by
 match ps,ne with
 | [f],_=>
  show HR ((40::f)++[41])++[]=kL::((HR f++[])++[kR]);rw[VJ (by rw[Gv];exact co f qc),VL];simp
 | f::y::r,_=>
  obtain⟨l,p,e⟩:=eN (ps:=y::r) (by simp);have E:bB (bA (f::y::r))=(40::f)::(l++[p++[41]]):=by
   show(40::f)::bB (y::r)=_;rw[e,fu]
  rw[E,e];unfold tks;rw[jd6,jh1,jd6,List.flatMap_nil,jd6,jh1,jd6,List.flatMap_nil,VL,VJ (co p (by rw[e];simp))];simp
theorem aC{ps:List Wd}(ne:ps≠[])(bl:∀p∈ps,32∉p):L2.spl 32 (jn ps)=ps:=by
 cases ps with
 | nil=>exact absurd rfl ne
 | cons w ws=>exact lL bl
theorem X6{ws:List Wd}{q:Wd}(h:q∈bB (bA ws))(ne:ws≠[]):∃w∈ws,q=w\/q=40::w\/q=w++[41]\/q=40::w++[41]:=by
 have A:∀q∈bA ws,∃w∈ws,q=w\/q=40::w:=fun q hq=>by
  cases ws with
  | nil=>exact absurd rfl ne
  | cons f r=>
   rcases qq.mp hq with z | z
   ·exact⟨f,qc,.inr z⟩
   ·exact⟨q,qh _ z,.inl rfl⟩
 obtain⟨l,p,e⟩:=eN (NK ne);rw[e] at A;rw[e,fu] at h;rcases ui.mp h with z | z
 ·obtain⟨w,hw,h⟩:=A q (jb9 _ z);exact⟨w,hw,h.elim .inl fun h=>.inr (.inl h)⟩
 ·obtain⟨w,hw,h⟩:=A p (yy _ qc);rw[xc.mp z];rcases h with h | h
  ·exact⟨w,hw,.inr (.inr (.inl (by rw[h])))⟩
  ·exact⟨w,hw,.inr (.inr (.inr (by rw[h])))⟩
theorem Xc{c:Nat}(h:c≠32):∀{ws:List Wd},c∈jn ws->∃w∈ws,c∈w
 | [],m=>(nomatch m)
 | [w],m=>⟨w,qc,m⟩
 | w::x::r,m=>by
  rw[JN (by simp)] at m;rcases ui.mp m with m | m
  ·exact⟨w,qc,m⟩
  ·rcases qq.mp m with m | m
   ·exact absurd m h
   ·obtain⟨y,hy,z⟩:=Xc h m;exact⟨y,qh _ hy,z⟩
end Fw
namespace Fw
open PySem L2 PyProof.Rows
noncomputable def top(i:Nat):Stmt:=PySem.Challenge.pw_feastwheel_k91_whole_what_a_text_says.main.body.getD i (.Pass ⟨0,0,0,0⟩)
noncomputable abbrev iI:Stmt:=top 19
noncomputable abbrev Uo:Stmt:=top 20
noncomputable abbrev Yo:Stmt:=top 21
noncomputable abbrev Uj:Stmt:=top 22
noncomputable abbrev Yi:Stmt:=top 24
noncomputable abbrev K6:Stmt:=top 33
noncomputable abbrev iJ:Stmt:=top 34
noncomputable abbrev aV:Stmt:=top 35
noncomputable abbrev mQ:Stmt:=top 36
noncomputable abbrev Lq:Stmt:=top 42
noncomputable abbrev aH:Stmt:=top 43
noncomputable abbrev iK:Stmt:=top 44
noncomputable abbrev yj:Stmt:=top 45
noncomputable abbrev Yp:Stmt:=top 47
noncomputable abbrev iM:Stmt:=top 48
noncomputable abbrev Yd:Stmt:=top 49
noncomputable abbrev Up:Stmt:=top 53
noncomputable abbrev yq:Stmt:=top 54
noncomputable abbrev mO:Stmt:=top 55
noncomputable abbrev mK:Stmt:=top 56
noncomputable abbrev gn:Stmt:=top 57
noncomputable abbrev Wr:Stmt:=top 58
noncomputable abbrev tM:Stmt:=top 59
noncomputable abbrev aK:Stmt:=top 62
noncomputable abbrev aP:Stmt:=top 63
noncomputable abbrev gw:Stmt:=top 64
noncomputable abbrev Wt:Stmt:=top 65
noncomputable abbrev aQ:Stmt:=top 66
noncomputable abbrev gq:Stmt:=top 73
noncomputable abbrev Wo:Stmt:=top 74
noncomputable abbrev iH:Stmt:=top 75
noncomputable abbrev RV:Stmt:=top 76
noncomputable abbrev Np:Stmt:=top 77
noncomputable abbrev Yj:Stmt:=top 78
noncomputable abbrev GK:Stmt:=inClass (top 79) 0
noncomputable abbrev Wy:Stmt:=inClass (top 79) 1
noncomputable abbrev Rf:Stmt:=inClass (top 79) 2
noncomputable abbrev Nv:Stmt:=inClass (top 79) 3
noncomputable abbrev QK:Stmt:=top 86
noncomputable abbrev Gh:Stmt:=inClass (top 87) 0
noncomputable abbrev Nt:Stmt:=inClass (top 87) 1
noncomputable abbrev Uq:Stmt:=inClass (top 87) 3
noncomputable abbrev Yr:Stmt:=inClass (top 87) 4
noncomputable abbrev Ui:Stmt:=top 88
noncomputable abbrev QT:Stmt:=inClass (top 89) 0
noncomputable abbrev Lw:Stmt:=inClass (top 89) 1
noncomputable abbrev Rc:Stmt:=inClass (top 89) 3
noncomputable abbrev Wx:Stmt:=inClass (top 89) 4
noncomputable abbrev RQ:Stmt:=top 91
noncomputable abbrev Ye:Stmt:=top 92
noncomputable abbrev Wq:Stmt:=top 93
noncomputable abbrev aJ:Stmt:=top 94
noncomputable abbrev Yh:Stmt:=top 95
noncomputable abbrev QL:Stmt:=top 96
noncomputable abbrev Ly:Stmt:=inClass (top 98) 0
noncomputable abbrev QJ:Stmt:=top 110
noncomputable abbrev QM:Stmt:=top 111
noncomputable abbrev RX:Stmt:=top 112
noncomputable abbrev Wv:Stmt:=top 113
noncomputable abbrev aR:Stmt:=top 115
noncomputable abbrev yg:Stmt:=top 116
noncomputable abbrev tL:Stmt:=top 117
noncomputable abbrev yh:Stmt:=top 118
noncomputable abbrev RT:Stmt:=top 119
noncomputable abbrev ym:Stmt:=top 120
noncomputable abbrev ABl:Stmt:=top 121
noncomputable abbrev tO:Stmt:=top 122
noncomputable abbrev HF:Stmt:=inClass (top 124) 0
noncomputable abbrev Nu:Stmt:=inClass (top 124) 1
noncomputable abbrev Jp:Stmt:=inClass (top 124) 3
noncomputable abbrev Ri:Stmt:=inClass (top 125) 0
noncomputable abbrev Ut:Stmt:=inClass (top 126) 0
noncomputable abbrev Yq:Stmt:=top 127
noncomputable abbrev QV:Stmt:=inClass (top 128) 0
noncomputable abbrev Ue:Stmt:=top 129
noncomputable abbrev Wu:Stmt:=top 130
noncomputable abbrev Gq:Stmt:=inClass (top 131) 0
noncomputable abbrev Ra:Stmt:=inClass (top 132) 0
noncomputable abbrev QX:Stmt:=inClass (top 133) 0
noncomputable abbrev Lx:Stmt:=inClass (top 134) 0
noncomputable abbrev Rh:Stmt:=inClass (top 135) 0
noncomputable abbrev Lr:Stmt:=inClass (top 136) 0
noncomputable abbrev Ny:Stmt:=inClass (top 137) 0
noncomputable abbrev QQ:Stmt:=inClass (top 138) 0
noncomputable abbrev Nq:Stmt:=inClass (top 139) 0
noncomputable abbrev QS:Stmt:=inClass (top 140) 0
noncomputable abbrev QR:Stmt:=inClass (top 141) 0
noncomputable abbrev Rg:Stmt:=inClass (top 142) 0
noncomputable abbrev Nz:Stmt:=inClass (top 143) 0
noncomputable abbrev Ls:Stmt:=inClass (top 147) 0
noncomputable abbrev Us:Stmt:=inClass (top 147) 1
noncomputable abbrev Ur:Stmt:=inClass (top 147) 2
noncomputable abbrev aG:Stmt:=top 148
noncomputable abbrev YZ:Stmt:=top 149
noncomputable abbrev Uh:Stmt:=top 150
noncomputable abbrev Ug:Stmt:=top 151
noncomputable abbrev Yb:Stmt:=top 152
noncomputable abbrev Yc:Stmt:=top 153
noncomputable abbrev HD:Stmt:=top 154
noncomputable abbrev JC:Stmt:=top 155
noncomputable abbrev Jo:Stmt:=top 156
noncomputable abbrev IK:Stmt:=top 157
noncomputable abbrev Jm:Stmt:=top 158
noncomputable abbrev Yl:Stmt:=top 159
noncomputable abbrev Yk:Stmt:=top 160
noncomputable abbrev aL:Stmt:=top 161
noncomputable abbrev Yg:Stmt:=top 162
noncomputable abbrev gr:Stmt:=top 172
noncomputable abbrev RZ:Stmt:=top 173
noncomputable abbrev YW:Stmt:=top 174
noncomputable abbrev YX:Stmt:=top 175
noncomputable abbrev Wn:Stmt:=top 177
noncomputable abbrev RP:Stmt:=top 187
noncomputable abbrev iG:Stmt:=top 188
noncomputable abbrev Ym:Stmt:=top 189
noncomputable abbrev Uk:Stmt:=top 190
noncomputable abbrev yo:Stmt:=top 191
noncomputable abbrev QW:Stmt:=inClass (top 192) 0
noncomputable abbrev aW:Stmt:=inClass (top 192) 1
noncomputable abbrev Ul:Stmt:=top 194
noncomputable abbrev Ws:Stmt:=top 195
noncomputable abbrev aN:Stmt:=top 196
noncomputable abbrev RW:Stmt:=top 197
noncomputable abbrev aO:Stmt:=top 198
noncomputable abbrev iB:Stmt:=top 199
noncomputable abbrev aM:Stmt:=top 200
noncomputable abbrev mL:Stmt:=top 201
noncomputable abbrev iD:Stmt:=top 202
noncomputable abbrev Yn:Stmt:=top 203
noncomputable abbrev Um:Stmt:=top 204
noncomputable abbrev iC:Stmt:=top 205
noncomputable abbrev dW:Stmt:=top 206
noncomputable def mG(K:Fr):Sp:=fun vs H Q _=>Ex3 fun(a:Addr) (ns:List Int) (k:Int)=>An5 (vs=[.ref a,.int k]) (SqL K H a (ns.map V.int)) (0<=k) (ns.length<=63) (Q (.int (ns.getD k.toNat 0)) H)
noncomputable def rK:Sp:=fun vs H Q _=>∃i:Int,vs=[.int i]/\Q (.bl true) H
variable{K:Fr}{a:Addr}{H:Hp}{Q:VK}{E:XK}
theorem dh{ns:List Int}{k:Int}(hS:SqL K H a (ns.map V.int))(hl:ns.length<=63)(hk:0<=k)(h:Q (.int (ns.getD k.toNat 0)) H):mG K ([.ref a,.int k]++[]) H Q E:=⟨a,ns,k,rfl,hS,hk,hl,h⟩
variable{i:Int}
theorem Yt(h:Q (.bl true) H):rK ([.int i]++[]) H Q E:=⟨i,rfl,h⟩
theorem vX{ns:List Int}{k:Int}(h0:0<=k)(h:k<(ns.length:Int)):atI (ns.map V.int) k=some (.int (ns.getD k.toNat 0)):=by
 have hk:k.toNat<ns.length:=by lia
 have ek:k=((k.toNat:Nat):Int):=by lia
 have q:atI (ns.map V.int) ((k.toNat:Nat):Int)=some (.int ns[k.toNat]):=Dm (by rw[xo,qm hk]<;>rfl);rw[<-ek] at q;rw[q];simp[List.getD,hk]
theorem p40:(10:Int)^(40:Int).toNat=10000000000000000000000000000000000000000:=by decide
theorem p39:(10:Int)^(39:Int).toNat=1000000000000000000000000000000000000000:=by decide
theorem bt_of{x:Int}(h1: -1000000000000000000000000000000000000000000000000000000000000<=x)(h2:x<=1000000000000000000000000000000000000000000000000000000000000):Bt 200 x:=by
 unfold Bt;have:(2:Nat)^200=1606938044258990275541962092341162602522202993782792835301376:=by decide
 lia
theorem HQ{a b:V}:([a,b]:List V).length<=sizeLine:=by show 2<=sizeLine;decide
variable{y:V}
theorem at0{x:V}:atI [x,y] 0=some x:=rfl
theorem at1{x:V}:atI [x,y] 1=some y:=rfl
local macro_rules | `(tactic| symm)=> `(tactic| (repeat (first | fail "r" | ((with_reducible refine' Fw.dh ?hc1 ?hc2 ?hc3 ?_);(case hc1=>assumption);(case hc2=>assumption);(case hc3=>decide)) | with_reducible refine Fw.Yt ?_)))
local macro_rules | `(tactic| exists $e)=> `(tactic| (refine $e;symm))
noncomputable def lU:Sp:=fun vs H Q _=>∃n:Int,An3 (vs=[.int n]) (1<=n) (Q .non H)
noncomputable def ADM:Sp:=fun vs H Q _=>Ex2 fun(a b:Int)=>An4 (vs=[.int a,.int b]) (Bt 500 a) (Bt 500 b) (∀(p:Addr) (u v g:Int) (H':Hp),Az H H'->H' p=some (.tup [.int u,.int v,.int g])->Eqn a b u v g->Q (.ref p) H')
noncomputable def gZ:Sp:=fun vs H Q _=>Ex2 fun(a b:Int)=>An4 (vs=[.int a,.int b]) (Bt 500 a) (Bt 500 b) (∀H',Az H H'->Q (.int (Int.gcd a b:Int)) H')
noncomputable def mD:Sp:=fun vs H Q _=>Ex2 fun(a b:Int)=>An6 (vs=[.int a,.int b]) (0<a) (0<b) (Bt 500 a) (Bt 500 b) (∀H',Az H H'->Q (.int (Bx a b)) H')
theorem AAl{x z:V}:atI [x,y,z] 0=some x:=rfl
theorem AAk{x z:V}:atI [x,y,z] 1=some y:=rfl
theorem Zw{x z:V}:atI [x,y,z] 2=some z:=rfl
theorem three{a b c:V}:([a,b,c]:List V).length<=sizeLine:=by show 3<=sizeLine;decide
theorem two{a b:V}:([a,b]:List V).length<=sizeLine:=by show 2<=sizeLine;decide
theorem fj{k m:Nat}{x y:Int}(h:Bt k y)(l:x.natAbs<=4*y.natAbs+4)(hk:k+4<=m):Bt m x:=by
 unfold Bt at*
 have p:2^(k+4)<=2^m:=va (by decide) hk;have e:2^(k+4)=2^k*16:=by rw[jo9]
 lia
variable{z:Int}
theorem AAf{k m:Nat}{x y:Int}(h:Bt k y)(h':Bt k z)(l:x.natAbs<=y.natAbs+z.natAbs+4)(hk:k+4<=m):Bt m x:=by
 unfold Bt at*
 have p:2^(k+4)<=2^m:=va (by decide) hk;have e:2^(k+4)=2^k*16:=by rw[jo9]
 lia
theorem CN{k:Nat}{x:Int}(h0:0<=x)(h1:x<18446744073709551616)(hk:64<=k):Bt k x:=Bt.mono (k:=64) (by unfold Bt;lia) hk
noncomputable def yU:Sp:=fun vs H Q _=>∃n:Int,An4 (vs=[.int n]) (0<=n) (n<=1000000) (Q (.int ((2^n.toNat-1:Nat):Int)) H)
noncomputable def ABX(K:Fr):Sp:=fun vs H Q _=>Ex4 fun(a:Addr) (n d:Int) (b:Nat)=>An4 (vs=[.ref a,.int d]) (SqT K H a [.int n,.int (b:Int)]) (0<n) (Q (.bl (On n b d)) H)
variable{b:Nat}
theorem JZ{n:Nat}(h:b<2^n):Bt n (b:Int):=by unfold Bt;rw[Int.natAbs_natCast];exact h
theorem zQ(b k:Nat):decide (V.int (((b:Nat):Int)/2^k%2)=V.int 1)=b.testBit k:=by
 rw[<-ACH,ku];simp
theorem bt1:Bt 1 1:=by unfold Bt;decide
variable{d:Int}
theorem qH{k:Nat}{n:Int}(h:Bt k d)(hn:0<n):Bt k (d/n):=by
 refine h.le ?_;rcases je8 d 0 with c | c
 ·have h1:d/n<0:=Int.ediv_neg_of_neg_of_pos c hn;have h2:d<=d/n:=(Int.le_ediv_iff_mul_le hn).mpr (by
   have:=Int.mul_le_mul_of_nonpos_left (show d<=0 by lia) (show 1<=n by lia);lia)
  lia
 ·have h1:0<=d/n:=jf9 c (by lia);have h2:d/n<=d:=je5 n c;lia
theorem IV{f:Int->Int->V}{j:Int}(h:Q (f i j) H)(a:0<=i:=by lia)(b:i<18446744073709551616:=by lia)(c:0<=j:=by lia)(d:j<18446744073709551616:=by lia):rI gJ f (.int i) (.int j) H Q:=Du ⟨64,64,CN a b (by decide),CN c d (by decide),by decide⟩ h
noncomputable def gQ:Sp:=fun vs H Q _=>∃n:Int,An3 (vs=[.int n]) (n<=150000) (Q .non H)
noncomputable def gb(K:Fr):Sp:=fun vs H Q _=>Ex4 fun(a:Addr) (n z:Int) (b:Nat)=>An8 (vs=[.ref a,.int z]) (SqT K H a [.int n,.int (b:Int)]) (0<n) (n<=300000) (b<2^n.toNat) (0<z) (z<=150000) (∀c:Nat,Gy n.toNat b z.toNat c->Q (.int (c:Int)) H)
theorem vd(b k:Nat):decide (V.int (Builtin.bitAnd ((b:Int)/2^k) 1)=V.int 1)=b.testBit k:=by
 rw[Hh,show(1:Int)=((1:Nat):Int) from rfl,Dl,Nat.and_one_is_mod,<-zQ]
 congr 1
 rw[Hh];have e:(((b >>> k:Nat):Int)%2)=((b >>> k%2:Nat):Int):=by lia
 rw[e];rfl
noncomputable def Rx(b k:Nat):List V:=(List.range k).map fun j=>V.int ((pc b j:Nat):Int)
theorem MP(b k:Nat):(Rx b k).length=k:=by unfold Rx;simp
theorem MT{k j:Nat}(h:j<k):(Rx b k)[j]?=some (V.int ((pc b j:Nat):Int)):=by
 unfold Rx;rw[xo,List.getElem?_range h];rfl
theorem iU(k:Nat):(List.replicate k [V.int 0]).flatten=Rx 0 k:=by
 unfold Rx;have:(fun j=>V.int ((pc 0 j:Nat):Int))=fun _=>V.int 0:=by
  funext j
  unfold pc;simp
 rw[this,List.map_const',Qb]
 induction k with
 | zero=>rfl
 | succ k ih=>rw[ja0,jd7,ih,ja0];rfl
theorem nJ{k p:Nat}(h:p/256<k):(Rx b k).set (p/256) (V.int ((pc b (p/256) ||| 2^(p%256):Nat):Int))=Rx (b ||| 2^p) k:=by
 refine List.ext_getElem? fun j=>?_;rw[List.getElem?_set];by_cases hj:j<k
 ·rw[MT hj];by_cases c:p/256=j
  ·rw[xh c,xh (by rw[MP];lia)];subst c;rw[MT hj,nO]
  ·rw[xk c,MT hj,nM (Ne.symm c)]
 ·have e:∀b,(Rx b k)[j]?=none:=fun b=>jn2 (by rw[MP];lia);rw[xk (by lia),e,e]
noncomputable def gR(K:Fr):Sp:=fun vs H Q _=>Ex3 fun(a:Addr) (ds:List Int) (n:Int)=>An5 (vs=[.int n,.ref a]) (SqL K H a (ds.map V.int)) (0<n) (n<=150000) (∀(p:Addr) (b:Nat) (H':Hp),Az H H'->H' p=some (.tup [.int n,.int (b:Int)])->RB n ds b->Q (.ref p) H')
theorem uA{n:Int}(hn:0<n)(hb:b<2^n.toNat):b%2^(256*((n/256+1).toNat))=b:=
 jh9 (xa hb (va (by decide) (by lia)))
structure Bo(f:Bool->Bool->Bool)(n1:Int)(b1:Nat)(n2:Int)(b2:Nat)(z:Int)(c:Nat):Prop where
 lt:c<2^z.toNat
 bit:∀i,i<z.toNat->c.testBit i=f (b1.testBit (i%n1.toNat)) (b2.testBit (i%n2.toNat))
noncomputable def rT(K:Fr):Sp:=fun vs H Q _=>Ex3 fun(a:Addr) (n:Int) (b:Nat)=>An6 (vs=[.ref a]) (SqT K H a [.int n,.int (b:Int)]) (0<n) (n<=150000) (b<2^n.toNat) (∀(p:Addr) (c:Nat),H p=none->c<2^n.toNat->(∀i,i<n.toNat->c.testBit i=!b.testBit i)->Q (.ref p) (upd H p (.tup [.int n,.int (c:Int)])))
noncomputable def dl(b m:Nat):List Nat:=(List.range m).filter fun i=>b.testBit i
noncomputable def dli(b m:Nat):List Int:=(dl b m).map fun(i:Nat)=>(i:Int)
theorem pL(b m k:Nat):dl b (m+k)=dl b m++((List.range k).filter fun i=>b.testBit (m+i)).map fun i=>m+i:=by
 unfold dl;rw[List.range_add,List.filter_append,List.filter_map];rfl
theorem vD{n:Nat}(hb:b<2^n)(k:Nat):dl b (n+k)=dl b n:=by
 rw[pL];have:((List.range k).filter fun i=>b.testBit (n+i))=[]:=by
  rw[List.filter_eq_nil_iff];intro i _;rw[high hb (by lia)];exact zi
 rw[this,jk6,xz]
theorem AAS(b m:Nat):(dl b m).length<=m:=by
 unfold dl;exact zv (jn3 _ _) (by simp)
theorem mem_dl{m i:Nat}:i∈dl b m<->i<m/\b.testBit i=true:=by
 unfold dl;rw[List.mem_filter,jc7]
theorem uZ{m:Nat}:d∈dli b m<->0<=d/\d<m/\b.testBit d.toNat=true:=by
 unfold dli;rw[ya];constructor
 ·rintro⟨i,hi,rfl⟩;obtain⟨h1,h2⟩:=mem_dl.mp hi;exact⟨by lia,by lia,by rw[xp];exact h2⟩
 ·rintro⟨h1,h2,h3⟩;exact⟨d.toNat,mem_dl.mpr ⟨by lia,h3⟩,by lia⟩
theorem vC(b m:Nat):(dl b m).Pairwise (· < ·):=List.Pairwise.filter _ List.pairwise_lt_range
theorem ZQ(b m:Nat):(dli b m).Pairwise (· < ·):=by
 unfold dli;rw[List.pairwise_map];exact(vC b m).imp fun h=>by lia
theorem Xk(b m:Nat):(dli b m).length<=m:=by
 unfold dli;rw[js];exact AAS b m
noncomputable def mC(K:Fr):Sp:=fun vs H Q _=>Ex3 fun(a:Addr) (n:Int) (b:Nat)=>An6 (vs=[.ref a]) (SqT K H a [.int n,.int (b:Int)]) (0<n) (n<=150000) (b<2^n.toNat) (∀(l:Addr) (H':Hp),H l=none->Az H H'->H' l=some (.lst ((dli b n.toNat).map V.int))->Q (.ref l) H')
theorem iT(b m i:Nat):(Builtin.bitAnd (((b/2^m%2^256:Nat):Int)/2^i) 1 != 0)=(decide (i<256)&&b.testBit (m+i)):=by
 have h:(b/2^m%2^256).testBit i=(decide (i<256)&&b.testBit (m+i)):=by
  rw[jb6,<-ub,jc4]
 rw[Hh,show(1:Int)=((1:Nat):Int) from rfl,Dl,Nat.and_one_is_mod,<-h,jf8,ub,ku];simp only[bne_iff_ne,decide_eq_true_eq];lia
theorem ZP(b m:Nat):((dli b m).map V.int)++(((((List.range 256).map fun i=>V.int (0+(i:Nat)))).filter fun v=>match v with | .int d=>b.testBit (m+d.toNat) | _=>false).map fun v=>match v with | .int d=>V.int ((m:Int)+d) | _=>.non)=(dli b (m+256)).map V.int:=by
 unfold dli;rw[pL,kx,kx]
 congr 1
 rw[List.filter_map,ua,ua,ua];have e:((fun v:V=>match v with | .int d=>b.testBit (m+d.toNat) | _=>false) ∘ fun i:Nat=>V.int (0+(i:Nat)))=fun i=>b.testBit (m+i):=by
  funext i
  show b.testBit (m+(0+(i:Int)).toNat)=_;rw[show (0+(i:Int)).toNat=i by lia]
 rw[e];refine jo6 fun i _=>?_;show V.int ((m:Int)+(0+(i:Int)))=V.int (((m+i:Nat):Int));rw[show (m:Int)+(0+(i:Int))=((m+i:Nat):Int) by lia]
theorem fP{n:Int}(n0:0<n)(d:Int):d∈dli b n.toNat<->0<=d/\d<n/\On n b d=true:=by
 rw[uZ];constructor
 ·rintro⟨h1,h2,h3⟩;refine⟨h1,by lia,?_⟩;unfold On
  rwa [jg0 h1 (by lia)]
 ·rintro⟨h1,h2,h3⟩;refine⟨h1,by lia,?_⟩;unfold On at h3
  rwa [jg0 h1 h2] at h3
theorem jW(xs:List Int):HW (xs.map V.int) (some 1) none=(xs.drop 1).map V.int:=jY xs 1
theorem jV(xs:List V):HW xs none (some 1)=xs.take 1:=pP xs 1
theorem pQ{b:Addr}{xs ys:List Int}{Z:L2.St}{te:TE}(ha:SqL K H a (xs.map V.int))(hb:SqL K H b (ys.map V.int))(hl:xs.length<sizeLine)(f:Int->Int->Int)
 (he:∀(x y:Int) (H':Hp) (Q':VK),Q' (.int (f x y)) H'->te (some (.int x)::some (.int y)::Z) H' Q')
 (h:∀(D:Addr) (H':Hp),H D=none->Az H H'->H' D=some (.lst ((List.zipWith f xs ys).map V.int))->Q (.ref D) H'):
 UT 2 (pA K 2 (Vl (Im 0) (Vl (Im 1) ux))) cg te Z Q (Itz K a b) H:=by
 intro D hD;have zl:(List.zipWith f xs ys).length=min xs.length ys.length:=List.length_zipWith;refine⟨fun i m zs H2=>i<=min xs.length ys.length/\m=min xs.length ys.length-i/\zs=((List.zipWith f xs ys).take i).map V.int/\H2 D=some (.lst zs)/\Az H H2,⟨_,ve _,rfl,rfl,Ai,Ar hD _⟩,?_⟩;rintro i m zs H2 ⟨hi,rfl,rfl,hz,s2⟩;refine⟨hz,?_⟩;by_cases c:i<min xs.length ys.length
 ·have c1:i<xs.length:=by lia
  have c2:i<ys.length:=by lia
  have ex:(xs.map V.int)[i]?=some (.int xs[i]):=by rw[xo,qm c1];rfl
  have ey:(ys.map V.int)[i]?=some (.int ys[i]):=by rw[xo,qm c2];rfl
  refine .inr ⟨⟨_,_,_,_,s2.seq ha,s2.seq hb,ex,ey⟩,?_,min xs.length ys.length-(i+1),by lia,?_⟩
  ·rw[js,jc0];lia
  rintro v H3 ⟨T,x,y,hT,rfl,rfl,hxy⟩ ρ hρ;obtain⟨gx,gy⟩:=hxy _ _ (s2.seq ha) (s2.seq hb);rw[ex] at gx;rw[ey] at gy;cases gx;cases gy;obtain⟨p,q,rfl⟩:∃p q,ρ=[p,q]:=by
   match ρ,hρ with
   | [p,q],_=>exact⟨p,q,rfl⟩
  refine⟨T,[.int xs[i],.int ys[i]],rfl,SqT.of Ai,rfl,.int xs[i],[.int ys[i]],rfl,.int ys[i],[],rfl,⟨rfl,[some (.int xs[i]),some (.int ys[i])],rfl,rfl,?_⟩⟩;refine Kc ?_;rw[xh rfl];have nT:D≠T:=Bm hz hT;refine he _ _ _ _ ⟨by rw[Ax nT];exact hz,by lia,rfl,?_,Ai,?_⟩
  ·rw[List.take_succ,kx]
   congr 1
   have:(List.zipWith f xs ys)[i]?=some (f xs[i] ys[i]):=by
    rw[jm0,qm c1,qm c2];rfl
   rw[this];rfl
  ·exact G6 hD (s2.trans (Ar hT _))
 ·have e:i=min xs.length ys.length:=by lia
  refine .inl ⟨⟨_,_,s2.seq ha,s2.seq hb,by rw[js,js];exact e⟩,h D H2 hD s2 ?_⟩;rw[hz,uk (by lia)]
noncomputable def yN(K:Fr):Sp:=fun vs H Q _=>Ex5 fun(a:Addr) (n f e:Int) (b:Nat)=>An8 (vs=[.ref a,.int f,.int e]) (SqT K H a [.int n,.int (b:Int)]) (0<n) (n<=150000) (b<2^n.toNat) (Bt 250 f) (Bt 250 e) (∀H',Az H H'->Q (.int (CC n b e-CC n b f)) H')
noncomputable def yK:Sp:=fun vs H Q _=>Ex2 fun(b n:Nat)=>An4 (vs=[.int (b:Int)]) (b<2^n) (n<=150000) (∀H',Az H H'->Q (.int ((cnt b n:Nat):Int)) H')
noncomputable def sZ(K:Fr):Sp:=fun vs H Q _=>Ex4 fun(a:Addr) (n d:Int) (b:Nat)=>An7 (vs=[.ref a,.int d]) (SqT K H a [.int n,.int (b:Int)]) (0<n) (n<=150000) (b<2^n.toNat) (Bt 260 d) (∀H',Az H H'->Q (.int (CC n b d)) H')
variable{c:Nat}
theorem fK{w z f:Nat}(w0:0<w)(hf:f<2^z)(S:Gy (2*w) (2^w-1) z c)(k:Nat):Ev w (f/2^k) ((f/2^k) &&& c):=fun i=>by
 rw[ja7];have fl:f/2^k<2^z:=yv (Nat.div_le_self _ _) hf;by_cases h:i<z
 ·rw[S.bit i h,ji7]
 ·rw[high fl (by lia)];rfl
structure RC(K:Fr)(CR C:Addr):Prop where
 cl:Cls K C
 k:DG K C "kept"
 m:DG K C "made_of"
 w:DG K C "words"
 ca:PySem.W.findIn K (.ref C) "__class__"=some (some (.builtin "object.__class__"))
 ob:PySem.W.mroIn K C (.type "object")=some true
 isr:PySem.W.kitOne K (.ref C) (.ref CR)=some true
noncomputable def rF(p pm pw:Addr):List (Str×V):=[("kept",.ref p),("made_of",.ref pm),("words",.ref pw)]
structure De(K:Fr)(CR:Addr)(CL:List Addr)(H:Hp)(x:Addr)(n:Int)(b:Nat):Prop where
 ex:∃C dx p pm pw,C∈CL/\RC K CR C/\H x=some (.ins C dx (rF p pm pw))/\H p=some (.tup [.int n,.int (b:Int)])
 n0:0<n
 n1:n<=150000
 lt:b<2^n.toNat
variable{x:Addr}{H':Hp}
theorem De.same{CR:Addr}{CL:List Addr}{n:Int}(R:De K CR CL H x n b)(s:Az H H'):De K CR CL H' x n b:=by
 obtain⟨C,dx,p,pm,pw,h1,h2,h3,h4⟩:=R.ex;exact⟨⟨C,dx,p,pm,pw,h1,h2,s _ _ h3,s _ _ h4⟩,R.n0,R.n1,R.lt⟩
noncomputable def KB(x:Addr)(H H':Hp):Prop:=∀y o,y≠x->H y=some o->H' y=some o
variable{H1:Hp}
theorem KB.pre(s:Az H H1)(k:KB x H1 H'):KB x H H':=fun y o h e=>k y o h (s _ _ e)
variable{o:HO}
theorem Ve{dx:Addr}{o':HO}(hx:H1 x=none)(hd:H1 dx=none)(ne:dx≠x)(k:KB x (upd (upd H1 dx o) x o') H'):Az H1 H':=fun y u e=>by
 have y1:y≠x:=Bm e hx;have y2:y≠dx:=Bm e hd;exact k y u y1 (by rw[Ax y1,Ax y2];exact e)
noncomputable def dJ(K:Fr)(CR:Addr):Sp:=fun vs H Q _=>Ex6 fun(x p pm pw C dx:Addr)=>An4 (vs=[.ref x,.ref p,.ref pm,.ref pw]) (H x=some (.ins C dx [])) (RC K CR C) (∀H',KB x H H'->H' x=some (.ins C dx (rF p pm pw))->Q .non H')
noncomputable def K3(K:Fr)(CR:Addr)(CL:List Addr)(C:Addr)(H:Hp)(x:Addr)(Q:VK)(n:Int)(G:Nat->Prop):Prop:=(∃dx,H x=some (.ins C dx []))/\∀(b:Nat) H',KB x H H'->De K CR CL H' x n b->G b->Q .non H'
noncomputable def ABf(K:Fr)(CR:Addr)(CL:List Addr)(C:Addr)(b0:Nat):Sp:=fun vs H Q _=>∃x,vs=[.ref x]/\K3 K CR CL C H x Q 1 (fun b=>b=b0)
noncomputable def Qu(K:Fr)(CR:Addr)(CL:List Addr):Sp:=fun vs H Q _=>Ex3 fun(x:Addr) (n:Int) (b:Nat)=>An3 (vs=[.ref x]) (De K CR CL H x n b) (∀p,H p=some (.tup [.int n,.int (b:Int)])->Q (.ref p) H)
noncomputable def dM(K:Fr)(CR:Addr)(CL:List Addr):Sp:=fun vs H Q _=>Ex4 fun(x:Addr) (n d:Int) (b:Nat)=>An3 (vs=[.ref x,.int d]) (De K CR CL H x n b) (Q (.bl (On n b d)) H)
theorem Fo{CR:Addr}{CL:List Addr}{C dx p pm pw:Addr}{H2:Hp}{n:Int}(hC:C∈CL)(R:RC K CR C)(hx:H2 x=some (.ins C dx []))(hp:H2 p=some (.tup [.int n,.int (b:Int)]))(k:KB x H2 H')(e:H' x=some (.ins C dx (rF p pm pw)))(n0:0<n)(n1:n<=150000)(lt:b<2^n.toNat):De K CR CL H' x n b:=
 ⟨⟨C,dx,p,pm,pw,hC,R,e,k _ _ (HJ hp hx (fun z=>nomatch z)) hp⟩,n0,n1,lt⟩
structure xR(K:Fr)(H:Hp)(a1 a2:Addr)(n1 n2:Int)(b1 b2:Nat):Prop where
 s1:SqT K H a1 [.int n1,.int (b1:Int)]
 s2:SqT K H a2 [.int n2,.int (b2:Int)]
 p1:0<n1
 p2:0<n2
 l1:n1<=150000
 l2:n2<=150000
 k1:b1<2^n1.toNat
 k2:b2<2^n2.toNat
noncomputable def ADN(K:Fr):Sp:=fun vs H Q _=>Ex6 fun(a1 a2:Addr) (n1 n2:Int) (b1 b2:Nat)=>An9 (vs=[.ref a1,.ref a2]) (SqT K H a1 [.int n1,.int (b1:Int)]) (SqT K H a2 [.int n2,.int (b2:Int)]) (0<n1) (0<n2) (n1<=150000) (n2<=150000) (Bx n1 n2<=150000) (∀H',Az H H'->Q (.int (Bx n1 n2)) H')
noncomputable def O5(K:Fr):Sp:=fun vs H Q _=>Ex4 fun(a:Addr) (n z:Int) (b:Nat)=>An9 (vs=[.ref a,.int z]) (SqT K H a [.int n,.int (b:Int)]) (0<n) (n<=150000) (b<2^n.toNat) (0<z) (z<=150000) (n∣z) (∀(p:Addr) (c:Nat),H p=none->Gy n.toNat b z.toNat c->Q (.ref p) (upd H p (.tup [.int z,.int (c:Int)])))
noncomputable def sJ(K:Fr):Sp:=fun vs H Q _=>Ex4 fun(a:Addr) (n num:Int) (b:Nat)=>An6 (vs=[.ref a,.int num]) (SqT K H a [.int n,.int (b:Int)]) (0<n) (n<=150000) (b<2^n.toNat) (∀p,H p=none->Q (.ref p) (upd H p (.tup [.int n,.int ((lat n.toNat b (num%n).toNat:Nat):Int)])))
theorem Xa{n:Int}(n0:0<n)(z0:0<z)(h:n∣z):Bx n z=z:=by
 have f:=Bp n0 z0;have h1:Bx n z∣z:=f.2.2.2.2.1 _ h (kq _);exact Int.dvd_antisymm (by lia) (by lia) h1 f.2.2.1
noncomputable abbrev Rel:=Int->Nat->Int->Nat->Int->Nat->Prop
noncomputable abbrev qP:=Int->Nat->Int->Nat->Int->Prop
noncomputable def WR(U:qP):Rel:=fun n1 b1 n2 b2 z c=>∀d,On z c d=true<->U n1 b1 n2 b2 d
variable{n1 n2:Int}{b1 b2:Nat}
theorem Bo.on{f:Bool->Bool->Bool}(B:Bo f n1 b1 n2 b2 z c)(h1:0<n1)(h2:0<n2)(hz:0<z)(d1:n1∣z)(d2:n2∣z)(d:Int):On z c d=f (On n1 b1 d) (On n2 b2 d):=by
 have k1:=qk d (show z≠0 by lia);have k2:=qg d hz;have m:∀n:Int,0<n->n∣z->(d%z).toNat%n.toNat=(d%n).toNat:=fun n hn hd=>by
  have e:(d%z)%n=d%n:=Int.emod_emod_of_dvd d hd;have h3:=qk d (show n≠0 by lia);have k:(((d%z).toNat%n.toNat:Nat):Int)=d%z%n:=by
   rw[jn9];have a1:((d%z).toNat:Int)=d%z:=by lia
   have a2:(n.toNat:Int)=n:=by lia
   rw[a1,a2]
  rw[e] at k;lia
 unfold On;rw[B.bit _ (by lia),m n1 h1 d1,m n2 h2 d2]
theorem Bo.self{f:Bool->Bool->Bool}(B:Bo f z b1 z b2 z c)(h:0<z)(d:Int):On z c d=f (On z b1 d) (On z b2 d):=B.on h h h (kq z) (kq z) d
theorem XD{c':Nat}(h:c<2^z.toNat)(h':c'<2^z.toNat)(e:∀d,On z c d=true<->On z c' d=true):c=c':=Tz h h' fun i hi=>by
 have:=e (i:Int);unfold On at this;rw[jg0 (by lia) (by lia),xp] at this;exact ku.mpr this
theorem Bo.uniq{f:Bool->Bool->Bool}{c':Nat}(B:Bo f n1 b1 n2 b2 z c)(B':Bo f n1 b1 n2 b2 z c'):c=c':=Tz B.lt B'.lt fun i hi=>by rw[B.bit i hi,B'.bit i hi]
theorem RB.uniq{n:Int}{ds:List Int}{b':Nat}(B:RB n ds b)(B':RB n ds b'):b=b':=XD B.lt B'.lt fun d=>by rw[B.bit,B'.bit]
noncomputable def OtR(n:Int)(b c:Nat):Prop:=c<2^n.toNat/\∀i,i<n.toNat->c.testBit i=!b.testBit i
theorem OtR.uniq{n:Int}{c':Nat}(h:OtR n b c)(g:OtR n b c'):c=c':=Tz h.1 g.1 fun i hi=>by rw[h.2 i hi,g.2 i hi]
noncomputable def ltr(n:Int)(b:Nat)(s:Int):Nat:=lat n.toNat b (s%n).toNat
theorem Y4{n:Int}(n0:0<n)(h:∀i,i<n.toNat->c.testBit i=!b.testBit i)(d:Int):On n c d=!On n b d:=by
 have h1:=qk d (show n≠0 by lia);have h2:=qg d n0;unfold On;exact h _ (by lia)
noncomputable def UpJ(e:Int):qP:=fun n1 b1 n2 b2 d=>On n1 b1 d=true/\∃j:Nat,On n2 b2 (d-e*(j:Int))=true/\∀i:Nat,0<i->i<=j->On n1 b1 (d-e*(i:Int))=false
variable{e:Int}
theorem kI{cr cs l g:Nat}(oR:∀d,On z cr d=On n1 b1 d)(oS:∀d,On z cs d=On n2 b2 d)(oL:∀d,On z l d=On z cr (d-e))(og:∀d,On z g d=true<->Gat (On z cs) (On z l) e d)(d:Int):(On z cr d=true/\On z g d=true)<->UpJ e n1 b1 n2 b2 d:=by
 have sh:∀i:Nat,d-e*(i:Int)-e=d-e*((i+1:Nat):Int):=fun i=>by rw[ke,Zp];simp;lia
 rw[oR,og];refine and_congr_right fun _=>⟨fun ⟨j,ht,hb⟩=>⟨j,by rw[<-oS];exact ht,fun i i0 hi=>?_⟩,fun⟨j,ht,hb⟩=>⟨j,by rw[oS];exact ht,fun i hi=>by rw[oL,oR,sh];exact hb _ (by lia) (by lia)⟩⟩;obtain⟨k,rfl⟩:∃k,i=k+1:=⟨i-1,by lia⟩;have:=hb k (by lia)
 rwa [oL,oR,sh] at this
theorem kE{t ce:Nat}:UpJ 1 n1 t n2 ce d<->GUp (On n1 t) (On n2 ce) d:=by
 refine and_congr_right fun _=>?_;constructor
 ·rintro⟨j,h1,h2⟩;refine⟨_,h1,by lia,fun r r1 r2=>?_⟩;have:=h2 (d-r).toNat (by lia) (by lia);rw[show d-1*(((d-r).toNat:Nat):Int)=r by lia] at this;exact this
 ·rintro⟨s,h1,h2,h3⟩;exact⟨(d-s).toNat,by rw[show d-1*(((d-s).toNat:Nat):Int)=s by lia];exact h1,fun i i0 hi=>h3 _ (by lia) (by lia)⟩
theorem cV{t ce:Nat}:UpJ (-1) n1 t n2 ce d<->GUn (On n1 t) (On n2 ce) d:=by
 refine and_congr_right fun _=>?_;constructor
 ·rintro⟨j,h1,h2⟩;refine⟨_,h1,by lia,fun r r1 r2=>?_⟩;have:=h2 (r-d).toNat (by lia) (by lia);rw[show d- -1*(((r-d).toNat:Nat):Int)=r by lia] at this;exact this
 ·rintro⟨s,h1,h2,h3⟩;exact⟨(s-d).toNat,by rw[show d- -1*(((s-d).toNat:Nat):Int)=s by lia];exact h1,fun i i0 hi=>h3 _ (by lia) (by lia)⟩
noncomputable def TiU:qP:=fun n1 b1 n2 b2 d=>GTi (On n1 b1) (On n2 b2) d
noncomputable def NrU:qP:=fun n1 b1 n2 b2 d=>GNr (On n1 b1) (On n2 b2) d
noncomputable def KtU(k:Int):qP:=fun n1 b1 n2 b2 d=>Kth n1 b1 n2 b2 k d
noncomputable def bn(a b:Bool):Bool:=a&&!b
theorem J1{T B:Int->Bool}(k:Nat)(d:Int)(u v:Bool)(hu:u=true<->Gt T B e k d)(hv:v=true<->Gt T B e k (d-e*(k:Int))/\Fre B e k d):(or u v=true<->Gt T B e (2*k) d):=by
 rw[Gt.step,ji3,hu,hv]
theorem ZF{T B:Int->Bool}(k:Nat)(d:Int)(u v:Bool)(hu:u=true<->cG T B e k d%2=1)(hv:v=true<->cG T B e k (d-e*(k:Int))%2=1/\Fre B e k d):((xor u v)=true<->cG T B e (2*k) d%2=1):=by
 rw[AAd,<-hu,<-hv];cases u<;>cases v<;>simp
theorem qC{T B:Int->Bool}:T d=true<->cG T B e 1 d%2=1:=by
 unfold cG;cases T d<;>simp[cG]
theorem oK{p:Int}{t g t' ce kk:Nat}(hB:∀d,Bar (On z ce) e z.toNat d)(kn:z.toNat<=kk)(og:∀d,On z g d=true<->cG (On z t) (On z ce) e kk d%2=1)(oB:∀d,On z c d=(On z t d&&On z g d))(p1:1<p)(h1:p%2=1->∀d,On z t' d=On z c d)(h2:¬p%2=1->∀d,On z t' d=(On z t d&&!On z c d))(d:Int):
 (On z t' d=true/\(cG (On z t') (On z ce) e z.toNat d:Int)=(p+1)/2)<->(On z t d=true/\(cG (On z t) (On z ce) e z.toNat d:Int)=p):=by
 have oc:∀d,On z c d=true<->On z t d=true/\cG (On z t) (On z ce) e z.toNat d%2=1:=fun d=>by
  rw[oB,yb,og,Xr (hB d) kn]
 by_cases h:p%2=1
 ·have hT:∀d,On z t' d=true<->On z t d=true/\cG (On z t) (On z ce) e z.toNat d%2=1:=fun d=>by rw[h1 h,oc]
  rw[qD hB hT z.toNat d (hB d),hT];generalize cG (On z t) (On z ce) e z.toNat d=m;constructor
  ·rintro⟨⟨g1,g2⟩,g3⟩;exact⟨g1,by lia⟩
  ·rintro⟨g1,g2⟩;exact⟨⟨g1,by lia⟩,by lia⟩
 ·have hT:∀d,On z t' d=true<->On z t d=true/\cG (On z t) (On z ce) e z.toNat d%2=0:=fun d=>by
   rw[h2 h,yb,jm2,<-jj7,oc];generalize cG (On z t) (On z ce) e z.toNat d=m;constructor
   ·rintro⟨g1,g2⟩;refine⟨g1,?_⟩;by_cases o:m%2=1
    ·exact absurd ⟨g1,o⟩ g2
    ·lia
   ·rintro⟨g1,g2⟩;exact⟨g1,fun⟨_,o⟩=>by lia⟩
  rw[fZ hB hT z.toNat d (hB d),hT];generalize cG (On z t) (On z ce) e z.toNat d=m;constructor
  ·rintro⟨⟨g1,g2⟩,g3⟩;exact⟨g1,by lia⟩
  ·rintro⟨g1,g2⟩;exact⟨⟨g1,by lia⟩,by lia⟩
theorem qu(z d:Int):On z 0 d=false:=by
 unfold On;exact jd4 _
theorem uo{k p p0:Int}{t ce:Nat}(z0:0<z)(d2:n2∣z)(h1:0<n1)(k0:k≠0)(hek:e=if 0<k then 1 else -1)(ap:p0=(k.natAbs:Int))(oe:∀d,On z ce d=On n2 b2 (if 0<k then d else d+1))
 (hT:(∀d,Bar (On z ce) e z.toNat d)->∀d,(On z t d=true/\(cG (On z t) (On z ce) e z.toNat d:Int)=p)<->(On n1 b1 d=true/\(cG (On n1 b1) (On z ce) e z.toNat d:Int)=p0))(hp:p=1\/t=0)(d:Int):
 Kth n1 b1 n2 b2 k d<->UpJ e z t z ce d:=by
 unfold UpJ;have he:e=1\/e= -1:=by split at hek<;>lia
 by_cases hx:∃x,On n2 b2 x=true
 ·obtain⟨x,hx⟩:=hx;have pe:∀u v:Int,z∣u-v->On n2 b2 u=On n2 b2 v:=fun u v h=>K9 (jj2 d2 h);have hU:∀d,Bar (On n2 b2) 1 z.toNat d:=fun d=>qI z0 pe hx (.inl rfl) d;have hD:∀d,Bar (fun d=>On n2 b2 (d+1)) (-1) z.toNat d:=fun d=>qI (B:=fun d=>On n2 b2 (d+1)) z0 (fun u v h=>pe _ _ (by rw[show u+1-(v+1)=u-v by lia];exact h)) (x:=x-1) (by show On n2 b2 (x-1+1)=true;rw[show x-1+1=x by lia];exact hx) (.inr rfl) d;have key:(∀d,Bar (On z ce) e z.toNat d)/\(Kth n1 b1 n2 b2 k d<->On n1 b1 d=true/\cG (On n1 b1) (On z ce) e z.toNat d=k.natAbs):=by
   have kk:=zf (n1:=n1) (b1:=b1) (d:=d) (k:=k) (B:=fun d=>On n2 b2 (d+1)) (fun _=>rfl) h1 hU hD k0;by_cases c:0<k
   ·have fe:On z ce=On n2 b2:=funext fun d=>by rw[oe,xh c]
    rw[xh c] at hek kk;rw[fe,hek];exact⟨hU,kk⟩
   ·have fe:On z ce=fun d=>On n2 b2 (d+1):=funext fun d=>by rw[oe,xk c]
    rw[xk c] at hek kk;rw[fe,hek];exact⟨hD,kk⟩
  obtain⟨hB,kk⟩:=key;have hTd:=hT hB d;rw[kk];have e1:(On n1 b1 d=true/\cG (On n1 b1) (On z ce) e z.toNat d=k.natAbs)<->(On n1 b1 d=true/\(cG (On n1 b1) (On z ce) e z.toNat d:Int)=p0):=by
   refine and_congr_right fun _=>?_;lia
  rw[e1,<-hTd];rcases hp with rfl | rfl
  ·refine and_congr_right fun td=>?_;rw[<-AAe hB td];lia
  ·rw[qu];simp
 ·constructor
  ·rintro⟨_,b,_,hb,_⟩;exact absurd ⟨b,hb⟩ hx
  ·rintro⟨_,j,hj,_⟩;rw[oe] at hj;exact absurd ⟨_,hj⟩ hx
section
variable(K:Fr)
noncomputable def spJ(R:Rel):Sp:=fun vs H Q _=>Ex6 fun(a1 a2:Addr) (n1 n2:Int) (b1 b2:Nat)=>An4 (vs=[.ref a1,.ref a2]) (xR K H a1 a2 n1 n2 b1 b2) (Bx n1 n2<=150000) (∀(p:Addr) (c:Nat) (H':Hp),Az H H'->H' p=some (.tup [.int (Bx n1 n2),.int (c:Int)])->c<2^(Bx n1 n2).toNat->R n1 b1 n2 b2 (Bx n1 n2) c->Q (.ref p) H')
noncomputable def ADK(mg:Str->Option Value)(L:List (Str×Sp)):Sp:=fun vs H Q _=>ACt fun(a1 a2 f:Addr) (n e:Int) (b c:Nat) (x:Str) (J:Bool->Bool->Bool) (G:Nat->Int->Prop)=>ACz (vs=[.ref a1,.ref a2,.int e,.ref f]) ((x,spJ K (Bo J))∈L) (mg x=some (.ref f)) (H a1=some (.tup [.int n,.int (b:Int)])) (SqT K H a2 [.int n,.int (c:Int)]) (0<n) (n<=150000) (b<2^n.toNat) (c<2^n.toNat) (e=1\/e= -1) (∀d,On n b d=true<->G 1 d) (∀k d u v,(u=true<->G k d)->(v=true<->G k (d-e*(k:Int))/\Fre (On n c) e k d)->(J u v=true<->G (2*k) d)) (∀(p:Addr) (g:Nat) (H':Hp) (k:Nat),n.toNat<=k->Az H H'->H' p=some (.tup [.int n,.int (g:Int)])->g<2^n.toNat->(∀d,On n g d=true<->G k d)->Q (.ref p) H')
noncomputable def ABZ:Sp:=fun vs H Q _=>Ex3 fun(a:Addr) (n:Int) (b:Nat)=>An6 (vs=[.ref a]) (SqT K H a [.int n,.int (b:Int)]) (0<n) (n<=150000) (b<2^n.toNat) (∀(p:Addr) (c:Nat) (H':Hp),Az H H'->H' p=some (.tup [.int n,.int (c:Int)])->c<2^n.toNat->(∀d,On n c d=true<->WL (On n b) d)->Q (.ref p) H')
noncomputable def ADJ:Sp:=fun vs H Q _=>Ex7 fun(k:Int) (a1 a2:Addr) (n1 n2:Int) (b1 b2:Nat)=>An5 (vs=[.int k,.ref a1,.ref a2]) (xR K H a1 a2 n1 n2 b1 b2) (k≠0) (Bx n1 n2<=150000) (∀(p:Addr) (c:Nat) (H':Hp),Az H H'->H' p=some (.tup [.int (Bx n1 n2),.int (c:Int)])->c<2^(Bx n1 n2).toNat->WR (KtU k) n1 b1 n2 b2 (Bx n1 n2) c->Q (.ref p) H')
noncomputable def ADL:Sp:=fun vs H Q _=>Ex5 fun(k d:Int) (a:Addr) (n:Int) (b:Nat)=>wB (vs=[.int k,.ref a,.int d]) (SqT K H a [.int n,.int (b:Int)]) (0<n) (n<=150000) (b<2^n.toNat) (Bt 250 d) (Bt 400 k) (1<=k) (n*k<=150000) (∀(p:Addr) (c:Nat) (H':Hp),Az H H'->H' p=some (.tup [.int (n*k),.int (c:Int)])->c<2^(n*k).toNat->(∀e,On (n*k) c e=true<->Evr n b k d e)->Q (.ref p) H')
end
theorem eY{n k:Int}(hn:0<n)(hk:0<k):k<=n*k:=by
 have:=vv (show 1<=n by lia) (Zl hk);lia
theorem ug{n k:Int}(hn:0<n)(hk:0<k):n<=n*k:=by
 have:=Jn (show 1<=k by lia) (Zl hn);lia
noncomputable def tmV(t:Tm):List V:=[.int t.1,.int t.2.1,.int t.2.2.1,.int t.2.2.2]
inductive Tms(H:Hp):List V->List Tm->Prop
 | nil:Tms H [] []
 | cons {p:Addr} {t:Tm} {vs:List V} {ts:List Tm}:H p=some (.tup (tmV t))->Tms H vs ts->Tms H (.ref p::vs) (t::ts)
theorem Tms.same(s:Az H H'):∀{vs:List V} {ts:List Tm},Tms H vs ts->Tms H' vs ts
 | _,_,.nil=>.nil
 | _,_,.cons h t=>.cons (s _ _ h) (Tms.same s t)
theorem Tms.len:∀{vs:List V} {ts:List Tm},Tms H vs ts->vs.length=ts.length
 | _,_,.nil=>rfl
 | _,_,.cons _ t=>by rw[qo,qo,Tms.len t]
theorem Tms.mem{x:V}:∀{vs:List V} {ts:List Tm},Tms H vs ts->x∈vs->∃p t,x=.ref p/\t∈ts/\H p=some (.tup (tmV t))
 | _,_,.nil,h=>nomatch h
 | _,_,.cons g r,h=>by
  rcases qq.mp h with e | e
  ·exact⟨_,_,e,qc,g⟩
  ·obtain⟨p,t,e1,e2,e3⟩:=Tms.mem r e;exact⟨p,t,e1,qh _ e2,e3⟩
theorem Tms.at:∀{vs:List V} {ts:List Tm},Tms H vs ts->∀{i:Nat} {x:V},vs[i]?=some x->∃p t,x=.ref p/\ts[i]?=some t/\H p=some (.tup (tmV t))
 | _,_,.nil,i,x,h=>by simp at h
 | _,_,.cons g r,0,x,h=>by
  injection h with h;exact⟨_,_,h.symm,rfl,g⟩
 | _,_,.cons g r,i+1,x,h=>Tms.at r (i:=i) h
noncomputable def UV(H:Hp)(v:V):Option Tm:=match v with
 | .ref p=>match H p with
  | some (.tup [.int s,.int a,.int b,.int n])=>some (s,a,b,n)
  | _=>none
 | _=>none
theorem JB{p:Addr}{t:Tm}(h:H p=some (.tup (tmV t))):UV H (.ref p)=some t:=by
 unfold UV tmV at*
 simp only[h]
theorem Tms.fm(g:Tm->Bool)(f:Tm->V):∀{vs:List V} {ts:List Tm},Tms H vs ts->(vs.filter fun v=>((UV H v).map g).getD false).map (fun v=>((UV H v).map f).getD .non)=(ts.filter g).map f
 | _,_,.nil=>rfl
 | _,_,.cons (p:=p) (t:=t) h r=>by
  rw[jh8,jh8,JB h];show(if g t=true then _ else _:List V).map _=_;by_cases c:g t=true
  ·rw[xh c,xh c,zn,zn,Tms.fm g f r,JB h];rfl
  ·rw[xk c,xk c,Tms.fm g f r]
theorem qO{t:Tm}:atI (tmV t) 0=some (V.int t.1):=rfl
theorem qM{t:Tm}:atI (tmV t) 1=some (V.int t.2.1):=rfl
theorem vZ{t:Tm}:atI (tmV t) 2=some (V.int t.2.2.1):=rfl
theorem U3{t:Tm}:atI (tmV t) 3=some (V.int t.2.2.2):=rfl
structure TmT(K:Fr)(H:Hp)(p:Addr)(ts:List Tm):Prop where
 ex:∃vs,SqT K H p vs/\Tms H vs ts
 ok:∀t∈ts,OkT t
 few:ts.length<=6
variable{ts:List Tm}
theorem TmT.same{p:Addr}(T:TmT K H p ts)(s:Az H H'):TmT K H' p ts:=by
 obtain⟨vs,h1,h2⟩:=T.ex;exact⟨⟨vs,s.tup h1,h2.same s⟩,T.ok,T.few⟩
noncomputable def lQ:Sp:=fun vs H Q _=>Ex3 fun(p:Addr) (k:Int) (t:Tm)=>An5 (vs=[.ref p,.int k]) (H p=some (.tup (tmV t))) (OkT t) (Bt 400 k) (Q (.bl (onT t k)) H)
noncomputable def rO(K:Fr):Sp:=fun vs H Q _=>Ex3 fun(p:Addr) (k:Int) (ts:List Tm)=>An4 (vs=[.ref p,.int k]) (TmT K H p ts) (Bt 400 k) (∀H',Az H H'->Q (.int (SU ts k)) H')
noncomputable def lr:Sp:=fun vs H Q _=>Ex2 fun(p:Addr) (t:Tm)=>An4 (vs=[.ref p]) (H p=some (.tup (tmV t))) (OkT t) (Q (.bl true) H)
noncomputable def sG(K:Fr):Sp:=fun vs H Q _=>Ex3 fun(p:Addr) (b:Int) (ts:List Tm)=>An3 (vs=[.int b,.ref p]) (TmT K H p ts) (∀H',Az H H'->Q (.int (b-falls ts)) H')
structure WK(b:Int)(ts:List Tm):Prop where
 b0:0<=b
 b1:b<=20000
 fl:falls ts<=b
noncomputable def gU(K:Fr):Sp:=fun vs H Q _=>Ex3 fun(p:Addr) (b:Int) (ts:List Tm)=>An4 (vs=[.int b,.ref p]) (TmT K H p ts) (WK b ts) (∀H',Az H H'->Q .non H')
noncomputable def lY(K:Fr):Sp:=fun vs H Q _=>Ex2 fun(p:Addr) (ts:List Tm)=>An3 (vs=[.ref p]) (TmT K H p ts) (∀H',Az H H'->Q (.int (PER ts)) H')
theorem MJ(h:∀t∈ts,OkT t):∀(i:Nat),i<=6->0<PER (ts.take i)/\PER (ts.take i)<=1000^i
 | 0,_=>⟨(show (0:Int)<1 by decide),(show (1:Int)<=1 by decide)⟩
 | i+1,hi=>by
  obtain⟨h1,h2⟩:=MJ h i (by lia);rw[Qr];cases e:ts[i]? with
  | none=>
   simp only[Option.toList_none,xz];refine⟨h1,jn0 h2 ?_⟩;rw[Int.pow_succ];have:(0:Int)<1000^i:=Int.pow_pos (by decide);lia
  | some t=>
   have ok:=h t (zh e);have e2:PER (ts.take i++(some t).toList)=Bx (PER (ts.take i)) t.2.2.2:=by
    unfold PER;rw[jb7,List.foldl_append];rfl
   rw[e2];have n0:=ok.n0;refine⟨(Bp h1 (by lia)).1,jn0 (uh h1 (by lia)) ?_⟩;rw[Int.pow_succ];exact vb h2 ok.n1 (by lia) (Zl (Int.pow_pos (by decide)))
theorem zL{i:Nat}(h:i<=6):(1000:Int)^i<=1000000000000000000:=by
 have:=va (n:=1000) (by decide) h;rw[show(1000:Int)^i=((1000^i:Nat):Int) from(jg2 1000 i).symm];lia
theorem du(h:∀t∈ts,OkT t):∀(i:Nat),i<=6->∀t∈ts.take i,t.2.2.2∣PER (ts.take i)
 | 0,_=>fun t ht=>by simp at ht
 | i+1,hi=>by
  obtain⟨h1,_⟩:=MJ h i (by lia);have ih:=du h i (by lia);rw[Qr];cases e:ts[i]? with
  | none=>
   simp only[Option.toList_none,xz];exact ih
  | some u=>
   have ok:=h u (zh e);have e2:PER (ts.take i++(some u).toList)=Bx (PER (ts.take i)) u.2.2.2:=by
    unfold PER;rw[jb7,List.foldl_append];rfl
   have n0:=ok.n0;have f:=Bp h1 (show 0<u.2.2.2 by lia);rw[e2];intro t ht;rcases ui.mp ht with z | z
   ·exact jj2 (ih t z) f.2.1
   ·rw[jb7,xc] at z;subst z;exact f.2.2.1
noncomputable def mF(b:Int)(p:Addr)(c s:Int):List (Str×V):=[("base",.int b),("terms",.ref p),("full_count",.int c),("full_sum",.int s)]
structure Me(K:Fr)(C:Addr)(H:Hp)(x:Addr)(b:Int)(ts:List Tm):Prop where
 ex:∃dx p,H x=some (.ins C dx (mF b p (PER ts) (UP b ts (PER ts))))/\TmT K H p ts
 gd:WK b ts
 po:0<UP b ts (PER ts)
noncomputable def yD(K:Fr)(C:Addr):Sp:=fun vs H Q _=>Ex7 fun(x p dx:Addr) (k b:Int) (ts:List Tm) (fs:List (Str×V))=>An9 (vs=[.ref x,.int k]) (H x=some (.ins C dx fs)) (fs.lookup (Str.ofString "base")=some (V.int b)) (fs.lookup (Str.ofString "terms")=some (V.ref p)) (TmT K H p ts) (0<=b) (b<=20000) (Bt 400 k) (∀H',Az H H'->Q (.int (UP b ts k)) H')
noncomputable def We(K:Fr)(C:Addr):Sp:=fun vs H Q _=>Ex6 fun(x dx:Addr) (b:Int) (v:V) (us:List V) (ts:List Tm)=>An9 (vs=[.ref x,.int b,v]) (H x=some (.ins C dx [])) (Tms H us ts) (( v=.non/\us=[])\/∃l,v=.ref l/\H l=some (.lst us)) (∀t∈ts,OkT t) (ts.length<=6) (WK b ts) (0<UP b ts (PER ts)) (∀H',(∀y o,y≠x->H y=some o->H' y=some o)->Me K C H' x b ts->Q .non H')
theorem Me.same{C:Addr}{b:Int}(M:Me K C H x b ts)(s:Az H H'):Me K C H' x b ts:=by
 obtain⟨dx,p,e,T⟩:=M.ex;exact⟨⟨dx,p,s _ _ e,T.same s⟩,M.gd,M.po⟩
theorem Me.meth{C:Addr}{b:Int}(M:Me K C H x b ts):∃dx fs,H x=some (.ins C dx fs)/\fs.lookup (Str.ofString "seek")=none/\fs.lookup (Str.ofString "at")=none/\fs.lookup (Str.ofString "upto")=none/\fs.lookup (Str.ofString "period")=none:=by
 obtain⟨dx,p,e,T⟩:=M.ex;exact⟨dx,_,e,rfl,rfl,rfl,rfl⟩
noncomputable def ADP(K:Fr)(C:Addr):Sp:=fun vs H Q _=>Ex4 fun(x:Addr) (k b:Int) (ts:List Tm)=>An4 (vs=[.ref x,.int k]) (Me K C H x b ts) (Bt 400 k) (∀H',Az H H'->Q (.int (AT b ts k)) H')
noncomputable def ABV(K:Fr)(C:Addr):Sp:=fun vs H Q _=>Ex3 fun(x:Addr) (b:Int) (ts:List Tm)=>An3 (vs=[.ref x]) (Me K C H x b ts) (Q (.int (PER ts)) H)
theorem Xd{C:Addr}{dx:Addr}{b:Int}{v:V}{us:List V}(hx:H1 x=none)(hdx:H1 dx=none)(ne:dx≠x)(hT:Tms H1 us ts)(hv:(v=.non/\us=[])\/∃l,v=.ref l/\H1 l=some (.lst us))(ok:∀t∈ts,OkT t)(few:ts.length<=6)(g:WK b ts)(po:0<UP b ts (PER ts))
 (q:∀H',Az H1 H'->Me K C H' x b ts->Q .non H'):We K C [.ref x,.int b,v] (upd (upd H1 dx (.own x)) x (.ins C dx [])) Q E:=by
 have k4:Az H1 (upd (upd H1 dx (.own x)) x (.ins C dx [])):=(Ar hdx _).trans (Ar (by rw[Ax (Ne.symm ne)];exact hx) _);have x4:upd (upd H1 dx (.own x)) x (.ins C dx []) x=some (.ins C dx []):=Ai;refine⟨x,dx,b,v,us,ts,rfl,x4,hT.same k4,?_,ok,few,g,po,fun H5 k5 M=>q _ (fun y o h=>k5 y o (fun e=>by subst e;rw[hx] at h;cases h) (k4 y o h)) M⟩;rcases hv with z | ⟨l,z,e⟩
 ·exact .inl z
 ·exact .inr ⟨l,z,k4 _ _ e⟩
noncomputable def But(l:Addr)(H H':Hp):Prop:=∀y o,y≠l->H y=some o->H' y=some o
variable{l:Addr}
theorem But.upd:But l H (L2.upd H l o):=fun y o hy h=>by rw[Ax hy];exact h
structure NoT(o:HO):Prop where
 t:∀vs,o≠.tup vs
 f:∀ob u,o≠.frz ob u
variable{xs:List V}
theorem NoT.lst:NoT (.lst xs):=⟨fun _ z=>(nomatch z),fun _ _ z=>(nomatch z)⟩
theorem NoT.ins{C d:Addr}{fs:List (Str×V)}:NoT (.ins C d fs):=⟨fun _ z=>(nomatch z),fun _ _ z=>(nomatch z)⟩
theorem Tms.but(hl:H l=some o)(no:NoT o)(k:But l H H'):∀{vs:List V} {ts:List Tm},Tms H vs ts->Tms H' vs ts
 | _,_,.nil=>.nil
 | _,_,.cons g r=>.cons (k _ _ (HJ g hl (Ne.symm (no.t _))) g) (Tms.but hl no k r)
theorem dI{p:Addr}{vs:List V}(hl:H l=some o)(no:NoT o)(k:But l H H')(h:SqT K H p vs):SqT K H' p vs:=by
 rcases h with (h | ⟨o,h⟩) | h
 ·exact .inl (.inl (k _ _ (HJ h hl (Ne.symm (no.t _))) h))
 ·exact .inl (.inr ⟨o,k _ _ (HJ h hl (Ne.symm (no.f _ _))) h⟩)
 ·exact .inr h
theorem TmT.but{p:Addr}(hl:H l=some o)(no:NoT o)(k:But l H H')(T:TmT K H p ts):TmT K H' p ts:=by
 obtain⟨vs,h1,h2⟩:=T.ex;exact⟨⟨vs,dI hl no k h1,h2.but hl no k⟩,T.ok,T.few⟩
theorem Me.butX{C:Addr}{b:Int}(M:Me K C H x b ts)(hl:H l=some o)(no:NoT o)(ne:x≠l)(k:But l H H'):Me K C H' x b ts:=by
 obtain⟨dx,p,e,T⟩:=M.ex;exact⟨⟨dx,p,k _ _ ne e,T.but hl no k⟩,M.gd,M.po⟩
theorem Me.but{C:Addr}{b:Int}(M:Me K C H x b ts)(hl:H l=some (.lst xs))(k:But l H H'):Me K C H' x b ts:=by
 obtain⟨dx,p,e,T⟩:=M.ex;exact M.butX hl .lst (HJ e hl (by intro z;cases z)) k
theorem HN.gm{ls:List Int}{lp:Int}(g:HN ls lp ts):WK ls.sum ts:=⟨g.sum.1,g.sum.2,Zl g.f1⟩
theorem Qy(ok:∀t∈ts,OkT t)(few:ts.length<=6):0<PER ts/\PER ts<=1000000000000000000/\∀t∈ts,t.2.2.2∣PER ts:=by
 obtain⟨h1,h2⟩:=MJ ok 6 (by decide);have hd:=du ok 6 (by decide);rw[uk few] at h1 h2 hd;exact⟨h1,jn0 h2 (zL (by decide)),hd⟩
theorem HN.po{ls:List Int}{lp:Int}(g:HN ls lp ts):0<UP ls.sum ts (PER ts):=Xw g.ok g.f1 (Qy g.ok g.few).1
noncomputable def sF(s lp:Int)(p y:Addr):List (Str×V):=[("start",.int s),("months",.ref p),("leap",.int lp),("years",.ref y)]
structure Iv(K:Fr)(CS CM:Addr)(H:Hp)(x:Addr)(s:Int)(ls:List Int)(lp:Int)(ts:List Tm):Prop where
 ex:∃dx p y,H x=some (.ins CS dx (sF s lp p y))/\SqT K H p (ls.map V.int)/\Me K CM H y ls.sum ts
 gd:HN ls lp ts
 bs:Bt 290 s
section
variable{K:Fr}{CS CM:Addr}{H H':Hp}{x:Addr}{s:Int}{ls:List Int}{lp:Int}{ts:List Tm}
theorem Iv.same(S:Iv K CS CM H x s ls lp ts)(e:Az H H'):Iv K CS CM H' x s ls lp ts:=by
 obtain⟨dx,p,y,h1,h2,h3⟩:=S.ex;exact⟨⟨dx,p,y,e _ _ h1,e.tup h2,h3.same e⟩,S.gd,S.bs⟩
theorem Iv.but(S:Iv K CS CM H x s ls lp ts)(hl:H l=some (.lst xs))(k:But l H H'):Iv K CS CM H' x s ls lp ts:=by
 obtain⟨dx,p,y,h1,h2,h3⟩:=S.ex;exact⟨⟨dx,p,y,k _ _ (HJ h1 hl (by intro z;cases z)) h1,dI hl .lst k h2,h3.but hl k⟩,S.gd,S.bs⟩
theorem Iv.meth(S:Iv K CS CM H x s ls lp ts):∃dx fs,H x=some (.ins CS dx fs)/\fs.lookup (Str.ofString "year_start")=none/\fs.lookup (Str.ofString "year_at")=none/\fs.lookup (Str.ofString "lengths")=none/\fs.lookup (Str.ofString "cycle")=none/\fs.lookup (Str.ofString "date_of")=none/\fs.lookup (Str.ofString "day_of")=none:=by
 obtain⟨dx,p,y,e,_⟩:=S.ex;exact⟨dx,_,e,rfl,rfl,rfl,rfl,rfl,rfl⟩
end
noncomputable def rR(K:Fr):Sp:=fun vs H Q _=>Ex4 fun(l:Addr) (lp:Int) (ls:List Int) (ts:List Tm)=>An4 (vs=[.ref l,.int lp]) (SqL K H l (ls.map V.int)) (HN ls lp ts) (Q .non H)
noncomputable def Qv(K:Fr)(CS CM:Addr):Sp:=fun vs H Q _=>Ex9 fun(x dx ll:Addr) (s lp:Int) (v:V) (us:List V) (ls:List Int) (ts:List Tm)=>An8 (vs=[.ref x,.int s,.ref ll,.int lp,v]) (H x=some (.ins CS dx [])) (H ll=some (.lst (ls.map V.int))) (Tms H us ts) (( v=.non/\us=[])\/∃l,v=.ref l/\H l=some (.lst us)) (HN ls lp ts) (Bt 290 s) (∀H',(∀y o,y≠x->H y=some o->H' y=some o)->Iv K CS CM H' x s ls lp ts->Q .non H')
theorem oY{CS CM:Addr}{dx ll:Addr}{s lp:Int}{v:V}{us:List V}{ls:List Int}(hx:H1 x=none)(hdx:H1 dx=none)(ne:dx≠x)(hl:H1 ll=some (.lst (ls.map V.int)))(hT:Tms H1 us ts)(hv:(v=.non/\us=[])\/∃l,v=.ref l/\H1 l=some (.lst us))(g:HN ls lp ts)(bs:Bt 290 s)
 (q:∀H',Az H1 H'->Iv K CS CM H' x s ls lp ts->Q .non H'):Qv K CS CM [.ref x,.int s,.ref ll,.int lp,v] (upd (upd H1 dx (.own x)) x (.ins CS dx [])) Q E:=by
 have k4:Az H1 (upd (upd H1 dx (.own x)) x (.ins CS dx [])):=(Ar hdx _).trans (Ar (by rw[Ax (Ne.symm ne)];exact hx) _);have x4:upd (upd H1 dx (.own x)) x (.ins CS dx []) x=some (.ins CS dx []):=Ai;refine⟨x,dx,ll,s,lp,v,us,ls,ts,rfl,x4,k4 _ _ hl,hT.same k4,?_,g,bs,fun H5 k5 M=>q _ (fun y o h=>k5 y o (fun e=>by subst e;rw[hx] at h;cases h) (k4 y o h)) M⟩;rcases hv with z | ⟨l,z,e⟩
 ·exact .inl z
 ·exact .inr ⟨l,z,k4 _ _ e⟩
noncomputable def ABS(K:Fr)(CS CM:Addr):Sp:=fun vs H Q _=>Ex6 fun(x:Addr) (n s:Int) (ls:List Int) (lp:Int) (ts:List Tm)=>An4 (vs=[.ref x,.int n]) (Iv K CS CM H x s ls lp ts) (Bt 390 n) (∀H',Az H H'->Q (.int (s+UP ls.sum ts n)) H')
noncomputable def lq(K:Fr)(CS CM:Addr):Sp:=fun vs H Q _=>Ex6 fun(x:Addr) (n s:Int) (ls:List Int) (lp:Int) (ts:List Tm)=>An4 (vs=[.ref x,.int n]) (Iv K CS CM H x s ls lp ts) (Bt 390 n) (∀(p:Addr) H',H p=none->Az H H'->H' p=some (.lst ((U4 ls lp ts n).map V.int))->Q (.ref p) H')
noncomputable def wW(K:Fr)(CS CM:Addr):Sp:=fun vs H Q _=>Ex5 fun(x:Addr) (s:Int) (ls:List Int) (lp:Int) (ts:List Tm)=>An3 (vs=[.ref x]) (Iv K CS CM H x s ls lp ts) (∀(p:Addr) H',Az H H'->H' p=some (.tup [.int (PER ts),.int (UP ls.sum ts (PER ts))])->Q (.ref p) H')
theorem xQ{n:Nat}{b:Int}(h:∀t∈ts,OkT t)(b0:0<=b)(b1:b<=20000)(few:ts.length<=6){k:Int}(bk:Bt n k):Bt (n+16) (UP b ts k):=by
 have:=qR h b0 b1 few (k:=k) (K:=(k.natAbs:Int)) (by lia) (by lia);unfold Bt at*
 rw[jo9];lia
noncomputable def moF(s:Int)(d m:Addr):List (Str×V):=[("start",.int s),("days",.ref d),("many",.ref m)]
structure Gf(K:Fr)(CO CM:Addr)(H:Hp)(x:Addr)(s bd:Int)(td:List Tm)(bm:Int)(tm:List Tm):Prop where
 ex:∃dx d m,H x=some (.ins CO dx (moF s d m))/\Me K CM H d bd td/\Me K CM H m bm tm
 gd:Ih bd td bm tm
 bs:Bt 290 s
section
variable{K:Fr}{CO CM:Addr}{H H':Hp}{x:Addr}{s bd:Int}{td:List Tm}{bm:Int}{tm:List Tm}
theorem Gf.same(S:Gf K CO CM H x s bd td bm tm)(e:Az H H'):Gf K CO CM H' x s bd td bm tm:=by
 obtain⟨dx,d,m,h1,h2,h3⟩:=S.ex;exact⟨⟨dx,d,m,e _ _ h1,h2.same e,h3.same e⟩,S.gd,S.bs⟩
theorem Gf.but(S:Gf K CO CM H x s bd td bm tm)(hl:H l=some (.lst xs))(k:But l H H'):Gf K CO CM H' x s bd td bm tm:=by
 obtain⟨dx,d,m,h1,h2,h3⟩:=S.ex;exact⟨⟨dx,d,m,k _ _ (HJ h1 hl (by intro z;cases z)) h1,h2.but hl k,h3.but hl k⟩,S.gd,S.bs⟩
theorem Gf.meth(S:Gf K CO CM H x s bd td bm tm):∃dx fs,H x=some (.ins CO dx fs)/\fs.lookup (Str.ofString "year_start")=none/\fs.lookup (Str.ofString "year_at")=none/\fs.lookup (Str.ofString "lengths")=none/\fs.lookup (Str.ofString "cycle")=none/\fs.lookup (Str.ofString "date_of")=none/\fs.lookup (Str.ofString "day_of")=none:=by
 obtain⟨dx,d,m,e,_⟩:=S.ex;exact⟨dx,_,e,rfl,rfl,rfl,rfl,rfl,rfl⟩
end
noncomputable def rQ(K:Fr)(C:Addr):Sp:=fun vs H Q _=>Ex4 fun(y:Addr) (b g:Int) (ts:List Tm)=>An5 (vs=[.ref y,.int g]) (Me K C H y b ts) (falls ts<b) (b<=g) (∀H',Az H H'->Q .non H')
noncomputable def YS(K:Fr)(CO CM:Addr):Sp:=fun vs H Q _=>Ex9 fun(x dx d m:Addr) (s bd bm:Int) (td tm:List Tm)=>An7 (vs=[.ref x,.int s,.ref d,.ref m]) (H x=some (.ins CO dx [])) (Me K CM H d bd td) (Me K CM H m bm tm) (Ih bd td bm tm) (Bt 290 s) (∀H',(∀y o,y≠x->H y=some o->H' y=some o)->Gf K CO CM H' x s bd td bm tm->Q .non H')
theorem jJ{CO CM:Addr}{dx d m:Addr}{s bd bm:Int}{td tm:List Tm}(hx:H1 x=none)(hdx:H1 dx=none)(ne:dx≠x)(hd:Me K CM H1 d bd td)(hm:Me K CM H1 m bm tm)(g:Ih bd td bm tm)(bs:Bt 290 s)
 (q:∀H',Az H1 H'->Gf K CO CM H' x s bd td bm tm->Q .non H'):YS K CO CM [.ref x,.int s,.ref d,.ref m] (upd (upd H1 dx (.own x)) x (.ins CO dx [])) Q E:=by
 have k4:Az H1 (upd (upd H1 dx (.own x)) x (.ins CO dx [])):=(Ar hdx _).trans (Ar (by rw[Ax (Ne.symm ne)];exact hx) _);have x4:upd (upd H1 dx (.own x)) x (.ins CO dx []) x=some (.ins CO dx []):=Ai;exact⟨x,dx,d,m,s,bd,bm,td,tm,rfl,x4,hd.same k4,hm.same k4,g,bs,fun H5 k5 M=>q _ (fun y o h=>k5 y o (fun e=>by subst e;rw[hx] at h;cases h) (k4 y o h)) M⟩
noncomputable def wU(K:Fr)(CO CM:Addr):Sp:=fun vs H Q _=>Ex7 fun(x:Addr) (n s bd bm:Int) (td tm:List Tm)=>An4 (vs=[.ref x,.int n]) (Gf K CO CM H x s bd td bm tm) (Bt 370 n) (∀H',Az H H'->Q (.int (MYS s bd td bm tm n)) H')
noncomputable def dN(K:Fr)(CO CM:Addr):Sp:=fun vs H Q _=>Ex7 fun(x:Addr) (n s bd bm:Int) (td tm:List Tm)=>An4 (vs=[.ref x,.int n]) (Gf K CO CM H x s bd td bm tm) (Bt 370 n) (∀(p:Addr) H',H p=none->Az H H'->H' p=some (.lst ((cO bd td bm tm n).map V.int))->Q (.ref p) H')
theorem jX(xs:List Int){j:Nat}(hj:j<=xs.length):HW (xs.map V.int) none (some (j:Int))=(xs.take j).map V.int:=by
 unfold HW;rw[HT.sIx_none,HT.sIx_nat,js,jl6 hj,jj6,Nat.sub_zero,List.map_take]
noncomputable def Et(K:Fr)(CS CO CM:Addr)(H:Hp)(x:Addr):Bu->Prop
 | .sun s ls lp ts=>Iv K CS CM H x s ls lp ts
 | .moon s bd td bm tm=>Gf K CO CM H x s bd td bm tm
noncomputable def ACW:Bu->Bool
 | .sun .. =>true
 | .moon .. =>false
section
variable{K:Fr}{CS CO CM:Addr}{H H':Hp}{x:Addr}{d:Bu}
theorem Et.same(S:Et K CS CO CM H x d)(e:Az H H'):Et K CS CO CM H' x d:=by
 cases d with
 | sun s ls lp ts=>exact Iv.same S e
 | moon s bd td bm tm=>exact Gf.same S e
theorem Et.but(S:Et K CS CO CM H x d)(hl:H l=some (.lst xs))(k:But l H H'):Et K CS CO CM H' x d:=by
 cases d with
 | sun s ls lp ts=>exact Iv.but S hl k
 | moon s bd td bm tm=>exact Gf.but S hl k
theorem Et.good(S:Et K CS CO CM H x d):d.good:=by
 cases d with
 | sun s ls lp ts=>exact Iv.gd S
 | moon s bd td bm tm=>exact Gf.gd S
theorem Et.ys(S:Et K CS CO CM H x d):∃C dx fs sp,(C,sp)∈[(CS,ABS K CS CM),(CO,wU K CO CM)]/\H x=some (.ins C dx fs)/\fs.lookup (Str.ofString "year_start")=none/\
 ∀{H2:Hp} {n:Int} {Q:VK} {E:XK},Et K CS CO CM H2 x d->Bt 370 n->(∀H',Az H2 H'->Q (.int (d.Y n)) H')->sp [.ref x,.int n] H2 Q E:=by
 cases d with
 | sun s ls lp ts=>
  obtain⟨dx,fs,e,m⟩:=Iv.meth S;exact⟨CS,dx,fs,_,qc,e,m.1,fun S2 bn q=>⟨x,_,s,ls,lp,ts,rfl,S2,bn.mono (by decide),q⟩⟩
 | moon s bd td bm tm=>
  obtain⟨dx,fs,e,m⟩:=Gf.meth S;exact⟨CO,dx,fs,_,qh _ qc,e,m.1,fun S2 bn q=>⟨x,_,s,bd,bm,td,tm,rfl,S2,bn,q⟩⟩
theorem Et.le(S:Et K CS CO CM H x d):∃C dx fs sp,(C,sp)∈[(CS,lq K CS CM),(CO,dN K CO CM)]/\H x=some (.ins C dx fs)/\fs.lookup (Str.ofString "lengths")=none/\
 ∀{H2:Hp} {n:Int} {Q:VK} {E:XK},Et K CS CO CM H2 x d->Bt 370 n->(∀(p:Addr) H',H2 p=none->Az H2 H'->H' p=some (.lst ((d.L n).map V.int))->Q (.ref p) H')->sp [.ref x,.int n] H2 Q E:=by
 cases d with
 | sun s ls lp ts=>
  obtain⟨dx,fs,e,m⟩:=Iv.meth S;exact⟨CS,dx,fs,_,qc,e,m.2.2.1,fun S2 bn q=>⟨x,_,s,ls,lp,ts,rfl,S2,bn.mono (by decide),q⟩⟩
 | moon s bd td bm tm=>
  obtain⟨dx,fs,e,m⟩:=Gf.meth S;exact⟨CO,dx,fs,_,qh _ qc,e,m.2.2.1,fun S2 bn q=>⟨x,_,s,bd,bm,td,tm,rfl,S2,bn,q⟩⟩
end
section
variable{K:Fr}{CS CO CM:Addr}{H H':Hp}{x:Addr}{d:Bu}
end
noncomputable def ABY:Sp:=fun _ _ _ _=>False
noncomputable def oI(o:Option Int):V:=match o with | none=>.non | some i=>.int i
noncomputable def okM(m:Option Int):Prop:=∀i,m=some i->1<=i
noncomputable def lZ(K:Fr)(CO CM:Addr):Sp:=fun vs H Q _=>Ex6 fun(x:Addr) (s bd bm:Int) (td tm:List Tm)=>An3 (vs=[.ref x]) (Gf K CO CM H x s bd td bm tm) (∀(p:Addr) H',Az H H'->H' p=some (.tup [.int (PER tm*moT td bm tm),.int (UP bd td (UP bm tm (PER tm)*moT td bm tm))])->Q (.ref p) H')
theorem Et.cyc{CS CO CM:Addr}{d:Bu}(S:Et K CS CO CM H x d):∃C dx fs sp,(C,sp)∈[(CS,wW K CS CM),(CO,lZ K CO CM)]/\H x=some (.ins C dx fs)/\fs.lookup (Str.ofString "cycle")=none/\
 ∀{H2:Hp} {Q:VK} {E:XK},Et K CS CO CM H2 x d->(∀(p:Addr) H',Az H2 H'->H' p=some (.tup [.int d.cy.1,.int d.cy.2])->Q (.ref p) H')->sp [.ref x] H2 Q E:=by
 cases d with
 | sun s ls lp ts=>
  obtain⟨dx,fs,e,m⟩:=Iv.meth S;exact⟨CS,dx,fs,_,qc,e,m.2.2.2.1,fun S2 q=>⟨x,s,ls,lp,ts,rfl,S2,q⟩⟩
 | moon s bd td bm tm=>
  obtain⟨dx,fs,e,m⟩:=Gf.meth S;exact⟨CO,dx,fs,_,qh _ qc,e,m.2.2.2.1,fun S2 q=>⟨x,s,bd,bm,td,tm,rfl,S2,q⟩⟩
noncomputable def plD(n i:Int):Int:=if 0<i then i-1 else n+i
noncomputable def Xj(f n:Int)(d:Option Int):List Int:=match d with
 | none=>(List.range n.toNat).map fun i:Nat=>f+(i:Int)
 | some i=>if plD n i<0\/n<=plD n i then [] else [f+plD n i]
noncomputable def yrL:List Int->Int->Int->Option Int->Option Int->List Int
 | [],_,_,_,_=>[]
 | n::ls,f,k,m,i=>(if m=none\/m=some k then Xj f n i else [])++yrL ls (f+n) (k+1) m i
theorem WP{M:Int}:∀{ls:List Int},(∀n∈ls,0<=n/\n<=M)->0<=ls.sum/\ls.sum<=M*(ls.length:Int)
 | [],_=>⟨jg8 _,by simp⟩
 | a::ls,h=>by
  have:=WP (ls:=ls) fun n hn=>h n (qh _ hn);have:=h a qc;have e:M*((a::ls).length:Int)=M*(ls.length:Int)+M:=by
   rw[qo,show((ls.length+1:Nat):Int)=(ls.length:Int)+1 by lia,Zp,ja3]
  rw[kg,e];lia
theorem Q5:∀(l1 l2:List Int) (f k:Int) (m i:Option Int),yrL (l1++l2) f k m i=yrL l1 f k m i++yrL l2 (f+l1.sum) (k+(l1.length:Int)) m i
 | [],l2,f,k,m,i=>by
  show yrL l2 f k m i=[]++yrL l2 (f+0) (k+0) m i;rw[jl5,jc9,jc9]
 | n::l1,l2,f,k,m,i=>by
  show _++yrL (l1++l2) (f+n) (k+1) m i=(_++yrL l1 (f+n) (k+1) m i)++_;rw[Q5 l1 l2,jc5,kg,qo,show f+(n+l1.sum)=f+n+l1.sum by lia,show k+((l1.length+1:Nat):Int)=k+1+(l1.length:Int) by lia]
theorem j5{ls:List Int}{j:Nat}{n:Int}(h:ls[j]?=some n)(f:Int)(m i:Option Int):yrL (ls.take (j+1)) f 1 m i=yrL (ls.take j) f 1 m i++(if m=none\/m=some (1+(j:Int)) then Xj (f+PS ls j) n i else []):=by
 have hj:=(qv.mp h).1;rw[Qr,h,jb7,Q5,jc0,jl6 (by lia)];show _++(_++[])=_;rw[xz];rfl
theorem fO{f n:Int}(n0:0<=n)(i:Option Int):((Xj f n i).length:Int)<=n:=by
 unfold Xj;cases i with
 | none=>
  simp only[js,Qb];lia
 | some i=>
  simp only[];generalize plD n i=pl;split<;>simp<;>lia
theorem Zy:∀(ls:List Int) (f k:Int) (m i:Option Int),(∀n∈ls,0<=n)->((yrL ls f k m i).length:Int)<=ls.sum
 | [],f,k,m,i,_=>jg8 _
 | n::ls,f,k,m,i,h=>by
  have a:=Zy ls (f+n) (k+1) m i fun x hx=>h x (qh _ hx);have n0:=h n qc;have b:=fO (f:=f) n0 i;show(((if m=none\/m=some k then Xj f n i else [])++yrL ls (f+n) (k+1) m i).length:Int)<=(n::ls).sum;rw[zk,kg];split
  ·lia
  ·rw[jg3];lia
noncomputable def rN:Sp:=fun vs H Q _=>Ex3 fun(m d:Option Int) (st:Int)=>An5 (vs=[oI m,oI d,.int st]) (okM m) (d≠some 0) (1<=st) (Q .non H)
noncomputable def sX:Sp:=fun vs H Q _=>Ex3 fun(f n:Int) (d:Option Int)=>An4 (vs=[.int f,.int n,oI d]) (0<=n) (n<=10000) (∀(l:Addr) (H':Hp),H l=none->Az H H'->H' l=some (.lst ((Xj f n d).map V.int))->Q (.ref l) H')
noncomputable def sV(K:Fr)(CS CO CM:Addr):Sp:=fun vs H Q _=>Ex5 fun(x:Addr) (d:Bu) (y:Int) (m i:Option Int)=>An4 (vs=[.ref x,.int y,oI m,oI i]) (Et K CS CO CM H x d) (Bt 370 y) (∀(l:Addr) (H':Hp),H l=none->Az H H'->H' l=some (.lst ((yrL (d.L y) (d.Y y) 1 m i).map V.int))->Q (.ref l) H')
noncomputable def dtL(g:Bu)(m i:Option Int):Nat->List Int
 | 0=>[]
 | k+1=>dtL g m i k++yrL (g.L (k:Int)) (g.Y (k:Int)) 1 m i
structure SmC(g:Bu):Prop where
 y0:1<=g.cy.1
 y1:g.cy.1<=10
 d0:1<=g.cy.2
 d1:g.cy.2<=64
noncomputable def YT(K:Fr)(CS CO CM:Addr):Sp:=fun vs H Q _=>Ex4 fun(x:Addr) (g:Bu) (m i:Option Int)=>An6 (vs=[.ref x,oI m,oI i,.int 1,.int 0]) (Et K CS CO CM H x g) (SmC g) (okM m) (i≠some 0) (∀(p:Addr) (c:Nat) (H':Hp),Az H H'->H' p=some (.tup [.int g.cy.2,.int (c:Int)])->RB g.cy.2 (dtL g m i g.cy.1.toNat) c->Q (.ref p) H')
noncomputable def cpl(z:Str):List Nat:=z.cps.toList
theorem Hv{y z:Str}(h:cpl y=cpl z):y=z:=by
 cases y;cases z;simp only[cpl] at h;exact yk Str.mk (je4.mp h)
noncomputable def G9(cs:List Nat):List Nat:=if cs.head?=some 45 then cs.drop 1 else cs
structure NZ(cs:List Nat):Prop where
 lo:1<=(G9 cs).length
 hi:(G9 cs).length<=60
 dg:∀c∈G9 cs,48<=c/\c<=57
 z0:(G9 cs).head?=some 48->cs=[48]
noncomputable def Jt(cs:List Nat):Int:=if cs.head?=some 45 then -((PySem.NumText.digitsVal (G9 cs):Nat):Int) else ((PySem.NumText.digitsVal (G9 cs):Nat):Int)
theorem Eo(z:Str):(cpl z).length=z.length:=ko
theorem Om{z:Str}(h:NZ (cpl z)):PySem.intText? z=some (Jt (cpl z)):=by
 have hl:z.length<=4300:=by
  have:=h.hi;rw[<-Eo];unfold G9 at this;split at this
  ·rw[jb0] at this;lia
  ·lia
 unfold Jt;by_cases e:(cpl z).head?=some 45
 ·rw[xh e];have ef:G9 (cpl z)=(cpl z).drop 1:=by unfold G9;rw[xh e]
  have hz:z.cps.toList=45::(cpl z).drop 1:=by
   show cpl z=_;generalize cpl z=cs at e;cases cs with
   | nil=>cases e
   | cons a r=>
    injection e with e;rw[e];rfl
  rw[ef];refine PySem.intText_neg hz (fun c hc=>h.dg c (by rw[ef];exact hc)) (fun z0=>?_) hl;have:=h.lo;rw[ef,z0] at this;simp at this
 ·rw[xk e];have ef:G9 (cpl z)=cpl z:=by unfold G9;rw[xk e]
  rw[ef];refine PySem.intText_digits (fun c hc=>h.dg c (by rw[ef];exact hc)) (fun z0=>?_) hl;have:=h.lo;rw[ef] at this;have z1:cpl z=[]:=z0;rw[z1] at this;simp at this
theorem O6{z:Str}(h:1<=z.length):cpl (Txt.slice z (some 1) none)=(cpl z).drop 1:=by
 rw[slice_from_eq (b:=(z.length:Int)) (by decide) (by omega) rfl];show((List.drop 1 z.cps.toList).take ((z.length:Int)-1).toNat)=_;rw[uk]
 ·rfl
 ·rw[jb0];have:z.cps.toList.length=z.length:=Eo z;omega
theorem gf(z:Str):cpl (Txt.slice z none (some 1))=(cpl z).take 1:=by
 by_cases h:1<=z.length
 ·have e:=slice_closes_toL (x:=z) (j:=1) (by decide) (by lia);rw[eq_of_beq e];rfl
 ·have e0:(cpl z).length=0:=by rw[Eo];lia
  have e1:(cpl (Txt.slice z none (some 1))).length=0:=by
   have:=Txt.slice_le z none (some 1);rw[Eo];lia
  rw[jb5.mp e0,jb5.mp e1];rfl
theorem gh{z:Str}{lo hi:Option Int}(h:c∈cpl (Txt.slice z lo hi)):c∈cpl z:=by
 unfold Txt.slice at h;split at h
 ·exact h
 ·simp only[cpl] at h;obtain⟨i,_,hi⟩:=List.mem_filterMap.mp h;have hi':z.cps.toList[i]?=some c:=by rw[Array.getElem?_toList];exact hi
  exact zh hi'
theorem Fq{z:Str}:asc z=true<->∀c∈cpl z,c<128:=by
 unfold asc cpl;rw[Array.all_eq_true'];simp[Array.mem_toList_iff]
theorem WW{z:Str}(h:1<=z.length\/True):Txt.startswith z "-"=decide ((cpl z).head?=some 45):=by
 have ey:(Str.ofString "-")=⟨#[45]⟩:=by ac_rfl
 rw[ey];unfold Txt.startswith Builtin.Str.subAt;show(decide (0+1<=z.length)&&(z.cps.extract 0 (0+1)== #[45]))=_;rw[ku,yb,decide_eq_true_eq,decide_eq_true_eq,jb3];have el:(cpl z).length=z.length:=Eo z;have ex:(z.cps.extract 0 (0+1)).toList=(cpl z).take 1:=by
  rw[Array.toList_extract];simp[cpl,List.extract_eq_drop_take]
 constructor
 ·rintro⟨_,e⟩;rw[e] at ex;generalize cpl z=cs at ex;cases cs with
  | nil=>cases ex
  | cons a r=>
   injection ex with e1 _;rw[e1];rfl
 ·intro e;cases hc:cpl z with
  | nil=>rw[hc] at e;cases e
  | cons a r=>
   rw[hc] at e ex el;injection e with e;rw[qo] at el;refine⟨by lia,je4.mp ?_⟩;rw[ex,e];rfl
theorem vG(c:Nat):c∈cpl (Str.ofString "0123456789")<->48<=c/\c<=57:=by
 have e:cpl (Str.ofString "0123456789")=List.range' 48 10:=by ac_rfl
 rw[e,List.mem_range'_1];lia
theorem oZ(c:Nat):(!(Builtin.Str.occurrences (Str.ofString "0123456789") ⟨#[c]⟩ 0 (Str.ofString "0123456789").length 1).isEmpty)=decide (48<=c/\c<=57):=by
 rw[StrLaws.found_one,ku,decide_eq_true_eq,decide_eq_true_eq];exact vG c
structure TOk(z:Str):Prop where
 asc:asc z=true
 len:z.length<=1000000
theorem TOk.fit{z:Str}(h:TOk z):z.length<=sizeLine:=zv h.len (by decide)
theorem TOk.slice{z:Str}(h:TOk z)(lo hi:Option Int):TOk (Txt.slice z lo hi):=⟨Fq.mpr fun c hc=>Fq.mp h.asc c (gh hc),zv (Txt.slice_le z lo hi) h.len⟩
inductive Hnd(H:Hp):V->Prop
 | txt (z:Str):TOk z->Hnd H (.str z)
 | non:Hnd H .non
 | int (i:Int):Hnd H (.int i)
 | tup (a:Addr) (xs:List V):H a=some (.tup xs)->Hnd H (.ref a)
 | lst (a:Addr) (xs:List V):H a=some (.lst xs)->Hnd H (.ref a)
noncomputable def isT(v:V):Bool:=match v with | .str _=>true | _=>false
theorem zj(K:Fr):PySem.W.kitOne K (.type "str") (.type "str")=some true:=by unfold PySem.W.kitOne;rw[xh (by simp)]
theorem zq(K:Fr):PySem.W.kitOne K (.type "NoneType") (.type "str")=some false:=by first | rfl | ac_rfl | with_unfolding_all rfl
theorem uq(K:Fr):PySem.W.kitOne K (.type "int") (.type "str")=some false:=by first | rfl | ac_rfl | with_unfolding_all rfl
theorem zg(K:Fr):PySem.W.kitOne K (.type "tuple") (.type "str")=some false:=by first | rfl | ac_rfl | with_unfolding_all rfl
theorem zr(K:Fr):PySem.W.kitOne K (.type "list") (.type "str")=some false:=by first | rfl | ac_rfl | with_unfolding_all rfl
theorem aZ{v:V}(h:Hnd H v)(q:Q (.bl (isT v)) H):zE K [v,.ty "str"] H Q:=by
 cases h with
 | txt z hz=>exact Rm (.str z) (zj K) q
 | non=>exact Rm .non (zq K) q
 | int i=>exact Rm (.int i) (uq K) q
 | tup a xs e=>exact Rm (.tup e) (zg K) q
 | lst a xs e=>exact Rm (.lst e) (zr K) q
noncomputable def sO:Sp:=fun vs H Q _=>∃z:Str,An3 (vs=[.str z]) (TOk z) (∀(v:Bool) (H':Hp),Az H H'->(v=true<->NZ (cpl z))->Q (.bl v) H')
theorem vM(a b:Str):cpl (a++b)=cpl a++cpl b:=by
 show(a.cps++b.cps).toList=_;rw[jo4];rfl
theorem Oj(h1: -1000000000000000000000000000000000000000000000000000000000000<=i)(h2:i<=1000000000000000000000000000000000000000000000000000000000000):i.natAbs.log2<1920:=by
 have b:Bt 200 i:=bt_of h1 h2;unfold Bt at b;by_cases z:i.natAbs=0
 ·rw[z];decide
 ·exact xa ((Nat.log2_lt z).mpr b) (by decide)
theorem four{a b c d:V}:([a,b,c,d]:List V).length<=sizeLine:=by show 4<=sizeLine;decide
theorem dT(n:Nat):cpl (Cy (n:Int))=(Nat.toDigits 10 n).map Char.toNat:=by
 unfold Cy cpl;rw[signs_ofString];have e:(toString (Int.ofNat n)).toList=Nat.toDigits 10 n:=by
  show(Nat.repr n).toList=_;rw[jp1]
 exact yk (List.map Char.toNat) e
theorem ofNat_toNat{cs:List Nat}(h:∀c∈cs,48<=c/\c<=57):(cs.map Char.ofNat).map Char.toNat=cs:=by
 rw[ua]
 conv=>rhs;rw[<-List.map_id cs]
 refine jo6 fun c hc=>?_;exact(by decide:∀c<58,(Char.toNat ∘ Char.ofNat) c=c) c (Nat.lt_succ_of_le (h c hc).2)
theorem canon{cs:List Nat}(h:∀c∈cs,48<=c/\c<=57)(ne:cs≠[])(z:cs.head?=some 48->cs=[48]):cpl (Cy ((PySem.NumText.digitsVal cs:Nat):Int))=cs:=by
 rw[dT];obtain⟨c,r,rfl⟩:∃c r,cs=c::r:=by
  cases cs with
  | nil=>exact absurd rfl ne
  | cons c r=>exact⟨c,r,rfl⟩
 have hc:=h c qc;rw[PySem.NumText.toDigits_digitsVal r.length (c::r) (by simp) h (by
  by_cases e:c=48
  ·have:=z (by rw[e];rfl);injection this with _ e2;exact .inl (by rw[e2];rfl)
  ·exact .inr ⟨c,r,rfl,by lia⟩)]
 exact ofNat_toNat h
theorem jc{cs:List Nat}(h:∀c∈cs,48<=c/\c<=57)(ne:cs≠[]):cpl (Cy ((PySem.NumText.digitsVal cs:Nat):Int))=cs<->(cs.head?=some 48->cs=[48]):=by
 refine⟨fun e z=>?_,canon h ne⟩;refine Classical.byContradiction fun hn=>?_;obtain⟨r,rfl⟩:∃r,cs=48::r:=by
  cases cs with
  | nil=>exact absurd rfl ne
  | cons c r=>
   injection z with z;exact⟨r,by rw[z]⟩
 have rn:r≠[]:=fun y=>hn (by rw[y]);have dr:∀c∈r,48<=c/\c<=57:=fun c hc=>h c (qh _ hc);have ev:PySem.NumText.digitsVal (48::r)=PySem.NumText.digitsVal r:=rfl;rw[dT,ev,PySem.NumText.toDigits_all r dr] at e;have l:r.length+1=(match r.dropWhile (· ==48) with | []=>['0'] | c::r=>(c::r).map Char.ofNat).length:=by
  have:=yk List.length e;rw[js,qo] at this;exact this.symm
 have d:(r.dropWhile (· ==48)).length<=r.length:=(jl9 _).length_le;have r1:1<=r.length:=by
  cases r with
  | nil=>exact absurd rfl rn
  | cons _ _=>simp
 cases hd:r.dropWhile (· ==48) with
 | nil=>
  rw[hd] at l;have l':r.length+1=1:=l;lia
 | cons a b=>
  rw[hd] at l d;have l':r.length+1=((a::b).map Char.ofNat).length:=l;rw[js] at l';lia
theorem bV(n:Nat):(∀c∈cpl (Cy (n:Int)),48<=c/\c<=57)/\cpl (Cy (n:Int))≠[]/\PySem.NumText.digitsVal (cpl (Cy (n:Int)))=n:=by
 rw[dT];refine⟨fun c hc=>?_,fun e=>?_,PySem.W.KIN.val_back n⟩
 ·obtain⟨ch,hch,e⟩:=ya.mp hc;have r:=digit_range (Nat.isDigit_of_mem_toDigits (by decide) (by decide) hch);lia
 ·have:=yk List.length e;rw[js] at this;have p:=Nat.length_toDigits_pos (b:=10) (n:=n);rw[jg3] at this;lia
noncomputable def spR(sp:Sp)(d:Nat):Sp:=fun vs H Q E=>0<d/\sp vs H Q E
theorem YL{sp:Sp}{vs:List V}(h:spR sp 0 vs H Q E):False:=absurd h.1 (by decide)
theorem De.mt{CR:Addr}{CL:List Addr}{n:Int}(R:De K CR CL H x n b):∃C dx fs,(∀sp:Sp,(C,sp)∈CL.map fun c=>(c,sp))/\H x=some (.ins C dx fs)/\fs.lookup (Str.ofString "turn")=none/\fs.lookup (Str.ofString "size")=none/\fs.lookup (Str.ofString "on")=none:=by
 obtain⟨C,dx,p,pm,pw,h1,h2,h3,h4⟩:=R.ex;exact⟨C,dx,_,fun sp=>ya.mpr ⟨C,h1,rfl⟩,h3,rfl,rfl,rfl⟩
theorem vH{cs:List Nat}(h:∀c∈cs,48<=c/\c<=57):cs.head?≠some 45:=by
 cases cs with
 | nil=>exact fun z=>nomatch z
 | cons a r=>
  intro z;injection z with z;have:=h a qc;lia
theorem AAV{n:Nat}(h:n<10^60):(cpl (Cy (n:Int))).length<=60:=by
 rw[dT,js];exact(Nat.length_toDigits_le_iff (by decide) (by decide)).mpr h
theorem G8{cs:List Nat}(h:cs.head?≠some 45):G9 cs=cs:=by unfold G9;rw[xk h]
theorem qw{cs:List Nat}(h:cs.head?≠some 45):Jt cs=((PySem.NumText.digitsVal cs:Nat):Int):=by unfold Jt;rw[xk h,G8 h]
theorem Sg{y:Int}(h:y.natAbs<10^60):NZ (cpl (Cy y))/\Jt (cpl (Cy y))=y/\G9 (cpl (Cy y))=cpl (Cy ((y.natAbs:Nat):Int)):=by
 have id:=bV y.natAbs;have dl:=AAV h;have z0:(cpl (Cy ((y.natAbs:Nat):Int))).head?=some 48->cpl (Cy ((y.natAbs:Nat):Int))=[48]:=by
  have c:=(jc id.1 id.2.1).mp (by rw[id.2.2]);exact c
 have l1:1<=(cpl (Cy ((y.natAbs:Nat):Int))).length:=by
  cases hh:cpl (Cy ((y.natAbs:Nat):Int)) with
  | nil=>exact absurd hh id.2.1
  | cons a r=>simp
 rcases je8 y 0 with c | c
 ·have e:cpl (Cy y)=45::cpl (Cy ((y.natAbs:Nat):Int)):=by
   cases y with
   | ofNat k=>exact absurd c (by simp)
   | negSucc k=>
    show cpl (Cy (Int.negSucc k))=45::cpl (Cy (((k+1:Nat)):Int));rw[dT];unfold Cy cpl;rw[signs_ofString];show(("-"++Nat.repr (k+1)).toList).map Char.toNat=_;rw[String.toList_append,kx,jp1];rfl
  have hh:(cpl (Cy y)).head?=some 45:=by rw[e];rfl
  have ef:G9 (cpl (Cy y))=cpl (Cy ((y.natAbs:Nat):Int)):=by unfold G9;rw[xh hh,e];rfl
  refine⟨⟨by rw[ef];exact l1,by rw[ef];exact dl,by rw[ef];exact id.1,fun z=>?_⟩,?_,ef⟩
  ·rw[ef] at z;have:=z0 z;have v:=id.2.2;rw[this] at v;have:PySem.NumText.digitsVal [48]=0:=rfl;lia
  ·unfold Jt;rw[xh hh,ef,id.2.2];lia
 ·have e:Cy y=Cy ((y.natAbs:Nat):Int):=by congr 1;lia
  rw[e];have h45:=vH id.1;refine⟨⟨by rw[G8 h45];exact l1,by rw[G8 h45];exact dl,by rw[G8 h45];exact id.1,fun z=>z0 (by rw[G8 h45] at z;exact z)⟩,?_,G8 h45⟩;rw[qw h45,id.2.2];lia
noncomputable def nW(n:Int):List Nat:=cpl (Cy n)
noncomputable def Sm(i:Int):Prop:=i.natAbs<10^40
theorem ye(h:Sm i):i.natAbs<10^60:=jn4 h (by decide)
theorem JL(h:Sm i):NZ (nW i)/\Jt (nW i)=i:=⟨(Sg (ye h)).1,(Sg (ye h)).2.1⟩
theorem Ib(h:Sm i):∀c∈nW i,c=45\/48<=c/\c<=57:=fun c hc=>by
 have N:=(JL h).1;have hd:=N.dg;by_cases e:(nW i).head?=some 45
 ·have ef:G9 (nW i)=(nW i).drop 1:=by unfold G9;rw[xh e]
  rw[ef] at hd;cases hn:nW i with
  | nil=>rw[hn] at hc;cases hc
  | cons a r=>
   rw[hn] at hc e hd;injection e with e;rcases qq.mp hc with z | z
   ·exact .inl (by rw[z,e])
   ·exact .inr (hd c z)
 ·rw[G8 e] at hd;exact .inr (hd c hc)
theorem Fl(h:Sm i):(nW i).length<=41:=by
 have e:=(Sg (ye h)).2.2;have l:(cpl (Cy ((i.natAbs:Nat):Int))).length<=40:=by
  rw[dT,js];exact(Nat.length_toDigits_le_iff (by decide) (by decide)).mpr h
 rw[<-e] at l;unfold G9 nW at*
 split at l
 ·rw[jb0] at l;lia
 ·lia
theorem zT(h:Sm i):nW i≠[]:=fun z=>by
 have:=(JL h).1.lo;rw[z] at this;simp[G9] at this
theorem Ij(h1: -10000000000000000000000000000000000000000<i)(h2:i<10000000000000000000000000000000000000000):Sm i:=by
 unfold Sm;have:(10:Nat)^40=10000000000000000000000000000000000000000:=by decide
 lia
theorem Cj(h:Sm i):i.natAbs.log2<1920:=by
 refine Oj ?_ ?_
 ·unfold Sm at h;have:(10:Nat)^40=10000000000000000000000000000000000000000:=by decide
  lia
 ·unfold Sm at h;have:(10:Nat)^40=10000000000000000000000000000000000000000:=by decide
  lia
noncomputable def FJ(c:Nat):List (List Nat)->List Nat
 | []=>[]
 | w::ws=>w++(ws.map (c:: ·)).flatten
theorem SM(c:Nat)(w y:List Nat)(ws:List (List Nat)):FJ c (w::y::ws)=w++c::FJ c (y::ws):=by
 show w++((c::y)++(ws.map (c:: ·)).flatten)=w++c::(y++(ws.map (c:: ·)).flatten);rfl
theorem VF(c:Nat):∀(w:List Nat) (ws:List (List Nat)),(∀x∈w::ws,c∉x)->spl c (FJ c (w::ws))=w::ws
 | w,[],h=>by
  show spl c (w++[])=[w];rw[xz];exact WX c w (h w qc)
 | w,y::ws,h=>by
  rw[SM,Qt c w _ (h w qc),VF c y ws fun x hx=>h x (qh _ hx)]
theorem Vk(c:Nat):∀(zs:List Str) (acc:Array Nat),(zs.foldl (fun acc (p:Str)=>acc++(⟨#[c]⟩:Str).cps++p.cps) acc).toList=acc.toList++((zs.map cpl).map (c:: ·)).flatten
 | [],acc=>by simp
 | z::zs,acc=>by
  rw[List.foldl_cons,Vk c zs,jo4,jo4,zn,zn,jd7];show(acc.toList++[c]++cpl z)++_=acc.toList++((c::cpl z)++_);simp
theorem oN(c:Nat)(zs:List Str):cpl (Txt.join ⟨#[c]⟩ zs)=FJ c (zs.map cpl):=by
 cases zs with
 | nil=>rfl
 | cons z zs=>
  show((zs.foldl (fun acc (p:Str)=>acc++(⟨#[c]⟩:Str).cps++p.cps) z.cps)).toList=_;rw[Vk];rfl
theorem qG{k:Nat}{x:Int}(h:Bt k x)(hk:k<=1920)(h0:0<k):x.natAbs.log2<1920:=by
 unfold Bt at h;by_cases z:x.natAbs=0
 ·rw[z];decide
 ·exact xa ((Nat.log2_lt z).mpr h) hk
theorem Jy(a b:Str):(a++b).length=a.length+b.length:=by
 show(a.cps++b.cps).size=_;rw[Array.size_append];rfl
theorem zG{m:Hp->Prop}(h:∀H',KB x H H'->H' x=some o->m H'):m (upd H x o):=h _ (fun y _ ne e=>by rw[Ax ne];exact e) Ai
noncomputable def sg(z:String):List Nat:=cpl (Str.ofString z)
theorem bsg:sg " "=[32]:=by ac_rfl
theorem dsg:sg "date "=sg "date"++[32]:=by ac_rfl
noncomputable def pJ(n r:Int):List Nat:=sg "each "++nW n++sg " from "++nW r
noncomputable def FQ:Option Int->List Nat
 | none=>sg "*"
 | some i=>nW i
noncomputable def xM(nm:List Nat)(m d:Option Int):List Nat:=sg "date "++nm++sg " "++FQ m++sg " "++FQ d
noncomputable def okO(m:Option Int):Prop:=∀i,m=some i->i.natAbs.log2<1920
section
variable(K:Fr)(CR:Addr)(CL:List Addr)(C:Addr)
noncomputable def ABd:Sp:=fun vs H Q _=>Ex3 fun(x:Addr) (n r:Int)=>An4 (vs=[.ref x,.int n,.int r]) (1<=n) (n<=1000) (K3 K CR CL C H x Q n (fun b=>RB n [r] b))
noncomputable def ABe:Sp:=fun vs H Q _=>Ex4 fun(x r:Addr) (n:Int) (b:Nat)=>An3 (vs=[.ref x,.ref r]) (De K CR CL H r n b) (K3 K CR CL C H x Q n (fun c=>OtR n b c))
noncomputable def ABb:Sp:=fun vs H Q _=>Ex5 fun(x r:Addr) (k n:Int) (b:Nat)=>An4 (vs=[.ref x,.int k,.ref r]) (k.natAbs.log2<1920) (De K CR CL H r n b) (K3 K CR CL C H x Q n (fun c=>c=ltr n b k))
noncomputable def ABa:Sp:=fun vs H Q _=>Ex6 fun(x r:Addr) (k d n:Int) (b:Nat)=>An7 (vs=[.ref x,.int k,.ref r,.int d]) (1<=k) (k<=1000) (n*k<=150000) (Bt 200 d) (De K CR CL H r n b) (K3 K CR CL C H x Q (n*k) (fun c=>∀e,On (n*k) c e=true<->Evr n b k d e))
noncomputable def Lk(R:Rel):Sp:=fun vs H Q _=>Ex7 fun(x r t:Addr) (n1 n2:Int) (b1 b2:Nat)=>An5 (vs=[.ref x,.ref r,.ref t]) (De K CR CL H r n1 b1) (De K CR CL H t n2 b2) (Bx n1 n2<=150000) (K3 K CR CL C H x Q (Bx n1 n2) (fun c=>R n1 b1 n2 b2 (Bx n1 n2) c))
noncomputable def ABc:Sp:=fun vs H Q _=>Ex8 fun(x r t:Addr) (k n1 n2:Int) (b1 b2:Nat)=>An7 (vs=[.ref x,.int k,.ref r,.ref t]) (k≠0) (k.natAbs.log2<1920) (De K CR CL H r n1 b1) (De K CR CL H t n2 b2) (Bx n1 n2<=150000) (K3 K CR CL C H x Q (Bx n1 n2) (fun c=>WR (KtU k) n1 b1 n2 b2 (Bx n1 n2) c))
noncomputable def wV(CS CO CM:Addr):Sp:=fun vs H Q _=>Ex6 fun(x y:Addr) (z:Str) (g:Bu) (m d:Option Int)=>An9 (vs=[.ref x,.str z,.ref y,oI m,oI d,.int 1,.int 0]) (z.length<=100) (Et K CS CO CM H y g) (SmC g) (okM m) (okO m) (d≠some 0) (okO d) (K3 K CR CL C H x Q g.cy.2 (fun c=>RB g.cy.2 (dtL g m d g.cy.1.toNat) c))
end
noncomputable def ABg:Sp:=fun vs H Q _=>Ex2 fun(n r:Int)=>An4 (vs=[.int n,.int r]) (1<=n) (n<=1000) (∀z:Str,z.length<=3900->Q (.str z) H)
noncomputable def ABT:Sp:=fun vs H Q _=>∃m:Option Int,An3 (vs=[oI m]) (okO m) (∀z:Str,z.length<=1921->Q (.str z) H)
noncomputable def ABh:Sp:=fun vs H Q _=>Ex3 fun(z:Str) (m d:Option Int)=>An5 (vs=[.str z,oI m,oI d,.int 1,.int 0]) (z.length<=100) (okO m) (okO d) (∀(y:Str) (H':Hp),Az H H'->Q (.str y) H')
theorem zY(h1: -1000000<=i)(h2:i<=1000000):i.natAbs.log2<1920:=qG (bt_of (by lia) (by lia)) (by decide) (by decide)
local macro_rules | `(tactic| walk_at"mm")=> `(tactic| (repeat (first | exact List.Mem.head _ | refine List.Mem.tail _ ?_)))
noncomputable def sW(w:Wd):Str:=⟨w.toArray⟩
theorem Bh(w:Wd):cpl (sW w)=w:=by unfold cpl sW;simp
theorem Jq(z:Str):sW (cpl z)=z:=Hv (Bh _)
theorem DR(w:Wd):(sW w).length=w.length:=by rw[<-Eo,Bh]
theorem wX{a b:Wd}:V.str (sW a)=V.str (sW b)<->a=b:=⟨fun e=>by injection e with e;rw[<-Bh a,e,Bh],fun e=>by rw[e]⟩
structure Ht(cs:List Nat):Prop where
 lo:1<=cs.length
 hi:cs.length<=8
 ch:∀c∈cs,97<=c/\c<=122
theorem uf(c:Nat):c∈cpl (Str.ofString "abcdefghijklmnopqrstuvwxyz")<->97<=c/\c<=122:=by
 have e:cpl (Str.ofString "abcdefghijklmnopqrstuvwxyz")=(List.range 26).map (97+ ·):=by ac_rfl
 rw[e,ya];constructor
 ·rintro⟨k,hk,rfl⟩;have:=jc7.mp hk;lia
 ·intro h;exact⟨c-97,jc7.mpr (by lia),by lia⟩
theorem AAG(c:Nat):(!(Builtin.Str.occurrences (Str.ofString "abcdefghijklmnopqrstuvwxyz") ⟨#[c]⟩ 0 (Str.ofString "abcdefghijklmnopqrstuvwxyz").length 1).isEmpty)=decide (97<=c/\c<=122):=by
 rw[StrLaws.found_one,ku,decide_eq_true_eq,decide_eq_true_eq];exact uf c
noncomputable def yS:Sp:=fun vs H Q _=>∃z:Str,An3 (vs=[.str z]) (TOk z) (∀(v:Bool) (H':Hp),Az H H'->(v=true<->Ht (cpl z))->Q (.bl v) H')
noncomputable def Wa:Sp:=fun vs H Q _=>∃z:Str,An4 (vs=[.str z]) (TOk z) (z.length<=4000) (Q (.bl true) H)
noncomputable def rdF(p:Addr)(k:Nat):List (Str×V):=[("words",.ref p),("place",.int (k:Int))]
structure Rdr(CD:Addr)(H:Hp)(x p:Addr)(ws:List Wd)(k:Nat):Prop where
 ex:∃dx,H x=some (.ins CD dx (rdF p k))
 tp:H p=some (.tup (ws.map fun w=>.str (sW w)))
 ln:ws.length<=100000
 ok:∀w∈ws,TOk (sW w)
noncomputable def Rd(CD:Addr)(H:Hp)(x:Addr)(r:List Wd):Prop:=∃p ws k,Rdr CD H x p ws k/\ws.drop k=r
section
variable{CD:Addr}{H H':Hp}{x:Addr}{r:List Wd}{w:Wd}
theorem Rd.ob(R:Rd CD H x r):∃dx fs,H x=some (.ins CD dx fs)/\fs.lookup (Str.ofString "take")=none/\fs.lookup (Str.ofString "peek")=none:=by
 obtain⟨p,ws,k,⟨⟨dx,h⟩,_⟩,_⟩:=R;exact⟨dx,_,h,rfl,rfl⟩
theorem Rd.same(R:Rd CD H x r)(s:Az H H'):Rd CD H' x r:=by
 obtain⟨p,ws,k,⟨⟨dx,h⟩,t,l,o⟩,e⟩:=R;exact⟨p,ws,k,⟨⟨dx,s _ _ h⟩,s _ _ t,l,o⟩,e⟩
theorem Rd.tk(R:Rd CD H x (w::r)):TOk (sW w):=by
 obtain⟨p,ws,k,R,e⟩:=R;exact R.ok w (List.mem_of_mem_drop (by rw[e];exact .head _))
end
theorem KB.tr{H2:Hp}(a:KB x H H1)(b:KB x H1 H2):KB x H H2:=fun y o h e=>b y o h (a y o h e)
theorem KB.sm(s:Az H H1):KB x H H1:=fun y o _ e=>s y o e
noncomputable def Tk(CD:Addr)(H:Hp)(x:Addr)(r:List Wd)(G:V->Hp->Prop)(Q:VK):Prop:=∀v H',KB x H H'->Rd CD H' x r->G v H'->Q v H'
theorem Tk.on{CD:Addr}{r:List Wd}{G:V->Hp->Prop}(t:Tk CD H x r G Q)(k:KB x H H1):Tk CD H1 x r G Q:=fun v H' k'=>t v H' (k.tr k')
inductive PK | an | or | bu | ul | up | un | ne | ti
noncomputable def PK.s:PK->String | an=>"and" | or=>"or" | bu=>"but" | ul=>"unlike" | up=>"upon" | un=>"until" | ne=>"near" | ti=>"till"
noncomputable def PK.R:PK->Rel | an=>Bo and | or=>Bo Bool.or | bu=>Bo bn | ul=>Bo xor | up=>WR (UpJ 1) | un=>WR (UpJ (-1)) | ne=>WR NrU | ti=>WR TiU
inductive PT:Type
 | lf (b:Bool)
 | each (n r:Int)
 | date (nm:Wd) (m d:Option Int) (y:Option (Int×Int))
 | no (p:PT)
 | la (k:Int) (p:PT)
 | ev (k:Int) (p:PT) (d:Int)
 | nt (k:Int) (p q:PT)
 | pr (w:PK) (p q:PT)
noncomputable def lfS(b:Bool):String:=if b then "all" else "none"
noncomputable def yrW:Option (Int×Int)->List Wd
 | none=>[]
 | some y=>[sg "each",nW y.1,sg "from",nW y.2]
noncomputable def yr(y:Option (Int×Int)):Int×Int:=y.getD (1,0)
namespace PT
noncomputable def tok:PT->List Wd
 | lf b=>[sg (lfS b)]
 | each n r=>[sg "each",nW n,sg "from",nW r]
 | date nm m d y=>sg "date"::nm::FQ m::FQ d::yrW y
 | no p=>kL::sg "not"::(p.tok++[kR])
 | la k p=>kL::nW k::sg "later"::(p.tok++[kR])
 | ev k p d=>kL::sg "every"::nW k::sg "of"::(p.tok++[sg "from",nW d,kR])
 | nt k p q=>kL::nW k::sg "of"::(p.tok++sg "from"::(q.tok++[kR]))
 | pr w p q=>kL::(p.tok++sg w.s::(q.tok++[kR]))
noncomputable def deep:PT->Nat
 | no p=>p.deep+1
 | la _ p=>p.deep+1
 | ev _ p _=>p.deep+1
 | nt _ p q=>max p.deep q.deep+1
 | pr _ p q=>max p.deep q.deep+1
 | _=>0
noncomputable def okS(m:Option Int):Prop:=∀i,m=some i->Sm i
noncomputable def ok:PT->Prop
 | lf _=>True
 | each n r=>Sm n/\Sm r/\1<=n/\n<=60
 | date nm m d y=>Ht nm/\okS m/\okS d/\(∀z,y=some z->Sm z.1/\Sm z.2/\1<=z.1/\z.1<=2)/\okM m/\d≠some 0
 | no p=>p.ok
 | la k p=>Sm k/\p.ok
 | ev k p d=>Sm k/\Sm d/\p.ok/\1<=k/\k<=3
 | nt k p q=>Sm k/\p.ok/\q.ok/\k≠0
 | pr _ p q=>p.ok/\q.ok
theorem hd(p:PT):∃z t,p.tok=z::t/\z∈[sg "all",sg "none",sg "each",sg "date",kL]:=by
 cases p with
 | lf b=>cases b<;>exact⟨_,_,rfl,by ac_rfl⟩
 | each=>exact⟨_,_,rfl,by ac_rfl⟩
 | date=>exact⟨_,_,rfl,by ac_rfl⟩
 | _=>exact⟨_,_,rfl,by ac_rfl⟩
end PT
noncomputable def PlH(H:Hp):PT->V->Prop
 | .lf b,v=>∃q,v=.ref q/\H q=some (.tup [.str (lfS b)])
 | .each n r,v=>∃q,v=.ref q/\H q=some (.tup [.str "each",.int n,.int r])
 | .date nm m d y,v=>∃q,v=.ref q/\H q=some (.tup [.str "date",.str (sW nm),oI m,oI d,.int (yr y).1,.int (yr y).2])
 | .no p,v=>∃q u,v=.ref q/\H q=some (.tup [.str "not",u])/\PlH H p u
 | .la k p,v=>∃q u,v=.ref q/\H q=some (.tup [.str "later",.int k,u])/\PlH H p u
 | .ev k p d,v=>∃q u,v=.ref q/\H q=some (.tup [.str "every",.int k,u,.int d])/\PlH H p u
 | .nt k p r,v=>∃q u y,v=.ref q/\H q=some (.tup [.str "of",.int k,u,y])/\PlH H p u/\PlH H r y
 | .pr w p r,v=>∃q u y,v=.ref q/\H q=some (.tup [.str w.s,u,y])/\PlH H p u/\PlH H r y
theorem PlH.kp(s:∀y xs,H y=some (.tup xs)->H' y=some (.tup xs)):∀{p:PT} {v:V},PlH H p v->PlH H' p v
 | .lf _,v,⟨q,e,h⟩=>⟨q,e,s _ _ h⟩
 | .each ..,v,⟨q,e,h⟩=>⟨q,e,s _ _ h⟩
 | .date ..,v,⟨q,e,h⟩=>⟨q,e,s _ _ h⟩
 | .no _,v,⟨q,u,e,h,g⟩=>⟨q,u,e,s _ _ h,PlH.kp s g⟩
 | .la ..,v,⟨q,u,e,h,g⟩=>⟨q,u,e,s _ _ h,PlH.kp s g⟩
 | .ev ..,v,⟨q,u,e,h,g⟩=>⟨q,u,e,s _ _ h,PlH.kp s g⟩
 | .nt ..,v,⟨q,u,y,e,h,g,g'⟩=>⟨q,u,y,e,s _ _ h,PlH.kp s g,PlH.kp s g'⟩
 | .pr ..,v,⟨q,u,y,e,h,g,g'⟩=>⟨q,u,y,e,s _ _ h,PlH.kp s g,PlH.kp s g'⟩
theorem PlH.same(s:Az H H'){p:PT}{v:V}(h:PlH H p v):PlH H' p v:=PlH.kp (fun _ _ e=>s _ _ e) h
theorem PlH.kb{CD:Addr}{r:List Wd}(R:Rd CD H x r)(kb:KB x H H'){q:PT}{v:V}(h:PlH H q v):PlH H' q v:=PlH.kp (fun y xs e=>by
 obtain⟨dx,fs,hx,_⟩:=R.ob;exact kb y _ (HJ e hx (fun z=>nomatch z)) e) h
section
variable(CD:Addr)
noncomputable def sS:Sp:=fun vs H Q _=>Ex4 fun(x dx l:Addr) (ws:List Wd)=>An6 (vs=[.ref x,.ref l]) (H x=some (.ins CD dx [])) (H l=some (.lst (ws.map fun w=>.str (sW w)))) (ws.length<=100000) (∀w∈ws,TOk (sW w)) (∀H',KB x H H'->Rd CD H' x ws->Q .non H')
noncomputable def yJ:Sp:=fun vs H Q _=>Ex2 fun(x:Addr) (r:List Wd)=>An3 (vs=[.ref x]) (Rd CD H x r) (Q (.str (sW (r.headD []))) H)
noncomputable def yF:Sp:=fun vs H Q _=>Ex2 fun(x:Addr) (r:List Wd)=>An3 (vs=[.ref x]) (Rd CD H x r) (∀H',KB x H H'->Rd CD H' x r.tail->Q (.str (sW (r.headD []))) H')
noncomputable def yC:Sp:=fun vs H Q _=>Ex3 fun(x:Addr) (z:Str) (r:List Wd)=>An3 (vs=[.ref x,.str z]) (Rd CD H x (cpl z::r)) (∀H',KB x H H'->Rd CD H' x r->Q .non H')
noncomputable def yL:Sp:=fun vs H Q _=>Ex3 fun(x:Addr) (n:Int) (r:List Wd)=>An4 (vs=[.ref x]) (Rd CD H x (nW n::r)) (Sm n) (∀H',KB x H H'->Rd CD H' x r->Q (.int n) H')
noncomputable def rM:Sp:=fun vs H Q _=>Ex3 fun(x:Addr) (m:Option Int) (r:List Wd)=>An4 (vs=[.ref x]) (Rd CD H x (FQ m::r)) (PT.okS m) (∀H',KB x H H'->Rd CD H' x r->Q (oI m) H')
noncomputable def sU:Sp:=fun vs H Q _=>Ex4 fun(x:Addr) (n m:Int) (r:List Wd)=>An5 (vs=[.ref x]) (Rd CD H x (nW n::sg "from"::nW m::r)) (Sm n) (Sm m) (∀q H',KB x H H'->Rd CD H' x r->H' q=some (.tup [.int n,.int m])->Q (.ref q) H')
noncomputable def sY:Sp:=fun vs H Q _=>Ex6 fun(x:Addr) (nm:Wd) (m d:Option Int) (y:Option (Int×Int)) (r:List Wd)=>An5 (vs=[.ref x]) (Rd CD H x (nm::FQ m::FQ d::(yrW y++r))) ((PT.date nm m d y).ok) (r.headD []≠sg "each") (Tk CD H x r (fun v H'=>PlH H' (.date nm m d y) v) Q)
noncomputable def spP(d:Nat)(G:PT->List Wd->List Wd)(C:PT->Prop):Sp:=fun vs H Q _=>Ex3 fun(x:Addr) (p:PT) (r:List Wd)=>An7 (vs=[.ref x]) (Rd CD H x (G p r)) p.ok (C p) (p.deep<d) (r.headD []≠sg "each") (Tk CD H x r (fun v H'=>PlH H' p v) Q)
noncomputable def cLN:PT->Prop | .la .. =>True | .nt .. =>True | _=>False
noncomputable def cEv:PT->Prop | .ev .. =>True | _=>False
noncomputable def cPr:PT->Prop | .pr .. =>True | _=>False
noncomputable def cIn:PT->Prop | .no _=>True | p=>cLN p\/cEv p\/cPr p
noncomputable def inn:PT->List Wd->List Wd
 | .no p,r=>sg "not"::(p.tok++r)
 | .la k p,r=>nW k::sg "later"::(p.tok++r)
 | .ev k p d,r=>sg "every"::nW k::sg "of"::(p.tok++sg "from"::nW d::r)
 | .nt k p q,r=>nW k::sg "of"::(p.tok++sg "from"::(q.tok++r))
 | .pr w p q,r=>p.tok++sg w.s::(q.tok++r)
 | _,r=>r
noncomputable def Jl(d:Nat):Sp:=spP CD d (fun p r=>p.tok++r) (fun _=>True)
noncomputable def Wc(d:Nat):Sp:=spP CD (d+1) inn cLN
noncomputable def RK(d:Nat):Sp:=spP CD (d+1) (fun p r=>(inn p r).tail) cEv
noncomputable def Wb(d:Nat):Sp:=spP CD (d+1) inn cPr
noncomputable def RG(d:Nat):Sp:=spP CD (d+1) inn cIn
end
theorem YM{CD:Addr}{vs:List V}(h:Jl CD 0 vs H Q E):False:=by
 obtain⟨x,p,r,_,_,_,_,h,_⟩:=h;lia
theorem X5{a b:String}(h:Str.ofString a≠Str.ofString b):V.str (sW (sg a))≠V.str (Str.ofString b):=fun z=>h (by
 rw[<-Jq (Str.ofString a)];exact V.str.inj z)
theorem HH(a:String):V.str (sW (sg a))=V.str (Str.ofString a):=by rw[show sg a=cpl (Str.ofString a) from rfl,Jq]
theorem oX{w:Wd}(h:NZ (c::w)):c=45\/48<=c/\c<=57:=by
 by_cases e:c=45
 ·exact .inl e
 ·exact .inr (h.dg c (by rw[G8 (show (c::w).head?≠some 45 from fun z=>e (uu z))];exact .head _))
theorem R0{n:Int}(h:Sm n){z:String}(hz:∃c w,sg z=c::w/\¬(c=45\/48<=c/\c<=57)):V.str (sW (nW n))≠V.str (Str.ofString z):=fun e=>by
 obtain⟨c,w,e1,e2⟩:=hz;have e3:nW n=sg z:=by rw[<-Bh (nW n),V.str.inj e];rfl
 have:=(JL h).1;rw[e3,e1] at this;exact e2 (oX this)
theorem hdn{a:String}{r:List Wd}(h:sg a≠sg "each"):(sg a::r).headD []≠sg "each":=h
theorem wy:kL=sg "(":=by ac_rfl
theorem xW{b:String}(h:Str.ofString "("≠Str.ofString b):V.str (sW kL)≠V.str (Str.ofString b):=by
 rw[wy];exact X5 h
theorem ABy(w:PK):inV (V.str (Str.ofString w.s)) [.str "and",.str "or",.str "but",.str "unlike",.str "upon",.str "until",.str "near",.str "till"]=true:=by cases w<;>ac_rfl
theorem rA(p:Nat->Bool)(l:List Nat):l.drop (l.takeWhile p).length=l.dropWhile p:=by
 conv=>lhs;rw[<-ja1 (p:=p) (l:=l)]
 rw[ja1]
 conv=>lhs;rw[<-ja1 (p:=p) (l:=l)]
 exact List.drop_left' (by rw[ja1])
theorem g40:(fun c=>(Str.ofString "(").cps.contains c)=(· ==40):=by
 funext c
 rw[show (Str.ofString "(").cps= #[40] by ac_rfl];by_cases h:c=40
 ·subst h;simp
 ·rw[show (#[40]:Array Nat).contains c=false by simpa using h];exact(beq_false_of_ne h).symm
theorem g41:(fun c=>(Str.ofString ")").cps.contains c)=(· ==41):=by
 funext c
 rw[show (Str.ofString ")").cps= #[41] by ac_rfl];by_cases h:c=41
 ·subst h;simp
 ·rw[show (#[41]:Array Nat).contains c=false by simpa using h];exact(beq_false_of_ne h).symm
noncomputable def lsT(z:Str):Str:=if stripSame (Str.ofString "(").cps.contains true false z then z else stripped (Str.ofString "(").cps.contains true false z
noncomputable def rsT(z:Str):Str:=if stripSame (Str.ofString ")").cps.contains false true z then z else stripped (Str.ofString ")").cps.contains false true z
theorem uc(z:Str):cpl (lsT z)=opd (cpl z):=by
 have lo:stripLo (Str.ofString "(").cps.contains true z=((cpl z).takeWhile (· ==40)).length:=by
  unfold stripLo;rw[xh rfl];show((cpl z).takeWhile (fun c=>(Str.ofString "(").cps.contains c)).length=_;rw[g40]
 unfold lsT opd;rw[<-rA];split
 ·rename_i h
  unfold stripSame at h;simp only[yb,jb3] at h;rw[lo] at h;rw[h.1];rfl
 ·unfold stripped;show(Builtin.Str.strSub z _ _).cps.toList=_;rw[StrLaws.strSub_toList,lo];have:stripHi (Str.ofString "(").cps.contains false z ((cpl z).takeWhile (· ==40)).length=z.length:=rfl;rw[this];exact uk (by rw[jb0];have:=Eo z;unfold cpl at this;lia)
theorem tQ(z:Str):cpl (rsT z)=((cpl z).reverse.dropWhile (· ==41)).reverse:=by
 have hi:stripHi (Str.ofString ")").cps.contains true z 0=z.length-((cpl z).reverse.takeWhile (· ==41)).length:=by
  unfold stripHi;rw[xh rfl];show z.length-((cpl z).reverse.takeWhile (fun c=>(Str.ofString ")").cps.contains c)).length=_;rw[g41]
 have key:(cpl z).take ((cpl z).length-((cpl z).reverse.takeWhile (· ==41)).length)=((cpl z).reverse.dropWhile (· ==41)).reverse:=by
  have e:=ja1 (p:=(· ==41)) (l:=(cpl z).reverse);have e2:=yk List.reverse e;rw[List.reverse_append,List.reverse_reverse] at e2;have l2:=yk List.length e;rw[zk,jk1] at l2
  conv=>lhs;rw[<-e2]
  rw[List.take_left'];rw[jk1,e2];lia
 unfold rsT;split
 ·rename_i h
  unfold stripSame at h;simp only[yb,jb3] at h;have h2:stripHi (Str.ofString ")").cps.contains true z 0=z.length:=h.2;rw[hi] at h2;rw[<-key,Eo,h2,<-Eo,jc1]
 ·unfold stripped;show(Builtin.Str.strSub z 0 (stripHi (Str.ofString ")").cps.contains true z 0)).cps.toList=_;rw[StrLaws.strSub_toList,hi,<-key,Eo];rfl
theorem ACQ(w:Wd):lsT (sW w)=sW (opd w):=Hv (by rw[uc,Bh,Bh])
theorem ABn(w:Wd):rsT (sW (opd w))=sW (core w):=Hv (by rw[tQ,Bh,Bh];rfl)
theorem aB(z:Str):K4 32 z=(spl 32 (cpl z)).map sW:=rfl
theorem mH:Str.ofString ""=sW []:=by ac_rfl
theorem ADR:Str.ofString "("=sW kL:=by ac_rfl
theorem ADQ:Str.ofString ")"=sW kR:=by ac_rfl
theorem lK(c:Nat):∀l:List Nat,((spl c l).map fun w=>w.length+1).sum=l.length+1
 | []=>rfl
 | a::l=>by
  have ih:=lK c l;by_cases e:a=c
  ·subst e;rw[lM,zn,kg,ih,qo];show 0+1+_=_;lia
  ·rw[WY l e,zn,kg,qo,qo];rw[Qs c l,zn,kg] at ih;lia
theorem eQ{a:Nat}:∀{l:List Nat},a∈l->a<=l.sum
 | b::l,h=>by
  rw[kg];rcases qq.mp h with z | z
  ·lia
  ·have:=eQ z;lia
theorem Yv(p:Wd):(HR p).length<=p.length+1:=by
 have a:=Od p;have b:=Q0 p;unfold HR;simp only[zk,jb2,qo,jg3];lia
theorem ZJ:∀ps:List Wd,(ps.flatMap HR).length<=(ps.map fun w=>w.length+1).sum
 | []=>ze _
 | p::ps=>by
  rw[jd6,zk,zn,kg];have:=ZJ ps;have:=Yv p;lia
theorem rE{ps:List Wd}(i:Nat):((ps.take i).flatMap HR).length<=(ps.flatMap HR).length:=by
 conv=>rhs;rw[<-List.take_append_drop i ps,jh1,zk]
 lia
theorem Rj{α:Type}(v:α):∀k:Nat,(List.replicate k [v]).flatten=List.replicate k v
 | 0=>rfl
 | k+1=>by rw[ja0,jd7,Rj v k];rfl
theorem zH(p:Wd):(HR p).map (fun w=>V.str (sW w))=List.replicate (p.length-(opd p).length) (V.str (sW kL))++[V.str (sW (core p))]++List.replicate ((opd p).length-(core p).length) (V.str (sW kR)):=by
 unfold HR;simp
theorem wu:∀p:Wd,p.length-(opd p).length<=p.count 40
 | []=>ze _
 | a::p=>by
  by_cases e:a=40
  ·subst e;rw[Mf,List.count_cons_self,qo];have:=wu p;have:=Od p;lia
  ·rw[show opd (a::p)=a::p by simp[opd,jb1,e]];lia
noncomputable def opn(p:Wd):Nat:=p.length-(opd p).length
noncomputable def cls(p:Wd):Nat:=(opd p).length-(core p).length
noncomputable def Dok(c:Int):List Wd->Prop
 | []=>True
 | w::r=>c+(opn w:Int)<=40/\Dok (c+(opn w:Int)-(cls w:Int)) r
noncomputable def dpf:List Wd->Int
 | []=>0
 | w::r=>(opn w:Int)-(cls w:Int)+dpf r
noncomputable def rJ:Sp:=fun vs H Q _=>∃z:Str,An6 (vs=[.str z]) (TOk z) ((cpl z).length<=4000) (∀p∈spl 32 (cpl z),core p≠[]) (Dok 0 (spl 32 (cpl z))) (∀l H',Az H H'->H' l=some (.lst ((tks (spl 32 (cpl z))).map fun w=>.str (sW w)))->Q (.ref l) H')
structure Wf(ws ts:List Wd)(b:Nat):Prop where
 ne:ws≠[]
 bl:∀w∈ws,32∉w
 co:∀w∈ws,core w≠[]
 tk:tks ws=ts
 dk:∀c:Int,c+(b:Int)<=40->Dok c ws
 dp:dpf ws=0
 as:∀w∈ws,∀c∈w,c<128
noncomputable def gs(c:Nat):Prop:=c<128/\c≠32/\c≠40/\c≠41
theorem Wf.one{w:Wd}(ne:w≠[])(g:∀c∈w,gs c):Wf [w] [w] 0:=by
 have h1:w.head?≠some 40:=fun z=>(g 40 (List.mem_of_mem_head? z)).2.2.1 rfl;have h2:w.getLast?≠some 41:=fun z=>(g 41 (List.mem_of_getLast? z)).2.2.2 rfl;have s:∀x∈[w],x=w:=fun x h=>xc.mp h;have e0:opn w=0:=by
  have:=wu w;rw[List.count_eq_zero.mpr fun z=>(g 40 z).2.2.1 rfl] at this;exact Nat.le_zero.mp this
 have e1:cls w=0:=by
  unfold cls;rw[Oo h1 h2];exact Nat.sub_eq_zero_of_le (Od w)
 refine⟨by simp,fun x h=>by rw[s x h];exact fun z=>(g 32 z).2.1 rfl,fun x h=>by rw[s x h,Oo h1 h2];exact ne,by rw[kj (iQ h1 h2)];rfl,fun c h=>⟨by rw[e0];exact h,trivial⟩,by simp[dpf,e0,e1],fun x h=>by rw[s x h];exact fun c hc=>(g c hc).1⟩
theorem fM:∀ws r:List Wd,dpf (ws++r)=dpf ws+dpf r
 | [],r=>(jg7 _).symm
 | w::ws,r=>by
  show _+dpf (ws++r)=_+dpf ws+_;rw[fM ws r];lia
theorem Dok.app:∀{ws r:List Wd} {c:Int},Dok c ws->Dok (c+dpf ws) r->Dok c (ws++r)
 | [],r,c,_,h=>by rwa [show dpf []=0 from rfl,jc9] at h
 | w::ws,r,c,h,g=>⟨h.1,Dok.app h.2 (by
  rwa [show c+(opn w:Int)-(cls w:Int)+dpf ws=c+dpf (w::ws) by show _=c+((opn w:Int)-(cls w:Int)+dpf ws);lia])⟩
theorem Wf.app{ws ts ws' ts':List Wd}{b':Nat}(A:Wf ws ts b)(B:Wf ws' ts' b'):Wf (ws++ws') (ts++ts') (max b b'):=
 ⟨fun z=>A.ne (List.append_eq_nil_iff.mp z).1,fun w h=>(ui.mp h).elim (A.bl w) (B.bl w),fun w h=>(ui.mp h).elim (A.co w) (B.co w),by rw[rB,A.tk,B.tk],fun c h=>(A.dk c (by lia)).app (by rw[A.dp];exact B.dk _ (by lia)),by rw[fM,A.dp,B.dp];rfl,fun w h=>(ui.mp h).elim (A.as w) (B.as w)⟩
theorem nQ{p:Wd}(h:core p≠[]):opn (p++[41])=opn p/\cls (p++[41])=cls p+1:=by
 unfold opn cls;have:=Q0 p;rw[W9 (J5 h),Kf (J5 h),zk,zk];exact⟨by simp,by show(opd p).length+1-_=_;lia⟩
theorem zP(w:Wd):opn (40::w)=opn w+1/\cls (40::w)=cls w:=by
 unfold opn cls;rw[Mf,Gv,qo];have:=Od w;exact⟨by lia,rfl⟩
theorem ACe:∀{ws:List Wd} {c:Int},ws≠[]->(∀w∈ws,core w≠[])->Dok c ws->Dok c (bB ws)/\dpf (bB ws)=dpf ws-1
 | [],_,n,_,_=>absurd rfl n
 | [w],c,_,h,d=>by
  obtain⟨e1,e2⟩:=nQ (h w (.head _));refine⟨⟨by rw[e1];exact d.1,trivial⟩,?_⟩;show(opn (w++[41]):Int)-(cls (w++[41]):Int)+0=(opn w:Int)-(cls w:Int)+0-1;rw[e1,e2];lia
 | w::y::r,c,_,h,d=>by
  obtain⟨a,b⟩:=ACe (ws:=y::r) (by simp) (fun x hx=>h x (.tail _ hx)) d.2;refine⟨⟨d.1,a⟩,?_⟩;show _+dpf (bB (y::r))=_+dpf (y::r)-1;rw[b];lia
theorem ADd{ws:List Wd}{c:Int}(n:ws≠[])(d:Dok (c+1) ws):Dok c (bA ws)/\dpf (bA ws)=dpf ws+1:=by
 cases ws with
 | nil=>exact absurd rfl n
 | cons w r=>
  obtain⟨e1,e2⟩:=zP w;refine⟨⟨by rw[e1];have:=d.1;lia,?_⟩,?_⟩
  ·have:=d.2;rw[e1,e2]
   rwa [show c+((opn w+1:Nat):Int)-(cls w:Int)=c+1+(opn w:Int)-(cls w:Int) by lia]
  ·show(opn (40::w):Int)-(cls (40::w):Int)+dpf r=(opn w:Int)-(cls w:Int)+dpf r+1;rw[e1,e2];lia
theorem Wf.wrap{ws ts:List Wd}(A:Wf ws ts b):Wf (bB (bA ws)) (kL::(ts++[kR])) (b+1):=by
 have cA:∀w∈bA ws,core w≠[]:=by
  have:=A.co;cases ws with
  | nil=>exact fun _ h=>nomatch h
  | cons w r=>
   intro x hx;rcases qq.mp hx with z | z
   ·rw[z,Gv];exact this w (.head _)
   ·exact this x (.tail _ z)
 have mem:∀{P:Nat->Prop},P 40->P 41->(∀w∈ws,∀c∈w,P c)->∀w∈bB (bA ws),∀c∈w,P c:=fun{P} p0 p1 h w hw c hc=>by
  obtain⟨x,hx,e⟩:=X6 hw A.ne;have:=h x hx;rcases e with e | e | e | e<;>subst e
  ·exact this c hc
  ·rcases qq.mp hc with z | z
   ·exact z ▸ p0
   ·exact this c z
  ·rcases ui.mp hc with z | z
   ·exact this c z
   ·exact(xc.mp z) ▸ p1
  ·rcases qq.mp hc with z | z
   ·exact z ▸ p0
   ·rcases ui.mp z with z | z
    ·exact this c z
    ·exact(xc.mp z) ▸ p1
 have dA:∀c:Int,c+((b+1:Nat):Int)<=40->Dok c (bB (bA ws))/\dpf (bB (bA ws))=0:=fun c h=>by
  obtain⟨a,e⟩:=ADd (c:=c) A.ne (A.dk (c+1) (by lia));obtain⟨a,f⟩:=ACe (NK A.ne) cA a;exact⟨a,by rw[f,e,A.dp];rfl⟩
 refine⟨WD (NK A.ne),fun w hw z=>mem (P:=(· ≠32)) (by decide) (by decide) (fun w h c hc e=>A.bl w h (e ▸ hc)) w hw 32 z rfl,fun w hw=>?_,by rw[kh A.ne A.co,A.tk],fun c h=>(dA c h).1,(dA (-(b:Int)) (by lia)).2,mem (by decide) (by decide) A.as⟩;obtain⟨x,hx,e⟩:=X6 hw A.ne;have c:=A.co x hx;rcases e with e | e | e | e<;>subst e
 ·exact c
 ·rw[Gv];exact c
 ·rw[Kf (J5 c)];exact c
 ·rw[Kf (J5 (by rw[Gv];exact c)),Gv];exact c
theorem Mm{n:Int}(h:Sm n):Wf [nW n] [nW n] 0:=.one (zT h) fun c hc=>by
 have:=Ib h c hc;unfold gs;lia
theorem Qq{m:Option Int}(h:PT.okS m):Wf [FQ m] [FQ m] 0:=by
 cases m with
 | none=>exact .one (by ac_rfl) (by unfold gs;ac_rfl)
 | some i=>exact Mm (h i rfl)
namespace PT
noncomputable def wd:PT->List Wd
 | lf b=>[sg (lfS b)]
 | each n r=>[sg "each",nW n,sg "from",nW r]
 | date nm m d y=>[sg "date"]++([nm]++([FQ m]++([FQ d]++yrW y)))
 | no p=>bB (bA ([sg "not"]++p.wd))
 | la k p=>bB (bA ([nW k]++([sg "later"]++p.wd)))
 | ev k p d=>bB (bA ([sg "every"]++([nW k]++([sg "of"]++(p.wd++([sg "from"]++[nW d]))))))
 | nt k p q=>bB (bA ([nW k]++([sg "of"]++(p.wd++([sg "from"]++q.wd)))))
 | pr w p q=>bB (bA (p.wd++([sg w.s]++q.wd)))
noncomputable def br:PT->Nat
 | no p=>p.br+1
 | la _ p=>p.br+1
 | ev _ p _=>p.br+1
 | nt _ p q=>p.br+q.br+1
 | pr _ p q=>p.br+q.br+1
 | _=>0
noncomputable def lv:PT->Nat
 | no p=>p.lv
 | la _ p=>p.lv
 | ev _ p _=>p.lv
 | nt _ p q=>p.lv+q.lv
 | pr _ p q=>p.lv+q.lv
 | _=>1
theorem LK{z:String}(ne:sg z≠[]:=by ac_rfl)(h:∀c∈sg z,gs c:=by unfold gs;ac_rfl):Wf [sg z] [sg z] 0:=.one ne h
theorem wf:∀{p:PT},p.ok->Wf p.wd p.tok p.deep
 | lf b,_=>by cases b<;>exact LK
 | each n r,h=>((LK (z:="each")).app ((Mm h.1).app ((LK (z:="from")).app (Mm h.2.1))))
 | date nm m d y,h=>by
  have a:Wf [nm] [nm] 0:=.one (fun z=>by have:=h.1.lo;rw[z] at this;exact absurd this (by decide)) fun c hc=>by
   have:=h.1.ch c hc;unfold gs;lia
  cases y with
  | none=>exact(LK (z:="date")).app (a.app ((Qq h.2.1).app (Qq h.2.2.1)))
  | some y=>
   have o:=h.2.2.2.1 y rfl;exact(LK (z:="date")).app (a.app ((Qq h.2.1).app ((Qq h.2.2.1).app ((LK (z:="each")).app ((Mm o.1).app ((LK (z:="from")).app (Mm o.2.1)))))))
 | no p,h=>by
  have:=((LK (z:="not")).app (wf (p:=p) h)).wrap
  rwa [Nat.zero_max] at this
 | la k p,h=>by
  have:=((Mm h.1).app ((LK (z:="later")).app (wf h.2))).wrap
  rwa [Nat.zero_max,Nat.zero_max] at this
 | ev k p d,h=>by
  have:=((LK (z:="every")).app ((Mm h.1).app ((LK (z:="of")).app ((wf h.2.2.1).app ((LK (z:="from")).app (Mm h.2.1)))))).wrap;simpa [tok,wd,deep] using this
 | nt k p q,h=>by
  have:=((Mm h.1).app ((LK (z:="of")).app ((wf h.2.1).app ((LK (z:="from")).app (wf h.2.2.1))))).wrap;simpa [tok,wd,deep] using this
 | pr w p q,h=>by
  have k:Wf [sg w.s] [sg w.s] 0:=by cases w<;>exact LK
  have:=((wf h.1).app (k.app (wf h.2))).wrap;simpa [tok,wd,deep] using this
noncomputable def tx(p:PT):Wd:=jn p.wd
end PT
variable{p:PT}
namespace PT
theorem wd_ne:∀p:PT,p.wd≠[]
 | lf _=>by simp[wd]
 | each .. =>by simp[wd]
 | date .. =>by simp[wd]
 | no _=>WD (NK (by simp))
 | la .. =>WD (NK (by simp))
 | ev .. =>WD (NK (by simp))
 | nt .. =>WD (NK (by simp))
 | pr .. =>WD (NK (by simp))
theorem jw{ps:List Wd}(h:ps≠[]):jn (bB (bA ps))=sg "("++jn ps++sg ")":=by
 rw[wz (NK h),ACU h,show sg "("=[40] by ac_rfl,show sg ")"=[41] by ac_rfl];rfl
theorem j1{w:Wd}{ps:List Wd}(h:ps≠[]):jn ([w]++ps)=w++sg " "++jn ps:=by
 rw[ji6,JN h,bsg];simp
theorem ja(p:PT){ps:List Wd}(h:ps≠[]):jn (p.wd++ps)=p.tx++sg " "++jn ps:=by
 rw[oU p.wd_ne h,bsg];simp[tx]
theorem yp:sg "each "=sg "each"++sg " ":=by ac_rfl
theorem aU:sg " from "=sg " "++sg "from"++sg " ":=by ac_rfl
theorem tx_each(n r:Int):tx (each n r)=pJ n r:=by
 unfold pJ;rw[yp,aU,bsg];simp[tx,wd,jn]
theorem tx_date0(nm:Wd)(m d:Option Int):tx (date nm m d none)=xM nm m d:=by
 unfold xM;rw[dsg,bsg];simp[tx,wd,jn,yrW]
theorem tx_no(p:PT):tx (no p)=sg "(not "++p.tx++sg ")":=by
 show jn _=_;rw[wd,jw (by simp),j1 p.wd_ne,show sg "(not "=sg "("++sg "not"++sg " " by ac_rfl];simp[tx]
theorem tx_la(k:Int)(p:PT):tx (la k p)=sg "("++nW k++sg " later "++p.tx++sg ")":=by
 show jn _=_;rw[wd,jw (by simp),j1 (by simp),j1 p.wd_ne,show sg " later "=sg " "++sg "later"++sg " " by ac_rfl];simp[tx]
theorem ABk:sg " of "=sg " "++sg "of"++sg " ":=by ac_rfl
theorem tx_ev(k:Int)(p:PT)(d:Int):tx (ev k p d)=sg "(every "++nW k++sg " of "++p.tx++(sg " from "++nW d++sg ")"):=by
 show jn _=_;rw[wd,jw (by simp),j1 (by simp),j1 (by simp),j1 (by simp),ja p (by simp),j1 (by simp),ABk,aU,show sg "(every "=sg "("++sg "every"++sg " " by ac_rfl];simp[jn]
theorem tx_nt(k:Int)(p q:PT):tx (nt k p q)=sg "("++nW k++sg " of "++p.tx++sg " from "++q.tx++sg ")":=by
 show jn _=_;rw[wd,jw (by simp),j1 (by simp),j1 (by simp),ja p (by simp),j1 q.wd_ne,ABk,aU];simp[tx]
noncomputable def _root_.Fw.PK.t:PK->String | .an=>" and " | .or=>" or " | .bu=>" but " | .ul=>" unlike " | .up=>" upon " | .un=>" until " | .ne=>" near " | .ti=>" till "
theorem pk_t(w:PK):sg w.t=sg " "++sg w.s++sg " ":=by cases w<;>ac_rfl
theorem tx_pr(w:PK)(p q:PT):tx (pr w p q)=sg "("++p.tx++sg w.t++q.tx++sg ")":=by
 show jn _=_;rw[wd,jw (by simp[wd_ne]),ja p (by simp),j1 q.wd_ne,pk_t];simp[tx]
theorem lv_br:∀p:PT,p.lv<=p.br+1/\1<=p.lv/\p.deep<=p.br
 | lf _=>by simp[lv,br,deep]
 | each .. =>by simp[lv,br,deep]
 | date .. =>by simp[lv,br,deep]
 | no p=>by have:=lv_br p;simp only[lv,br,deep];lia
 | la _ p=>by have:=lv_br p;simp only[lv,br,deep];lia
 | ev _ p _=>by have:=lv_br p;simp only[lv,br,deep];lia
 | nt _ p q=>by have:=lv_br p;have:=lv_br q;simp only[lv,br,deep];lia
 | pr _ p q=>by have:=lv_br p;have:=lv_br q;simp only[lv,br,deep];lia
theorem rdy(h:p.ok)(hl:p.tx.length<=4000)(hd:p.deep<=40):spl 32 p.tx=p.wd/\TOk (sW p.tx)/\Dok 0 p.wd/\∀q∈p.wd,core q≠[]:=by
 have W:=wf h;refine⟨aC W.ne W.bl,⟨Fq.mpr fun c hc=>?_,by rw[DR];lia⟩,W.dk 0 (by lia),W.co⟩;rw[Bh] at hc;by_cases e:c=32
 ·lia
 ·obtain⟨w,hw,m⟩:=Xc e hc;exact W.as w hw c m
section
variable(g:Bu)
noncomputable def sz:PT->Int
 | lf _=>1
 | each n _=>n
 | date .. =>g.cy.2
 | no p=>p.sz
 | la _ p=>p.sz
 | ev k p _=>p.sz*k
 | nt _ p q=>Bx p.sz q.sz
 | pr _ p q=>Bx p.sz q.sz
noncomputable def _root_.Fw.ep(z:Int)(P:Nat->Prop):Nat:=Classical.epsilon fun c=>c<2^z.toNat/\P c
noncomputable def bt:PT->Nat
 | lf b=>ep 1 fun c=>c=if b then 1 else 0
 | each n r=>ep n fun c=>RB n [r] c
 | date _ m i _=>ep g.cy.2 fun c=>RB g.cy.2 (dtL g m i g.cy.1.toNat) c
 | no p=>ep (p.sz g) fun c=>OtR (p.sz g) (bt p) c
 | la k p=>ep (p.sz g) fun c=>c=ltr (p.sz g) (bt p) k
 | ev k p d=>ep (p.sz g*k) fun c=>∀e,On (p.sz g*k) c e=true<->Evr (p.sz g) (bt p) k d e
 | nt k p q=>ep (Bx (p.sz g) (q.sz g)) fun c=>WR (KtU k) (p.sz g) (bt p) (q.sz g) (bt q) (Bx (p.sz g) (q.sz g)) c
 | pr w p q=>ep (Bx (p.sz g) (q.sz g)) fun c=>w.R (p.sz g) (bt p) (q.sz g) (bt q) (Bx (p.sz g) (q.sz g)) c
noncomputable def rl:PT->Nat->Prop
 | lf b,c=>c=if b then 1 else 0
 | each n r,c=>RB n [r] c
 | date _ m i _,c=>RB g.cy.2 (dtL g m i g.cy.1.toNat) c
 | no p,c=>OtR (p.sz g) (p.bt g) c
 | la k p,c=>c=ltr (p.sz g) (p.bt g) k
 | ev k p d,c=>∀e,On (p.sz g*k) c e=true<->Evr (p.sz g) (p.bt g) k d e
 | nt k p q,c=>WR (KtU k) (p.sz g) (p.bt g) (q.sz g) (q.bt g) (Bx (p.sz g) (q.sz g)) c
 | pr w p q,c=>w.R (p.sz g) (p.bt g) (q.sz g) (q.bt g) (Bx (p.sz g) (q.sz g)) c
end
variable{g:Bu}
theorem tU{c':Nat}:∀{p:PT},c<2^(p.sz g).toNat->c'<2^(p.sz g).toNat->p.rl g c->p.rl g c'->c=c'
 | lf _,_,_,h,h'=>h.trans h'.symm
 | each ..,_,_,h,h'=>RB.uniq h h'
 | date ..,_,_,h,h'=>RB.uniq h h'
 | no _,_,_,h,h'=>OtR.uniq h h'
 | la ..,_,_,h,h'=>h.trans h'.symm
 | ev ..,l,l',h,h'=>XD l l' fun d=>(h d).trans (h' d).symm
 | nt ..,l,l',h,h'=>XD l l' fun d=>(h d).trans (h' d).symm
 | pr w _ _,l,l',h,h'=>by
  cases w
  all_goals first | exact Bo.uniq h h' | exact XD l l' fun d=>(h d).trans (h' d).symm
theorem ACi(p:PT):p.bt g=ep (p.sz g) (p.rl g):=by cases p<;>rfl
theorem bt_of(l:c<2^(p.sz g).toNat)(h:p.rl g c):p.bt g=c:=by
 have:=Classical.epsilon_spec (p:=fun c=>c<2^(p.sz g).toNat/\p.rl g c) ⟨c,l,h⟩;rw[ACi];exact tU this.1 l this.2 h
theorem sz_pos(hD:SmC g):∀{p:PT},p.ok->0<p.sz g
 | lf _,_=>by simp only[sz];decide
 | each ..,h=>by have:=h.2.2.1;simp only[sz];lia
 | date ..,_=>by have:=hD.d0;simp only[sz];lia
 | no p,h=>sz_pos hD (p:=p) h
 | la _ p,h=>sz_pos hD (p:=p) h.2
 | ev k p _,h=>jq1 (sz_pos hD h.2.2.1) (by have:=h.2.2.2.1;lia)
 | nt _ p q,h=>(Bp (sz_pos hD h.2.1) (sz_pos hD h.2.2.1)).1
 | pr _ p q,h=>(Bp (sz_pos hD h.1) (sz_pos hD h.2)).1
end PT
noncomputable def PT.kn:PT->Prop
 | .date nm _ _ y=>nm=sg "c"/\y=none
 | .no p=>p.kn
 | .la _ p=>p.kn
 | .ev _ p _=>p.kn
 | .nt _ p q=>p.kn/\q.kn
 | .pr _ p q=>p.kn/\q.kn
 | _=>True
noncomputable def Dc(K:Fr)(CS CO CM:Addr)(g:Bu)(H:Hp)(a:Addr):Prop:=∃kv y,H a=some (.dK kv)/\Fv kv (.inr (sW (sg "c")))=some (.ref y)/\Et K CS CO CM H y g
theorem Dc.same{CS CO CM:Addr}(d:Dc K CS CO CM g H a)(s:Az H H'):Dc K CS CO CM g H' a:=by
 obtain⟨kv,y,h,e,C⟩:=d;exact⟨kv,y,s _ _ h,e,C.same s⟩
section
variable(K:Fr)(CR:Addr)(CL:List Addr)(CS CO CM:Addr)
noncomputable def Tl(g:Bu)(p:PT)(H:Hp)(Q:VK):Prop:=∀x H',Az H H'->De K CR CL H' x (p.sz g) (p.bt g)->p.rl g (p.bt g)->Q (.ref x) H'
noncomputable def sE:Sp:=fun vs H Q _=>Ex5 fun(v:V) (a:Addr) (m d:Option Int) (g:Bu)=>An6 (vs=[v,.ref a]) (PlH H (.date (sg "c") m d none) v) ((PT.date (sg "c") m d none).ok) (SmC g) (Dc K CS CO CM g H a) (Tl K CR CL g (.date (sg "c") m d none) H Q)
noncomputable def rm:Sp:=fun vs H Q _=>Ex7 fun(w:PK) (x y:Addr) (n1 n2:Int) (b1 b2:Nat)=>An5 (vs=[.str w.s,.ref x,.ref y]) (De K CR CL H x n1 b1) (De K CR CL H y n2 b2) (Bx n1 n2<=150000) (∀z b H',Az H H'->De K CR CL H' z (Bx n1 n2) b->w.R n1 b1 n2 b2 (Bx n1 n2) b->Q (.ref z) H')
noncomputable def RJ(d:Nat):Sp:=fun vs H Q _=>Ex4 fun(v:V) (a:Addr) (p:PT) (g:Bu)=>An9 (vs=[v,.ref a]) (PlH H p v) p.ok p.kn (p.deep<d) (SmC g) (Dc K CS CO CM g H a) (p.sz g<=150000) (Tl K CR CL g p H Q)
noncomputable def yI:Sp:=fun vs H Q _=>Ex3 fun(a:Addr) (p:PT) (g:Bu)=>wB (vs=[.str (sW p.tx),.ref a]) p.ok p.kn (p.tx.length<=4000) (p.deep<=40) (p.lv+p.br<=200) (SmC g) (Dc K CS CO CM g H a) (p.sz g<=150000) (Tl K CR CL g p H Q)
end
theorem Tl.go{CR:Addr}{CL:List Addr}(q:Tl K CR CL g p H Q)(s:Az H H')(N:De K CR CL H' x (p.sz g) b)(r:p.rl g b):Q (.ref x) H':=by
 have e:=PT.bt_of N.lt r;exact q x H' s (e.symm ▸ N) (e.symm ▸ r)
theorem YQ{CR:Addr}{CL:List Addr}{CS CO CM:Addr}{vs:List V}(h:RJ K CR CL CS CO CM 0 vs H Q E):False:=by
 obtain⟨v,a,p,D,_,_,_,_,h,_⟩:=h;lia
section
variable{K:Fr}{CR:Addr}{CL:List Addr}{C:Addr}{H:Hp}{y dy:Addr}{Q:VK}{E:XK}
theorem HS(hy:H y=none)(hdy:H dy=none)(ne:dy≠y):Az H (upd (upd H dy (.own y)) y o):=(Ar hdy _).trans (Ar (by rw[Ax (Ne.symm ne)];exact hy) _)
theorem K3.go{n:Int}{G:Nat->Prop}(hy:H y=none)(hdy:H dy=none)(ne:dy≠y)(q:∀b H',Az H H'->De K CR CL H' y n b->G b->Q .non H'):K3 K CR CL C (upd (upd H dy (.own y)) y (.ins C dy [])) y Q n G:=
 ⟨⟨dy,Ai⟩,fun b H' k N g=>q b H' (Ve hy hdy ne k) N g⟩
theorem ADW{R:Rel}{r t:Addr}(R1:De K CR CL H r n1 b1)(R2:De K CR CL H t n2 b2)(lz:Bx n1 n2<=150000)(hy:H y=none)(hdy:H dy=none)(ne:dy≠y)(q:∀b H',Az H H'->De K CR CL H' y (Bx n1 n2) b->R n1 b1 n2 b2 (Bx n1 n2) b->Q .non H'):Lk K CR CL C R [.ref y,.ref r,.ref t] (upd (upd H dy (.own y)) y (.ins C dy [])) Q E:=
 ⟨y,r,t,n1,n2,b1,b2,rfl,R1.same (HS hy hdy ne),R2.same (HS hy hdy ne),lz,.go hy hdy ne q⟩
end
theorem ABx(w:PK):∀z∈["all","none","each","date","not","later","every","of"],Str.ofString w.s≠Str.ofString z:=by cases w<;>ac_rfl
theorem oH{a b:Int}(h1:0<a)(h2:0<b):a<=Bx a b/\b<=Bx a b:=by
 have f:=Bp h1 h2;exact⟨jk8 f.1 f.2.1,jk8 f.1 f.2.2.1⟩
theorem ACh(h:Sm i):Bt 200 i:=jn4 h (by decide)
namespace PT
theorem tok_len:∀p:PT,p.tok.length<=10*(p.lv+p.br)
 | lf _=>by simp[tok,lv,br]
 | each .. =>by simp[tok,lv,br]
 | date _ _ _ none=>by simp[tok,yrW,lv,br]
 | date _ _ _ (some _)=>by simp[tok,yrW,lv,br]
 | no p=>by have:=tok_len p;simp[tok,lv,br];lia
 | la _ p=>by have:=tok_len p;simp[tok,lv,br];lia
 | ev _ p _=>by have:=tok_len p;simp[tok,lv,br];lia
 | nt _ p q=>by have:=tok_len p;have:=tok_len q;simp[tok,lv,br];lia
 | pr _ p q=>by have:=tok_len p;have:=tok_len q;simp[tok,lv,br];lia
theorem tok_ok(h:p.ok):∀w∈p.tok,TOk (sW w):=by
 have num:∀{n:Int},Sm n->TOk (sW (nW n)):=fun{n} h=>⟨Fq.mpr fun c hc=>by rw[Bh] at hc;have:=Ib h c hc;lia,by rw[DR];have:=Fl h;lia⟩;have str:∀{m:Option Int},okS m->TOk (sW (FQ m)):=fun{m} h=>by
  cases m with
  | none=>exact⟨by ac_rfl,by ac_rfl⟩
  | some i=>exact num (h i rfl)
 have all:∀{ws:List Wd} {w:Wd},TOk (sW w)->(∀x∈ws,TOk (sW x))->∀x∈w::ws,TOk (sW x):=fun h g x hx=>(qq.mp hx).elim (fun e=>e ▸ h) (g x);have app:∀{ws vs:List Wd},(∀x∈ws,TOk (sW x))->(∀x∈vs,TOk (sW x))->∀x∈ws++vs,TOk (sW x):=fun h g x hx=>(ui.mp hx).elim (h x) (g x);have nil:∀x∈([]:List Wd),TOk (sW x):=fun _ h=>nomatch h;have L:TOk (sW kL):=⟨by ac_rfl,by ac_rfl⟩;have R:TOk (sW kR):=⟨by ac_rfl,by ac_rfl⟩;have k1:TOk (sW (sg "each")):=⟨by ac_rfl,by ac_rfl⟩;have k2:TOk (sW (sg "from")):=⟨by ac_rfl,by ac_rfl⟩;have k3:TOk (sW (sg "of")):=⟨by ac_rfl,by ac_rfl⟩
 induction p with
 | lf b=>cases b<;>exact all ⟨by ac_rfl,by ac_rfl⟩ nil
 | each n r=>exact all k1 (all (num h.1) (all k2 (all (num h.2.1) nil)))
 | date nm m d y=>
  refine all ⟨by ac_rfl,by ac_rfl⟩ (all ⟨Fq.mpr fun c hc=>by rw[Bh] at hc;have:=h.1.ch c hc;lia,by rw[DR];have:=h.1.hi;lia⟩ (all (str h.2.1) (all (str h.2.2.1) ?_)));cases y with
  | none=>exact nil
  | some y=>exact all k1 (all (num (h.2.2.2.1 y rfl).1) (all k2 (all (num (h.2.2.2.1 y rfl).2.1) nil)))
 | no p i=>exact all L (all ⟨by ac_rfl,by ac_rfl⟩ (app (i h) (all R nil)))
 | la k p i=>exact all L (all (num h.1) (all ⟨by ac_rfl,by ac_rfl⟩ (app (i h.2) (all R nil))))
 | ev k p d i=>exact all L (all ⟨by ac_rfl,by ac_rfl⟩ (all (num h.1) (all k3 (app (i h.2.2.1) (all k2 (all (num h.2.1) (all R nil)))))))
 | nt k p q i j=>exact all L (all (num h.1) (all k3 (app (i h.2.1) (all k2 (app (j h.2.2.1) (all R nil))))))
 | pr w p q i j=>
  have:TOk (sW (sg w.s)):=by cases w<;>exact⟨by ac_rfl,by ac_rfl⟩
  exact all L (app (i h.1) (all this (app (j h.2) (all R nil))))
end PT
theorem GC{x:V}:atI (x::xs) 0=some x:=Dm (j:=0) rfl
theorem Lb{x:V}:atI (x::y::xs) 1=some y:=Dm (j:=1) rfl
theorem Xu{x z:V}:atI (x::y::z::xs) 2=some z:=Dm (j:=2) rfl
theorem vY{x z u:V}:atI (x::y::z::u::xs) 3=some u:=Dm (j:=3) rfl
theorem ADf{x z u v:V}:atI (x::y::z::u::v::xs) 4=some v:=Dm (j:=4) rfl
theorem ADe{x z u v w:V}:atI (x::y::z::u::v::w::xs) 5=some w:=Dm (j:=5) rfl
noncomputable def tW(t:Tm):Wd:=43::FJ 44 ([t.2.1,t.2.2.1,t.2.2.2].map nW)
noncomputable def wC:Bu->List Wd
 | .sun s ls lp ts=>nW s::FJ 44 (ls.map nW)::sg "leap"::nW lp::ts.map tW
 | .moon s bd td bm tm=>nW s::nW bd::(td.map tW++sg "/"::nW bm::tm.map tW)
noncomputable def hC:Bu->String
 | .sun .. =>"sun"
 | .moon .. =>"moon"
noncomputable def wdC(g:Bu):List Wd:=sg (hC g)::wC g
structure Ok1(a b n:Int):Prop where
 n0:1<=n
 n1:n<=3
 a0:0<=a
 a1:a<=n
 b0:0<=b
 b1:b<n
inductive OkC:Bu->Prop
 | sun {s lp a b n:Int} {ls:List Int}:Sm s->2<=ls.length->ls.length<=3->(∀n∈ls,1<=n/\n<=4)->1<=lp->lp<=2->Ok1 a b n->OkC (.sun s ls lp [(1,a,b,n)])
 | moon {s bd a b n bm c e y:Int}:Sm s->1<=bd->bd<=3->Ok1 a b n->n<=2->1<=bm->bm<=3->Ok1 c e y->y<=2->OkC (.moon s bd [(1,a,b,n)] bm [(1,c,e,y)])
theorem Ok1.tm{a b n:Int}(o:Ok1 a b n):∀t∈[((1,a,b,n):Tm)],OkT t:=fun t ht=>by
 rw[xc.mp ht];exact⟨.inl rfl,o.n0,jn0 o.n1 (by decide),o.a0,o.a1,o.b0,o.b1⟩
theorem sm1(h1:0<=i)(h2:i<=60):Sm i:=Ij (by lia) (by lia)
theorem Ok1.sm{a b n:Int}(o:Ok1 a b n):∀i∈[a,b,n],Sm i:=fun i hi=>by
 obtain⟨n0,n1,a0,a1,b0,b1⟩:=o;simp only[qq,yi,or_false] at hi;exact sm1 (by lia) (by lia)
theorem ak{a b n:Int}(h:1<=n):PER [((1,a,b,n):Tm)]=n:=Xa (by decide) (show 0<n by lia) (Int.one_dvd n)
theorem up1{c a b n u:Int}(o:Ok1 a b n):UP c [(1,a,b,n)] (n*u)=(c*n+a)*u:=by
 have n0:=o.n0;show c*(n*u)+(1*((a*(n*u)+b)/n)+0)=_;rw[show a*(n*u)+b=b+n*(a*u) by rw[jm3];lia,jm7 _ _ (by lia),jc2 o.b0 o.b1,jk0,jg9];lia
theorem lJ{ls:List Int}(h:∀n∈ls,1<=n/\n<=4)(l:ls.length<=3):(ls.length:Int)<=ls.sum/\ls.sum<=12:=by
 match ls,h,l with
 | [],_,_=>exact⟨by decide,by decide⟩
 | [a],h,_=>have:=h a (.head _);simp;lia
 | [a,b],h,_=>have:=h a (.head _);have:=h b (.tail _ (.head _));simp;lia
 | [a,b,c],h,_=>have:=h a (.head _);have:=h b (.tail _ (.head _));have:=h c (.tail _ (.tail _ (.head _)));simp;lia
theorem OkC.good(o:OkC g):g.good:=by
 cases o with
 | sun hs l0 l1 hm p0 p1 o=>
  rename_i s lp a b n ls
  have sb:=lJ hm l1;have e:falls [((1,a,b,n):Tm)]=0:=rfl;refine⟨by lia,by lia,fun n hn=>by have:=hm n hn;lia,p0,by lia,?_,by rw[e];lia,o.tm,(by show 1<=6;decide)⟩;rw[e,ja2,qm (by lia)];have:=hm _ (jj8 (show (lp-1).toNat<ls.length by lia));show 0<=ls[(lp-1).toNat];lia
 | moon hs d0 d1 o _ m0 m1 o' _=>exact⟨(by show(0:Int)<_;lia),by lia,(by show(0:Int)<_;lia),by lia,o.tm,o'.tm,(by show 1<=6;decide),(by show 1<=6;decide)⟩
theorem OkC.bs(o:OkC g):Bt 290 g.st:=by
 cases o with
 | sun hs=>exact jn4 hs (by decide)
 | moon hs=>exact jn4 hs (by decide)
noncomputable def dyC:Bu->Int
 | .sun _ ls _ ts=>(ls.sum*(ts.map (·.2.2.2)).sum+(ts.map (·.2.1)).sum)
 | .moon _ bd td bm tm=>(bm*(tm.map (·.2.2.2)).sum+(tm.map (·.2.1)).sum)*(bd*(td.map (·.2.2.2)).sum+(td.map (·.2.1)).sum)
theorem OkC.cy(o:OkC g):SmC g/\g.cy.2∣dyC g/\1<=dyC g/\dyC g<=64:=by
 cases o with
 | sun hs l0 l1 hm p0 p1 o=>
  rename_i s lp a b n ls
  have sb:=lJ hm l1;obtain⟨n0,n1,a0,a1,_,_⟩:=id o;have e1:(Bu.sun s ls lp [(1,a,b,n)]).cy.1=n:=ak n0;have e2:(Bu.sun s ls lp [(1,a,b,n)]).cy.2=ls.sum*n+a:=by
   show UP ls.sum [(1,a,b,n)] (PER [(1,a,b,n)])=_;have:=up1 (c:=ls.sum) (u:=1) o;rw[ja3,ja3] at this;rw[ak n0,this]
  have e3:dyC (.sun s ls lp [(1,a,b,n)])=ls.sum*n+a:=by show ls.sum*(n+0)+(a+0)=_;rw[jc9,jc9]
  have h1:1*1<=ls.sum*n:=vb (by lia) n0 (by decide) (by lia);have h2:ls.sum*n<=12*3:=vb (by lia) n1 (by lia) (by decide);exact⟨⟨by lia,by lia,by lia,by lia⟩,by rw[e2,e3];exact kq _,by lia,by lia⟩
 | moon hs d0 d1 o n2 m0 m1 o' y2=>
  rename_i s bd a b n bm c e y
  obtain⟨n0,_,a0,a1,_,_⟩:=id o;obtain⟨y0,_,c0,c1,_,_⟩:=id o';have eM:UP bm [(1,c,e,y)] (PER [(1,c,e,y)])=bm*y+c:=by
   have:=up1 (c:=bm) (u:=1) o';rw[ja3,ja3] at this;rw[ak y0,this]
  have h1:1*1<=bm*y:=vb (by lia) y0 (by decide) (by lia);have h2:bm*y<=3*2:=vb (by lia) y2 (by lia) (by decide);have h3:1*1<=bd*n:=vb (by lia) n0 (by decide) (by lia);have h4:bd*n<=3*2:=vb (by lia) n2 (by lia) (by decide);have e3:dyC (.moon s bd [(1,a,b,n)] bm [(1,c,e,y)])=(bm*y+c)*(bd*n+a):=by
   show(bm*(y+0)+(c+0))*(bd*(n+0)+(a+0))=_;simp only[jc9]
  have e1:(Bu.moon s bd [(1,a,b,n)] bm [(1,c,e,y)]).cy=(y*moT [(1,a,b,n)] bm [(1,c,e,y)],UP bd [(1,a,b,n)] ((bm*y+c)*moT [(1,a,b,n)] bm [(1,c,e,y)])):=by
   show(_,_)=_;rw[eM,ak y0]
  have eT:moT [(1,a,b,n)] bm [(1,c,e,y)]=n/(Int.gcd n (bm*y+c):Int):=by
   unfold moT;rw[ak n0,eM]
  have hM:1<=bm*y+c/\bm*y+c<=8:=by lia
  generalize bm*y+c=M at*
  have g0:(0:Int)<(Int.gcd n M:Int):=Mr (b:=M) (by lia);obtain⟨v,hv⟩:=jh6 (a:=n) (b:=M);obtain⟨u,hu⟩:=jj3 (a:=n) (b:=M);generalize (Int.gcd n M:Int)=G at*
  have ev:n/G=v:=by rw[hv,jk4 _ (by lia)]
  have eU:M*v=n*u:=by
   conv=>lhs;rw[hu]
   conv=>rhs;rw[hv]
   rw[jg9,jg9,Zs u v]
  rw[eT,ev,eU,up1 o] at e1;have v0:0<v:=Int.pos_of_mul_pos_right (a:=G) (by lia) (by lia);have u0:0<u:=Int.pos_of_mul_pos_right (a:=G) (by lia) (by lia);have vn:v<=n:=by rw[<-ev];exact je5 _ (by lia)
  have uM:u<=M:=jk8 (by lia) ⟨G,by rw[Zs];exact hu⟩;have h5:1*1<=y*v:=vb y0 (by lia) (by decide) (by lia);have h6:y*v<=2*2:=vb y2 (by lia) (by lia) (by decide);have h7:1*1<=(bd*n+a)*u:=vb (by lia) (by lia) (by decide) (by lia);have h8:(bd*n+a)*u<=8*8:=vb (by lia) (by lia) (by lia) (by decide);have h9:1*1<=M*(bd*n+a):=vb (by lia) (by lia) (by decide) (by lia);have h10:M*(bd*n+a)<=8*8:=vb (by lia) (by lia) (by lia) (by decide);rw[e3];refine⟨⟨?_,?_,?_,?_⟩,?_,by lia,by lia⟩<;>rw[e1]
  ·exact h5
  ·exact jn0 h6 (by decide)
  ·exact h7
  ·exact h8
  ·exact⟨G,by show _=(bd*n+a)*u*G;rw[hu,Zs G u,jg9,Zs G,<-jg9,Zs u]⟩
noncomputable def wvS(ws:List Wd):List V:=ws.map fun w=>.str (sW w)
theorem Gu(xs:List V)(k:Nat):HW xs (some (k:Int)) none=xs.drop k:=by
 unfold HW;rw[HT.sIx_nat,HT.sIx_none];by_cases h:k<=xs.length
 ·rw[jl6 h,uk (by rw[jb0];exact ze _)]
 ·rw[Nat.min_eq_right (by lia),uj (ze _),uj (by lia),List.take_nil]
theorem sn(h:¬(c=45\/48<=c/\c<=57)){i:Int}(g:Sm i):c∉nW i:=fun z=>h (Ib g c z)
theorem bH{ns:List Int}(hn:ns≠[])(h:∀n∈ns,Sm n):(K4 44 (sW (FJ 44 (ns.map nW)))).map V.str=ns.map fun n=>V.str (sW (nW n)):=by
 cases ns with
 | nil=>exact absurd rfl hn
 | cons n r=>
  rw[show K4 44 (sW (FJ 44 ((n::r).map nW)))=(spl 44 (cpl (sW (FJ 44 ((n::r).map nW))))).map sW from rfl,zn,Bh,VF 44 _ _ fun x hx=>by
   obtain⟨i,hi,rfl⟩:=ya.mp (show x∈(n::r).map nW from hx);exact sn (by decide) (h i hi)]
  simp
theorem Vi(c k:Nat):∀{ws:List (List Nat)},(∀w∈ws,w.length<=k)->(FJ c ws).length<=ws.length*(k+1)
 | [],_=>ve _
 | [w],h=>by
  have:=h w qc;show(w++[]).length<=1*(k+1);rw[xz];lia
 | w::y::ws,h=>by
  have a:=h w qc;have b:=Vi c k (ws:=y::ws) fun x hx=>h x (qh _ hx);rw[SM,zk,qo,qo (as:=y::ws),jp7];lia
theorem Ml{ns:List Int}(h:∀n∈ns,Sm n):(FJ 44 (ns.map nW)).length<=ns.length*42:=by
 have:=Vi 44 41 (ws:=ns.map nW) fun w hw=>by
  obtain⟨n,hn,rfl⟩:=ya.mp hw;exact Fl (h n hn)
 rwa [js] at this
theorem oO{P:Nat->Prop}(hc:P c):∀{ws:List (List Nat)},(∀w∈ws,∀a∈w,P a)->∀a∈FJ c ws,P a
 | [],_,a,ha=>by cases ha
 | w::ws,h,a,ha=>by
  rcases ui.mp ha with z | z
  ·exact h w qc a z
  ·obtain⟨x,hx,hz⟩:=List.mem_flatten.mp z;obtain⟨y,hy,rfl⟩:=ya.mp hx;rcases qq.mp hz with e | e
   ·rw[e];exact hc
   ·exact h y (qh _ hy) a e
theorem uU(h:Sm i):TOk (sW (nW i)):=⟨Fq.mpr fun c hc=>by rw[Bh] at hc;have:=Ib h c hc;lia,by rw[DR];have:=Fl h;lia⟩
noncomputable def wch(c:Nat):Prop:=43<=c/\c<=122
theorem uT{ns:List Int}(h:∀n∈ns,Sm n):∀c∈FJ 44 (ns.map nW),wch c:=oO (by unfold wch;lia) fun w hw c hc=>by
 obtain⟨n,hn,rfl⟩:=ya.mp hw;have:=Ib (h n hn) c hc;unfold wch;lia
theorem OkC.ch(o:OkC g):∀w∈wdC g,w.length<=200/\∀c∈w,wch c:=fun w hw=>by
 have num:∀{i:Int},Sm i->(nW i).length<=200/\∀c∈nW i,wch c:=fun h=>⟨by have:=Fl h;lia,fun c hc=>by have:=Ib h c hc;unfold wch;lia⟩;have lst:∀{ns:List Int},ns.length<=3->(∀n∈ns,Sm n)->(FJ 44 (ns.map nW)).length<=126/\∀c∈FJ 44 (ns.map nW),wch c:=fun l h=>⟨zv (Ml h) (by lia),uT h⟩;have tm:∀{a b n:Int},Ok1 a b n->(tW (1,a,b,n)).length<=200/\∀c∈tW (1,a,b,n),wch c:=fun{a b n} o=>by
  have:=lst (ns:=[a,b,n]) (by show 3<=3;decide) o.sm;refine⟨by show(FJ 44 ([a,b,n].map nW)).length+1<=_;lia,fun c hc=>?_⟩;rcases qq.mp hc with e | e
  ·unfold wch;lia
  ·exact this.2 c e
 have all:∀{z:String},(sg z).length<=4->(∀c∈sg z,wch c)->(sg z).length<=200/\∀c∈sg z,wch c:=fun h g=>⟨by lia,g⟩;cases o with
 | sun hs l0 l1 hm p0 p1 o=>
  simp only[wdC,hC,wC,qq,yi,or_false,zn,jk6] at hw;rcases hw with rfl | rfl | rfl | rfl | rfl | rfl
  ·exact all (by ac_rfl) (by unfold wch;ac_rfl)
  ·exact num hs
  ·have:=lst l1 fun n hn=>sm1 (by have:=hm n hn;lia) (by have:=hm n hn;lia);exact⟨by lia,this.2⟩
  ·exact all (by ac_rfl) (by unfold wch;ac_rfl)
  ·exact num (sm1 (by lia) (by lia))
  ·exact tm o
 | moon hs d0 d1 o _ m0 m1 o' _=>
  simp only[wdC,hC,wC,qq,ui,yi,or_false,zn,jk6,false_or] at hw;rcases hw with rfl | rfl | rfl | rfl | rfl | rfl | rfl
  ·exact all (by ac_rfl) (by unfold wch;ac_rfl)
  ·exact num hs
  ·exact num (sm1 (by lia) (by lia))
  ·exact tm o
  ·exact all (by ac_rfl) (by unfold wch;ac_rfl)
  ·exact num (sm1 (by lia) (by lia))
  ·exact tm o'
noncomputable def Ir(g:Bu):Wd:=jn (wdC g)
theorem bR(k:Nat):∀(ws:List Wd),(∀w∈ws,w.length<=k)->(jn ws).length<=ws.length*(k+1)
 | [],_=>ve _
 | [w],h=>by have:=h w qc;show w.length<=1*(k+1);lia
 | w::y::r,h=>by
  have:=bR k (y::r) fun x hx=>h x (qh _ hx);have:=h w qc;rw[JN (by simp),zk,qo,qo (as:=y::r),jp7];lia
theorem OkC.tx(o:OkC g):spl 32 (Ir g)=wdC g/\(Ir g).length<=2000/\TOk (sW (Ir g)):=by
 have h:=o.ch;have l:(Ir g).length<=2000:=by
  have a:=bR 200 (wdC g) fun w hw=>(h w hw).1;have b:(wdC g).length<=7:=by cases o<;>simp[wdC,wC]
  exact zv a (zv (jj5 _ b) (by decide))
 refine⟨aC (by simp[wdC]) fun w hw z=>by have:=(h w hw).2 32 z;unfold wch at this;lia,l,Fq.mpr fun c hc=>?_,by rw[DR];lia⟩;rw[Bh] at hc;by_cases e:c=32
 ·lia
 ·obtain⟨w,hw,m⟩:=Xc e hc;have:=(h w hw).2 c m;unfold wch at this;lia
noncomputable def lW:Sp:=fun vs H Q _=>∃i:Int,An3 (vs=[.str (sW (nW i))]) (Sm i) (∀H',Az H H'->Q (.int i) H')
noncomputable def gY:Sp:=fun vs H Q _=>∃ns:List Int,An5 (vs=[.str (sW (FJ 44 (ns.map nW)))]) (ns≠[]) (ns.length<=3) (∀n∈ns,Sm n) (∀(l:Addr) H',H l=none->Az H H'->H' l=some (.lst (ns.map V.int))->Q (.ref l) H')
noncomputable def lV:Sp:=fun vs H Q _=>Ex3 fun(a b n:Int)=>An3 (vs=[.str (sW (tW (1,a,b,n)))]) (∀i∈[a,b,n],Sm i) (∀(p:Addr) H',Az H H'->H' p=some (.tup (tmV (1,a,b,n)))->Q (.ref p) H')
noncomputable def gW:Sp:=fun vs H Q _=>Ex4 fun(l:Addr) (a b n:Int)=>An4 (vs=[.ref l]) (H l=some (.lst (wvS [tW (1,a,b,n)]))) (∀i∈[a,b,n],Sm i) (∀(l' p:Addr) H',Az H H'->H' l'=some (.lst [.ref p])->H' p=some (.tup (tmV (1,a,b,n)))->Q (.ref l') H')
noncomputable def YK(K:Fr)(CS CO CM:Addr)(w:String):Sp:=fun vs H Q _=>Ex2 fun(l:Addr) (g:Bu)=>An5 (vs=[.ref l]) (H l=some (.lst (wvS (wC g)))) (hC g=w) (OkC g) (∀(x:Addr) H',Az H H'->Et K CS CO CM H' x g->Q (.ref x) H')
noncomputable def lX(K:Fr)(CS CO CM:Addr):Sp:=fun vs H Q _=>∃g:Bu,An3 (vs=[.str (sW (Ir g))]) (OkC g) (∀(x:Addr) H',Az H H'->Et K CS CO CM H' x g->Q (.ref x) H')
theorem o8{b:Int}(f:falls ts<b)(h:b<=1000):WK b ts:=⟨by have:=pG (ts:=ts);lia,by lia,Zl f⟩
noncomputable def yM(K:Fr):Sp:=fun vs H Q _=>Ex4 fun(a:Addr) (n d:Int) (b:Nat)=>An8 (vs=[.ref a,.int d]) (SqT K H a [.int n,.int (b:Int)]) (0<n) (n<=150000) (b<2^n.toNat) (Bt 200 d) ((∀e,On n b e=false)->∀H',Az H H'->Q .non H') (∀(r:Int) (H':Hp),Az H H'->d<=r->On n b r=true->(∀e,d<=e->e<r->On n b e=false)->Q (.int r) H')
noncomputable def yP(K:Fr):Sp:=fun vs H Q _=>Ex4 fun(a:Addr) (n d:Int) (b:Nat)=>An8 (vs=[.ref a,.int d]) (SqT K H a [.int n,.int (b:Int)]) (0<n) (n<=150000) (b<2^n.toNat) (Bt 200 d) ((∀e,On n b e=false)->∀H',Az H H'->Q .non H') (∀(r:Int) (H':Hp),Az H H'->r<=d->On n b r=true->(∀e,r<e->e<=d->On n b e=false)->Q (.int r) H')
noncomputable def Kd(H H':Hp):Prop:=∀y o,(∀kv,o≠.dK kv)->H y=some o->H' y=some o
section
variable{K:Fr}{CS CO CM CR C x:Addr}{CL:List Addr}{H H' H2:Hp}
theorem Kd.of(s:Az H H'):Kd H H':=fun y o _ h=>s y o h
theorem Kd.trans(a:Kd H H')(b:Kd H' H2):Kd H H2:=fun y o n h=>b y o n (a y o n h)
theorem Kd.put{kv kv':List (Key×V)}(h:H a=some (.dK kv)):Kd H (upd H a (.dK kv')):=fun y o n e=>by
 rw[Ax fun z=>by rw[z,h] at e;exact n kv (uu e).symm];exact e
theorem Kd.ins(k:Kd H H'){d:Addr}{fs:List (Str×V)}(h:H x=some (.ins C d fs)):H' x=some (.ins C d fs):=k _ _ (fun _ z=>nomatch z) h
theorem Kd.tup(k:Kd H H'){xs:List V}(h:H x=some (.tup xs)):H' x=some (.tup xs):=k _ _ (fun _ z=>nomatch z) h
theorem Kd.lst(k:Kd H H'){xs:List V}(h:H x=some (.lst xs)):H' x=some (.lst xs):=k _ _ (fun _ z=>nomatch z) h
theorem SqT.kd(k:Kd H H'){xs:List V}(h:SqT K H x xs):SqT K H' x xs:=by
 rcases h with (h | ⟨o,h⟩) | h
 ·exact .inl (.inl (k.tup h))
 ·exact .inl (.inr ⟨o,k _ _ (fun _ z=>nomatch z) h⟩)
 ·exact .inr h
theorem Tms.kd(k:Kd H H'):∀{vs:List V} {ts:List Tm},Tms H vs ts->Tms H' vs ts
 | _,_,.nil=>.nil
 | _,_,.cons h t=>.cons (k.tup h) (Tms.kd k t)
theorem Me.kd(k:Kd H H'){b:Int}{ts:List Tm}(M:Me K CM H x b ts):Me K CM H' x b ts:=by
 obtain⟨⟨dy,q,h3,⟨⟨vs,h4,h5⟩,h6,h7⟩⟩,h8,h9⟩:=M;exact⟨⟨dy,q,k.ins h3,⟨⟨vs,SqT.kd k h4,h5.kd k⟩,h6,h7⟩⟩,h8,h9⟩
theorem Et.kd(k:Kd H H'){g:Bu}(S:Et K CS CO CM H x g):Et K CS CO CM H' x g:=by
 cases g with
 | sun=>
  obtain⟨⟨dx,p,y,h1,h2,h3⟩,h10,h11⟩:=S;exact⟨⟨dx,p,y,k.ins h1,SqT.kd k h2,Me.kd k h3⟩,h10,h11⟩
 | moon=>
  obtain⟨⟨dx,d,m,h1,h2,h3⟩,h10,h11⟩:=S;exact⟨⟨dx,d,m,k.ins h1,Me.kd k h2,Me.kd k h3⟩,h10,h11⟩
theorem De.kd(k:Kd H H'){n:Int}{b:Nat}(R:De K CR CL H x n b):De K CR CL H' x n b:=by
 obtain⟨⟨C,dx,p,pm,pw,h1,h2,h3,h4⟩,n0,n1,lt⟩:=R;exact⟨⟨C,dx,p,pm,pw,h1,h2,k.ins h3,k.tup h4⟩,n0,n1,lt⟩
end
structure Cs where
 (D S O M R:Addr) (L:List Addr)
noncomputable def vy(K:Fr)(cs:Cs)(H:Hp)(a:Addr):Option Bu->Prop
 | none=>H a=some (.dK [])
 | some g=>Dc K cs.S cs.O cs.M g H a
structure Dk(K:Fr)(cs:Cs)(H:Hp)(x:Addr)(c:Option Bu)(j:Nat)(m:Wd->Option (Nat×Nat)):Prop where
 ex:∃dx a r kv,H x=some (.ins cs.D dx [("calendars",.ref a),("rules",.ref r)])/\vy K cs H a c/\H r=some (.dK kv)/\kv.length<=j/\r≠a/\∀nm n b,m nm=some (n,b)->∃y,Fv kv (.inr (sW nm))=some (.ref y)/\De K cs.R cs.L H y (n:Int) b
noncomputable def setM(m:Wd->Option (Nat×Nat))(nm:Wd)(v:Nat×Nat):Wd->Option (Nat×Nat):=fun k=>if k=nm then some v else m k
section
variable{K:Fr}{cs:Cs}{H H':Hp}{x:Addr}{c:Option Bu}{j:Nat}{m:Wd->Option (Nat×Nat)}
theorem vy.same(C:vy K cs H a c)(s:Az H H'):vy K cs H' a c:=by
 cases c with
 | none=>exact s _ _ C
 | some D=>exact Dc.same C s
theorem Dk.same(d:Dk K cs H x c j m)(s:Az H H'):Dk K cs H' x c j m:=by
 obtain⟨dx,a,r,kv,h1,h2,h3,h4,h5,h6⟩:=d.ex;exact⟨dx,a,r,kv,s _ _ h1,h2.same s,s _ _ h3,h4,h5,fun nm n b e=>by
  obtain⟨y,g1,g2⟩:=h6 nm n b e;exact⟨y,g1,g2.same s⟩⟩
end
inductive Wk where
 | nm (w:Wd) | tx (w:Wd) | ru (w:Wd) | nu (i:Int)
noncomputable def Wk.k:Wk->Str | .nm _=>"NAME" | .tx _=>"TEXT" | .ru _=>"RULE" | .nu _=>"NUMBER"
noncomputable def Wk.w:Wk->Wd | .nm w=>w | .tx w=>w | .ru w=>w | .nu i=>nW i
noncomputable def Wk.ok:Wk->Prop
 | .nm w=>Ht w
 | .tx w=>w.length<=4000/\∀c∈w,c<128
 | .ru w=>Ht w
 | .nu i=>Sm i
inductive Row where
 | cal (g:Bu) | rule (nm:Wd) (p:PT) | on (nm:Wd) (d:Int) | next (nm:Wd) (d:Int) | last (nm:Wd) (d:Int) | count (nm:Wd) (d e:Int)
noncomputable def Row.ws:Row->List Wk
 | .cal g=>[.nm (sg "c"),.tx (Ir g)]
 | .rule nm p=>[.nm nm,.tx p.tx]
 | .on nm d=>[.ru nm,.nu d]
 | .next nm d=>[.ru nm,.nu d]
 | .last nm d=>[.ru nm,.nu d]
 | .count nm d e=>[.ru nm,.nu d,.nu e]
noncomputable def Row.hd:Row->Str | .cal .. =>"calendar" | .rule .. =>"rule" | .on .. =>"on" | .next .. =>"next" | .last .. =>"last" | .count .. =>"count"
noncomputable def Row.fi:Row->Nat | .cal .. =>0 | .rule .. =>2 | .on .. =>6 | .next .. =>7 | .last .. =>8 | .count .. =>10
noncomputable def Row.ok(R:Row):Prop:=∀w∈R.ws,w.ok
noncomputable def Row.T(R:Row):Wd:=jn (cpl R.hd::R.ws.map Wk.w)
noncomputable def wkV(ws:List Wk):List V:=ws.map fun w=>.str (sW w.w)
noncomputable def bZ(t:Nat->Addr):List (Key×V):=[(.inr "calendar",.ref (t 0)),(.inr "change",.ref (t 1)),(.inr "rule",.ref (t 2)),(.inr "date",.ref (t 3)),(.inr "day",.ref (t 4)),(.inr "move",.ref (t 5)),(.inr "on",.ref (t 6)),(.inr "next",.ref (t 7)),(.inr "last",.ref (t 8)),(.inr "nth",.ref (t 9)),(.inr "count",.ref (t 10)),(.inr "size",.ref (t 11)),(.inr "same",.ref (t 12)),(.inr "meet",.ref (t 13)),(.inr "within",.ref (t 14)),(.inr "shorter",.ref (t 15)),(.inr "show",.ref (t 16)),(.inr "almanac",.ref (t 17))]
structure qZ(P:Program)(w:World)(K:Fr)(mg:Str->Option Value)(a:Addr)(t:Nat->Addr):Prop where
 m:mg "FORMS"=some (.ref a)
 d:KD P w K a (bZ t)
 s:∀(R:Row) (H:Hp),SqT K H (t R.fi) (R.ws.map fun w=>V.str w.k)
theorem SX(t:Nat->Addr)(R:Row):Fv (bZ t) (.inr R.hd)=some (.ref (t R.fi)):=by cases R<;>rfl
noncomputable def ADg(t:Nat->Addr):List (Key×V):=[(.inr "date",.ref (t 0)),(.inr "day",.ref (t 1)),(.inr "move",.ref (t 2)),(.inr "on",.ref (t 3)),(.inr "next",.ref (t 4)),(.inr "last",.ref (t 5)),(.inr "nth",.ref (t 6)),(.inr "count",.ref (t 7)),(.inr "size",.ref (t 8)),(.inr "same",.ref (t 9)),(.inr "meet",.ref (t 10)),(.inr "within",.ref (t 11)),(.inr "shorter",.ref (t 12)),(.inr "show",.ref (t 13)),(.inr "almanac",.ref (t 14))]
structure ADv(P:Program)(w:World)(K:Fr)(mg:Str->Option Value)(a:Addr)(t:Nat->Addr):Prop where
 m:mg "ANSWERS"=some (.ref a)
 d:KD P w K a (ADg t)
 g3:mg "tell_on"=some (.ref (t 3))
 g4:mg "tell_next"=some (.ref (t 4))
 g5:mg "tell_last"=some (.ref (t 5))
 g7:mg "tell_count"=some (.ref (t 7))
theorem Ht.wc{w:Wd}(h:Ht w):w≠[]/\∀c∈w,wch c:=⟨fun z=>by have:=h.lo;rw[z] at this;exact absurd this (by decide),fun c hc=>by have:=h.ch c hc;unfold wch;lia⟩
theorem Wk.box{k:Wk}(h:k.ok):(∀a∈k.w,a<128)/\k.w.length<=4000/\((∀d,k≠.tx d)->32∉k.w):=by
 have fin:(∀a∈k.w,wch a)->k.w.length<=4000->(∀a∈k.w,a<128)/\k.w.length<=4000/\((∀d,k≠.tx d)->32∉k.w):=fun c l=>⟨fun a ha=>by have:=c a ha;unfold wch at this;lia,l,fun _ z=>by have:=c 32 z;unfold wch at this;lia⟩;cases k with
 | nm n=>exact fin (Ht.wc h).2 (by have:=Ht.hi h;show n.length<=_;lia)
 | ru n=>exact fin (Ht.wc h).2 (by have:=Ht.hi h;show n.length<=_;lia)
 | nu i=>exact fin (fun a ha=>by have:=Ib h a ha;unfold wch;lia) (zv (Fl h) (by decide))
 | tx d=>exact⟨h.2,h.1,fun z=>absurd rfl (z d)⟩
theorem Xf(R:Row):(∀a∈cpl R.hd,a<128/\a≠32)/\(cpl R.hd).length<=10:=by
 have all:∀z∈(["calendar","rule","on","next","last","count"]:List Str),(∀a∈cpl z,a<128/\a≠32)/\(cpl z).length<=10:=by ac_rfl
 cases R<;>exact all _ (by walk_at"mm")
theorem Row.tok{R:Row}(h:R.ok):TOk (sW R.T):=by
 have hb:=Xf R;have l:R.T.length<=4*4001:=by
  have:=bR 4000 (cpl R.hd::R.ws.map Wk.w) fun w hw=>by
   rcases qq.mp hw with e | e
   ·rw[e];lia
   ·obtain⟨k,hk,rfl⟩:=ya.mp e;exact(Wk.box (h k hk)).2.1
  have e:(cpl R.hd::R.ws.map Wk.w).length<=4:=by cases R<;>simp[Row.ws]
  exact zv this (jj5 _ e)
 refine⟨Fq.mpr fun c hc=>?_,by rw[DR];lia⟩;rw[Bh] at hc;by_cases e:c=32
 ·lia
 ·obtain⟨w,hw,m⟩:=Xc e hc;rcases qq.mp hw with e | e
  ·rw[e] at m;exact(hb.1 c m).1
  ·obtain⟨k,hk,rfl⟩:=ya.mp e;exact(Wk.box (h k hk)).1 c m
theorem Row.few(R:Row):1<=R.ws.length/\R.ws.length<=3:=by cases R<;>exact⟨by simp[Row.ws],by simp[Row.ws]⟩
theorem Row.head(R:Row):∃r,spl 32 R.T=cpl R.hd::r:=by
 have e:R.T=cpl R.hd++32::jn (R.ws.map Wk.w):=JN (by have:=R.few.1;intro z;rw[List.map_eq_nil_iff.mp z] at this;exact absurd this (by decide));exact⟨_,by rw[e,Qt 32 _ _ fun z=>((Xf R).1 32 z).2 rfl]⟩
theorem Row.kind{R:Row}(h:R.ok):(∃nm w,Ht nm/\R.ws=[.nm nm,.tx w])\/(spl 32 R.T=cpl R.hd::R.ws.map Wk.w/\∃z:Str,z≠"TEXT"/\atI (R.ws.map fun w=>V.str w.k) (-1)=some (V.str z)):=by
 have plain:(∀k∈R.ws,∀d,k≠.tx d)->spl 32 R.T=cpl R.hd::R.ws.map Wk.w:=fun np=>aC (by simp) fun w hw=>by
  rcases qq.mp hw with e | e
  ·rw[e];exact fun z=>((Xf R).1 32 z).2 rfl
  ·obtain⟨k,hk,rfl⟩:=ya.mp e;exact(Wk.box (h k hk)).2.2 (np k hk)
 cases R with
 | cal=>exact .inl ⟨_,_,h _ qc,rfl⟩
 | rule=>exact .inl ⟨_,_,h _ qc,rfl⟩
 | _=>exact .inr ⟨plain fun k hk d z=>by subst z;simp[Row.ws] at hk,"NUMBER",by ac_rfl,rfl⟩
noncomputable def yH:Sp:=fun vs H Q _=>∃R:Row,An3 (vs=[.str (sW R.T)]) R.ok (∀l H',H l=none->Az H H'->H' l=some (.lst (.str R.hd::wkV R.ws))->Q (.ref l) H')
noncomputable def yQ:Sp:=fun vs H Q _=>Ex4 fun(a:Addr) (kv:List (Key×V)) (nm:Wd) (v:V)=>An4 (vs=[.ref a,.str (sW nm)]) (H a=some (.dK kv)) (Fv kv (.inr (sW nm))=some v) (Q v H)
noncomputable def Wk.val(kv:List (Key×V)):Wk->V->Prop
 | .nm n,v=>v=.str (sW n)
 | .tx w,v=>v=.str (sW w)
 | .ru n,v=>Fv kv (.inr (sW n))=some v
 | .nu i,v=>v=.int i
noncomputable def DkH(CD:Addr)(H:Hp)(x:Addr)(kv:List (Key×V)):Prop:=∃dx a r,H x=some (.ins CD dx [("calendars",.ref a),("rules",.ref r)])/\H r=some (.dK kv)
theorem DkH.same{CD:Addr}{kv:List (Key×V)}(d:DkH CD H x kv)(s:Az H H'):DkH CD H' x kv:=by
 obtain⟨dx,a,r,h1,h2⟩:=d;exact⟨dx,a,r,s _ _ h1,s _ _ h2⟩
noncomputable def yO(CD:Addr):Sp:=fun vs H Q _=>Ex3 fun(x:Addr) (kv:List (Key×V)) (k:Wk)=>An5 (vs=[.ref x,.str k.k,.str (sW k.w)]) k.ok (DkH CD H x kv) (∀n,k=.ru n->∃v,Fv kv (.inr (sW n))=some v) (∀v H',Az H H'->k.val kv v->Q v H')
noncomputable def rY(CD:Addr):Sp:=fun vs H Q _=>Ex2 fun(x l:Addr)=>An3 (vs=[.ref x,.ref l]) (H l=some (.lst [])) (∀l' H',H l'=none->Az H H'->H' l'=some (.lst [])->Q (.ref l') H')
section
variable(K:Fr)(CR:Addr)(CL:List Addr)
noncomputable def yn(b:Bool):Str:=if b then "yes" else "no"
noncomputable def ABU:Sp:=fun vs H Q _=>Ex5 fun(l y:Addr) (n d:Int) (b:Nat)=>An4 (vs=[.ref l]) (H l=some (.lst [.ref y,.int d])) (De K CR CL H y n b) (Q (.str (yn (On n b d))) H)
noncomputable def GDy(R:(Int->Bool)->Int->Int->Prop)(n:Int)(b:Nat)(d:Int)(H:Hp)(Q:VK):Prop:=((∀e,On n b e=false)->∀H',Az H H'->Q (.str "never") H')/\∀r H',Az H H'->R (On n b) d r->Q (.str (sW (nW r))) H'
noncomputable def rW:Sp:=fun vs H Q _=>∃r:Option Int,An3 (vs=[oI r]) (okO r) (Q (.str (match r with | none=>"never" | some i=>sW (nW i))) H)
noncomputable def lR(R:(Int->Bool)->Int->Int->Prop):Sp:=fun vs H Q _=>Ex5 fun(l y:Addr) (n d:Int) (b:Nat)=>An5 (vs=[.ref l]) (H l=some (.lst [.ref y,.int d])) (De K CR CL H y n b) (Sm d) (GDy R n b d H Q)
noncomputable def yG:Sp:=fun vs H Q _=>Ex6 fun(l y:Addr) (n d e:Int) (b:Nat)=>An6 (vs=[.ref l]) (H l=some (.lst [.ref y,.int d,.int e])) (De K CR CL H y n b) (Sm d) (Sm e) (∀H',Az H H'->Q (.str (sW (nW (CC n b e-CC n b d)))) H')
end
section
variable(K:Fr)(cs:Cs)
noncomputable def yW:Sp:=fun vs H Q _=>Ex3 fun(H0:Hp) (x dx:Addr)=>An6 (vs=[.ref x]) (H0 x=none) (H0 dx=none) (dx≠x) (H=upd (upd H0 dx (.own x)) x (.ins cs.D dx [])) (∀H',Az H0 H'->Dk K cs H' x none 0 (fun _=>none)->Q .non H')
structure PT.fine(g:Bu)(p:PT):Prop where
 ok:p.ok
 kn:p.kn
 tl:p.tx.length<=4000
 dp:p.deep<=40
 mn:p.lv+p.br<=200
 sz:p.sz g<=150000
noncomputable def ACp(H:Hp)(x:Addr)(j:Nat)(m:Wd->Option (Nat×Nat))(Q:VK)(g:Bu):Prop:=∀H',Kd H H'->Dk K cs H' x (some g) j m->Q (.str "ok") H'
noncomputable def xU(H:Hp)(x:Addr)(g:Bu)(j:Nat)(m:Wd->Option (Nat×Nat))(Q:VK)(nm:Wd)(p:PT):Prop:=∀H',Kd H H'->Dk K cs H' x (some g) (j+1) (setM m nm ((p.sz g).toNat,p.bt g))->p.rl g (p.bt g)->Q (.str "ok") H'
noncomputable def yR:Sp:=fun vs H Q _=>Ex5 fun(x l:Addr) (c:Option Bu) (j:Nat) (m:Wd->Option (Nat×Nat))=>An3 (Dk K cs H x c j m) (j<=50) ((∃g:Bu,An5 (vs=[.ref x,.str "calendar",.ref l]) (H l=some (.lst [.str (sW (sg "c")),.str (sW (Ir g))])) (OkC g) (c=none) (ACp K cs H x j m Q g))\/Ex3 fun(nm:Wd) (p:PT) (g:Bu)=>An6 (vs=[.ref x,.str "rule",.ref l]) (H l=some (.lst [.str (sW nm),.str (sW p.tx)])) (c=some g) (SmC g) (p.fine g) (xU K cs H x g j m Q nm p))
noncomputable def ACo(H:Hp)(x:Addr)(c:Option Bu)(j:Nat)(m:Wd->Option (Nat×Nat))(Q:VK):Row->Prop
 | .cal g=>OkC g/\c=none/\ACp K cs H x j m Q g
 | .rule nm p=>∃g,c=some g/\SmC g/\p.fine g/\xU K cs H x g j m Q nm p
 | .on nm d=>∃n b,m nm=some (n,b)/\∀H',Az H H'->Q (.str (yn (On (n:Int) b d))) H'
 | .next nm d=>∃n b,m nm=some (n,b)/\GDy Ld (n:Int) b d H Q
 | .last nm d=>∃n b,m nm=some (n,b)/\GDy Jc (n:Int) b d H Q
 | .count nm d e=>∃n b,m nm=some (n,b)/\∀H',Az H H'->Q (.str (sW (nW (CC (n:Int) b e-CC (n:Int) b d)))) H'
noncomputable def wR:Sp:=fun vs H Q _=>Ex5 fun(x:Addr) (c:Option Bu) (j:Nat) (m:Wd->Option (Nat×Nat)) (R:Row)=>An5 (vs=[.ref x,.str (sW R.T)]) R.ok (Dk K cs H x c j m) (j<=50) (ACo K cs H x c j m Q R)
end
theorem GDy.later{R:(Int->Bool)->Int->Int->Prop}{n:Int}(g:GDy R n b d H Q)(s:Az H H1):GDy R n b d H1 Q:=⟨fun h H' s'=>g.1 h H' (s.trans s'),fun r H' s'=>g.2 r H' (s.trans s')⟩
theorem dU(h:Sm d):Bt 200 d:=jn4 h (by decide)
theorem eX(h:Sm d)(h1:d-1000000<=e)(h2:e<=d+1000000):e.natAbs.log2<1920:=by
 refine Oj ?_ ?_<;>
 ·unfold Sm at h;have:(10:Nat)^40=10000000000000000000000000000000000000000:=by decide
  lia
theorem ql{n:Int}{b:Nat}(n0:0<n)(d:Int):∀k:Nat,CC n b (d+(k:Int))-CC n b d<=(k:Int)
 | 0=>by simp
 | k+1=>by
  have a:=ql (b:=b) n0 d k;have s:=G5 (b:=b) n0 (d+(k:Int));rw[show d+((k+1:Nat):Int)=d+(k:Int)+1 by lia,s];split<;>lia
theorem qp{n:Int}(n0:0<n)(d e:Int):(CC n b e-CC n b d).natAbs<=(e-d).natAbs:=by
 have go:∀{d e:Int},d<=e->(CC n b e-CC n b d).natAbs<=(e-d).natAbs:=fun{d e} h=>by
  have a:=Jd (b:=b) n0 h;have c:=ql (b:=b) n0 d (e-d).toNat;rw[show d+((e-d).toNat:Int)=e by omega] at c;omega
 rcases Int.le_total d e with h | h
 ·exact go h
 ·have:=go h;omega
theorem AAZ{n:Int}(n0:0<n)(sd:Sm d)(se:Sm e):(CC n b e-CC n b d).natAbs.log2<1920:=by
 have:=qp (b:=b) n0 d e;unfold Sm at sd se;have:(10:Nat)^40=10000000000000000000000000000000000000000:=by decide
 exact Oj (by omega) (by omega)
theorem xX(h:H a=some o):upd H a o=H:=funext fun b=>by
 by_cases e:b=a
 ·rw[e,Ai,h]
 ·exact Ax e
noncomputable def GV(kv:List (Key×V))(n:Nat)(ks:List Wk)(vs:List V):Prop:=vs.length=n/\∀(j:Nat) (k:Wk) (v:V),ks[j]?=some k->vs[j]?=some v->k.val kv v
theorem GV.cons{kv:List (Key×V)}{n:Nat}{k:Wk}{ks:List Wk}{vs:List V}(g:GV kv (n+1) (k::ks) vs):∃v ws,vs=v::ws/\k.val kv v/\GV kv n ks ws:=by
 cases vs with
 | nil=>exact absurd g.1 (by simp)
 | cons v ws=>exact⟨v,ws,rfl,g.2 0 k v rfl rfl,by have:=g.1;simpa using this,fun j k' v' e1 e2=>g.2 (j+1) k' v' e1 e2⟩
theorem GV.one{kv:List (Key×V)}{k:Wk}{vs:List V}(g:GV kv 1 [k] vs):∃v,vs=[v]/\k.val kv v:=by
 obtain⟨v,ws,rfl,h,g'⟩:=GV.cons g;exact⟨v,by rw[jb5.mp g'.1],h⟩
theorem jZ{b:Addr}{ks:List Wk}{kv:List (Key×V)}{Z:L2.St}{te:TE}(ha:∀H,SqT K H a (ks.map fun k=>V.str k.k))(hb:H b=some (.lst (wkV ks)))(hl:ks.length<sizeLine)
 (he:∀k∈ks,∀(H':Hp) (Q':VK),Az H H'->(∀v H'',Az H' H''->k.val kv v->Q' v H'')->te (some (.str k.k)::some (.str (sW k.w))::Z) H' Q')
 (h:∀(D:Addr) (H':Hp) (vs:List V),H D=none->Az H H'->H' D=some (.lst vs)->GV kv ks.length ks vs->Q (.ref D) H'):
 UT 2 (pA K 2 (Vl (Im 0) (Vl (Im 1) ux))) cg te Z Q (vq K a b) H:=by
 intro D hD;have lb:(wkV ks).length=ks.length:=js _;refine⟨fun i m zs H2=>i<=ks.length/\m=ks.length-i/\H2 D=some (.lst zs)/\Az H H2/\GV kv i ks zs,⟨_,ve _,rfl,Ai,Ar hD _,rfl,fun j k v _ e=>by simp at e⟩,?_⟩;rintro i m zs H2 ⟨hi,rfl,hz,s2,zl,g⟩;refine⟨hz,?_⟩;have qb:SqL K H2 b (wkV ks):=SqL.of (s2 _ _ hb);by_cases c:i<ks.length
 ·have ex:(ks.map fun k=>V.str k.k)[i]?=some (.str ks[i].k):=by rw[xo,qm c];rfl
  have ey:(wkV ks)[i]?=some (.str (sW ks[i].w)):=by unfold wkV;rw[xo,qm c];rfl
  refine .inr ⟨⟨_,_,_,_,ha H2,qb,ex,ey⟩,by lia,ks.length-(i+1),by lia,?_⟩;rintro v H3 ⟨T,x,y,hT,rfl,rfl,hxy⟩ ρ hρ;obtain⟨gx,gy⟩:=hxy _ _ (ha H2) qb;rw[ex] at gx;rw[ey] at gy;cases gx;cases gy;obtain⟨p,q,rfl⟩:∃p q,ρ=[p,q]:=by
   match ρ,hρ with
   | [p,q],_=>exact⟨p,q,rfl⟩
  refine⟨T,[.str ks[i].k,.str (sW ks[i].w)],rfl,SqT.of Ai,rfl,.str ks[i].k,[.str (sW ks[i].w)],rfl,.str (sW ks[i].w),[],rfl,⟨rfl,[some (.str ks[i].k),some (.str (sW ks[i].w))],rfl,rfl,?_⟩⟩;refine Kc ?_;rw[xh rfl];have s3:=Ar hT (.tup [.str ks[i].k,.str (sW ks[i].w)]);refine he _ (jj8 c) _ _ (s2.trans s3) fun v H4 s4 hv=>?_;refine⟨s4 _ _ (s3 _ _ hz),by lia,rfl,Ai,G6 hD ((s2.trans s3).trans s4),by rw[zk];show zs.length+1=i+1;lia,fun j k w ek ew=>?_⟩;by_cases cj:j<zs.length
  ·rw[jf6 cj] at ew;exact g j k w ek ew
  ·rw[je3 (by lia)] at ew;have e0:j-zs.length=0:=by
    by_cases z:j-zs.length=0
    ·exact z
    ·rw[jn2 (by show 1<=_;lia)] at ew;cases ew
   rw[e0] at ew;cases ew;have:j=i:=by lia
   rw[this,qm c] at ek;cases ek;exact hv
 ·have e:i=ks.length:=by lia
  subst e;exact .inl ⟨⟨_,_,ha H2,qb,by rw[js,lb,Nat.min_self]⟩,h D H2 zs hD s2 hz ⟨zl,g⟩⟩
structure Lg(x:Str)(a:Wd)(n:Nat):Prop where
 e:cpl x=a
 l:a.length<=n
theorem Lg.s(z:String)(h:(sg z).length<=30:=by ac_rfl):Lg (Str.ofString z) (sg z) 30:=⟨rfl,h⟩
theorem Lg.n(h:Sm i):Lg (Cy i) (nW i) 41:=⟨rfl,Fl h⟩
theorem Lg.w(a:Wd){n:Nat}(h:a.length<=n):Lg (sW a) a n:=⟨Bh _,h⟩
theorem Lg.eq{x:Str}{a b:Wd}{n:Nat}(h:Lg x a n)(e:a=b):x=sW b:=by rw[<-e,<-h.e,Jq]
theorem Lg.ap{x y:Str}{a b:Wd}{n m:Nat}(X:Lg x a n)(Y:Lg y b m):Lg (x++y) (a++b) (n+m):=⟨by rw[vM,X.e,Y.e],by rw[zk];exact Nat.add_le_add X.l Y.l⟩
theorem Lg.aps{x:Str}{a:Wd}{n:Nat}(X:Lg x a n)(z:String)(h:(sg z).length<=30:=by ac_rfl):Lg (x++Str.ofString z) (a++sg z) (n+30):=X.ap (.s z h)
theorem Lg.le{x y:Str}{a:Wd}{n:Nat}(X:Lg (x++y) a n)(h:n<=100000:=by decide):x.length+y.length<=sizeLine:=by
 rw[<-Jy,<-Eo,X.e];exact zv X.l (zv h (by decide))
structure NP(g:Bu)(p:PT)(z:Int)(j:Nat):Prop where
 ok:p.ok
 kn:p.kn
 tl:p.tx.length<=80*(p.lv+p.br)
 mn:p.lv+p.br<=j
 sz:p.sz g∣z
 z0:1<=z
 z1:z<=120
noncomputable def Nr(g:Bu)(H:Hp)(a:Addr)(p:PT)(z:Int)(j:Nat):Prop:=H a=some (.tup [.str (sW p.tx),.int z])/\NP g p z j
noncomputable def yZ:Sp:=fun vs H Q _=>Ex2 fun(x y:Int)=>An6 (vs=[.int x,.int y]) (1<=x) (x<=120) (1<=y) (y<=120) (Q (.int (Bx x y)) H)
theorem ADc(a b:Int):Int.gcd b (a%b)=Int.gcd a b:=by
 have e:=jm8 a b;refine Nat.dvd_antisymm (Int.dvd_coe_gcd ?_ ?_ |> Int.ofNat_dvd.mp) (Int.dvd_coe_gcd ?_ ?_ |> Int.ofNat_dvd.mp)
 ·have h1:=jh6 (a:=b) (b:=a%b);have h2:=jj3 (a:=b) (b:=a%b);have:=Int.dvd_add h2 (jj2 h1 (Int.dvd_mul_right b (a/b)))
  rwa [e] at this
 ·exact jh6 ..
 ·exact jj3 ..
 ·have h1:=jh6 (a:=a) (b:=b);have h2:=jj3 (a:=a) (b:=b);rw[Int.emod_def];exact Int.dvd_sub h1 (jj2 h2 (Int.dvd_mul_right b (a/b)))
theorem jE(ns:List Int):Txt.join (Str.ofString ",") (ns.map Cy)=sW (FJ 44 (ns.map nW)):=by
 rw[show Str.ofString ","=⟨#[44]⟩ from by ac_rfl];exact Hv (by rw[oN,Bh,ua];rfl)
theorem p30:(10:Int)^(30:Int).toNat=1000000000000000000000000000000:=by decide
theorem p29:(10:Int)^(29:Int).toNat=100000000000000000000000000000:=by decide
theorem dG{k:Nat}:∀{zs:List Str},(∀w∈zs,w.length<=k)->(zs.map (·.length)).sum<=zs.length*k
 | [],_=>ve _
 | w::zs,h=>by
  have:=dG fun x hx=>h x (qh w hx);have:=h w qc;rw[zn,kg,qo,jp7];lia
theorem n8(h:Sm i):(Cy i).length<=41:=by
 rw[<-Eo];exact Fl h
theorem ADH(x:Int):∃(n p b lp:Int) (j:Nat),1+x%3=n/\x/3%(n+1)=p/\x/3072%n=b/\1+x/1536%2=lp/\2+x/768%2=(j:Int)/\Ok1 p b n/\1<=lp/\lp<=2/\2<=j/\j<=3:=by
 have n0:1<=1+x%3/\1+x%3<=3:=by lia
 generalize 1+x%3=n at n0;have p0:=qk (x/3) (show n+1≠0 by lia);have p1:=qg (x/3) (show 0<n+1 by lia);have b0:=qk (x/3072) (show n≠0 by lia);have b1:=qg (x/3072) (show 0<n by lia);exact⟨n,_,_,_,(2+x/768%2).toNat,rfl,rfl,rfl,rfl,by lia,⟨n0.1,n0.2,p0,by lia,b0,b1⟩,by lia,by lia,by lia,by lia⟩
theorem zV(y:Int):∃m:Int,1+y%4=m/\1<=m/\m<=4:=⟨_,rfl,by lia,by lia⟩
theorem AAp(s bd a b n bm c y:Int):Ir (.moon s bd [(1,a,b,n)] bm [(1,c,0,y)])=sg "moon "++nW s++sg " "++nW bd++sg " +"++nW a++sg ","++nW b++sg ","++nW n++sg " / "++nW bm++sg " +"++nW c++sg ",0,"++nW y:=by
 have e:Ir (.moon s bd [(1,a,b,n)] bm [(1,c,0,y)])=sg "moon"++32::(nW s++32::(nW bd++32::(tW (1,a,b,n)++32::(sg "/"++32::(nW bm++32::tW (1,c,0,y)))))):=rfl;have e1:sg "moon "=sg "moon"++[32]:=by ac_rfl
 have e2:sg " +"=[32,43]:=by ac_rfl
 have e3:sg ","=[44]:=by ac_rfl
 have e4:sg ",0,"=44::(nW 0++[44]):=by ac_rfl
 have e5:sg " / "=32::(sg "/"++[32]):=by ac_rfl
 rw[e,e1,e2,e3,e4,e5,bsg];simp[tW,FJ]
theorem ACl(s lp a b n:Int)(ls:List Int):Ir (.sun s ls lp [(1,a,b,n)])=sg "sun "++nW s++sg " "++FJ 44 (ls.map nW)++sg " leap "++nW lp++sg " +"++nW a++sg ","++nW b++sg ","++nW n:=by
 have e:Ir (.sun s ls lp [(1,a,b,n)])=sg "sun"++32::(nW s++32::(FJ 44 (ls.map nW)++32::(sg "leap"++32::(nW lp++32::tW (1,a,b,n))))):=rfl;have e1:sg "sun "=sg "sun"++[32]:=by ac_rfl
 have e2:sg " +"=[32,43]:=by ac_rfl
 have e3:sg ","=[44]:=by ac_rfl
 have e5:sg " leap "=32::(sg "leap"++[32]):=by ac_rfl
 rw[e,e1,e2,e3,e5,bsg];simp[tW,FJ]
noncomputable def ACu(H:Hp)(p:Addr)(g:Bu):Prop:=OkC g/\H p=some (.tup [.str (sW (Ir g)),.int (dyC g)])
noncomputable def rZ:Sp:=fun vs H Q _=>Ex2 fun(a s:Int)=>An3 (vs=[.int a,.int s]) (Sm s) (∀g p H',Az H H'->ACu H' p g->Q (.ref p) H')
noncomputable def yd(K:Fr):Sp:=fun vs H Q _=>Ex2 fun(a:Addr) (ns:List Int)=>An4 (vs=[.ref a]) (SqL K H a (ns.map V.int)) (ns.length<=63) (∀g p H',Az H H'->ACu H' p g->Q (.ref p) H')
noncomputable def sI:Sp:=fun vs H Q _=>Ex2 fun(x:Int) (g:Bu)=>An3 (vs=[.int x,.int (dyC g)]) (OkC g) (∀a p z H',Az H H'->Nr g H' a p z 1->Q (.ref a) H')
noncomputable def pkI:Nat->PK
 | 1=>.an
 | 2=>.or
 | 3=>.bu
 | 4=>.ul
 | 6=>.up
 | 7=>.un
 | 8=>.ne
 | _=>.ti
noncomputable def Gg(i:Nat)(k:Int)(p q:PT):PT:=match i with
 | 0=>.no p
 | 5=>.la k p
 | 10=>.nt k p q
 | 11=>.ev (k.natAbs:Int) p k
 | i=>.pr (pkI i) p q
structure WdK(i:Nat)(k:Int):Prop where
 i1:i<=11
 sk:Sm k
 k3:i≠0->i≠5-> -3<=k/\k<=3/\k≠0
noncomputable def yE:Sp:=fun vs H Q _=>Ex4 fun(i:Nat) (k:Int) (p q:PT)=>An5 (vs=[.int (i:Int),.int k,.str (sW p.tx),.str (sW q.tx)]) (WdK i k) (p.tx.length<=3000) (q.tx.length<=3000) (∀H',Az H H'->Q (.str (sW (Gg i k p q).tx)) H')
noncomputable def rP(K:Fr):Sp:=fun vs H Q _=>Ex3 fun(l:Addr) (cs:List Int) (g:Bu)=>An5 (vs=[.ref l,.int (dyC g)]) (SqL K H l (cs.map V.int)) (cs.length<=4) (OkC g) (∀a p z H',Az H H'->Nr g H' a p z 7->Q (.ref a) H')
theorem xY:sW (PT.tx (.lf true))=Str.ofString "all":=by ac_rfl
theorem q9:sW (PT.tx (.lf false))=Str.ofString "none":=by ac_rfl
theorem ACN:Ht (sg "c"):=⟨by ac_rfl,by ac_rfl,by ac_rfl⟩
theorem wF(m d:Option Int):sg "date c "++FQ m++sg " "++FQ d=PT.tx (.date (sg "c") m d none):=by
 rw[PT.tx_date0,show sg "date c "=sg "date "++sg "c"++sg " " by ac_rfl];rfl
noncomputable def moS:List (Option Int):=[none,some 1,some 2,some 3,some 1,some 2]
noncomputable def daS:List (Option Int):=[none,some 1,some 2,some 3,some 4,some (-1),some (-2),some (-4)]
theorem nP{o:Option Int}(h:o∈moS++daS):PT.okS o/\o≠some 0/\(FQ o).length<=2:=by
 have:=(by ac_rfl:∀o∈moS++daS,(o.all fun i=>decide (-10<i/\i<10))=true/\o≠some 0/\(FQ o).length<=2) o h;refine⟨fun i e=>?_,this.2⟩;rw[e] at this;have:=jd8 this.1;exact Ij (by lia) (by lia)
theorem ACP{o:Option Int}(h:o∈moS):okM o:=fun i e=>by
 have:=(by decide:∀o∈moS,(o.all fun i=>decide (1<=i))=true) o h;rw[e] at this;exact jd8 this
theorem qK{os:List (Option Int)}{k:Int}(h0:0<=k)(h1:k<(os.length:Int)):∃o,o∈os/\atI (os.map fun o=>V.str (sW (FQ o))) k=some (.str (sW (FQ o))):=by
 have hk:k.toNat<os.length:=by lia
 refine⟨os[k.toNat],jj8 hk,?_⟩;have:=Dm (xs:=os.map fun o=>V.str (sW (FQ o))) (j:=k.toNat) (v:=.str (sW (FQ os[k.toNat]))) (by rw[xo,qm hk];rfl)
 rwa [show ((k.toNat:Nat):Int)=k by lia] at this
noncomputable def k6:List Int:=[-3,-2,-1,1,2,3]
theorem qL(x:Int):∃k:Int,(-3<=k/\k<=3/\k≠0)/\atI (k6.map V.int) (x%6)=some (.int k):=by
 have a0:=qk x (show (6:Int)≠0 by decide);have a1:=qg x (show (0:Int)<6 by decide);have hk:(x%6).toNat<k6.length:=by show _<6;lia
 refine⟨k6[(x%6).toNat],(by decide:∀k∈k6,-3<=k/\k<=3/\k≠0) _ (jj8 hk),?_⟩;have:=Dm (xs:=k6.map V.int) (j:=(x%6).toNat) (v:=.int k6[(x%6).toNat]) (by rw[xo,qm hk];rfl)
 rwa [show (((x%6).toNat:Nat):Int)=x%6 by lia] at this
theorem ACO{k:Int}(h1: -3<=k)(h2:k<=3):(nW k).length<=2:=by
 obtain rfl | rfl | rfl | rfl | rfl | rfl | rfl:k= -3\/k= -2\/k= -1\/k=0\/k=1\/k=2\/k=3:=by lia
 all_goals ac_rfl
noncomputable def soS:List Str:=[Str.ofString "",Str.ofString "and",Str.ofString "or",Str.ofString "but",Str.ofString "unlike",Str.ofString "",Str.ofString "upon",Str.ofString "until",Str.ofString "near",Str.ofString "till"]
variable{q:PT}
theorem ABw{i:Nat}{k:Int}(h:i<=11)(h0:i≠0)(h5:i≠5)(h10:i≠10)(h11:i≠11):Gg i k p q=.pr (pkI i) p q/\atI (soS.map V.str) (i:Int)=some (.str (Str.ofString (pkI i).s)):=by
 match i,h with
 | 1,_=>exact⟨rfl,by ac_rfl⟩
 | 2,_=>exact⟨rfl,by ac_rfl⟩
 | 3,_=>exact⟨rfl,by ac_rfl⟩
 | 4,_=>exact⟨rfl,by ac_rfl⟩
 | 6,_=>exact⟨rfl,by ac_rfl⟩
 | 7,_=>exact⟨rfl,by ac_rfl⟩
 | 8,_=>exact⟨rfl,by ac_rfl⟩
 | 9,_=>exact⟨rfl,by ac_rfl⟩
 | n+10,h=>exact absurd h (by lia)
theorem kO(w:PK)(p q:PT):PT.tx (.pr w p q)=sg "("++p.tx++sg " "++sg w.s++sg " "++q.tx++sg ")":=by
 rw[PT.tx_pr,PT.pk_t];simp
theorem kW(k:Int)(p:PT)(d:Int):PT.tx (.ev k p d)=sg "(every "++nW k++sg " of "++p.tx++sg " from "++nW d++sg ")":=by
 rw[PT.tx_ev];simp
noncomputable def Xx(i:Nat)(k n1:Int)(b1:Nat)(n2:Int)(b2:Nat)(d:Int):Prop:=match i with
 | 0=>¬On n1 b1 d=true
 | 1=>On n1 b1 d=true/\On n2 b2 d=true
 | 2=>On n1 b1 d=true\/On n2 b2 d=true
 | 3=>On n1 b1 d=true/\¬On n2 b2 d=true
 | 4=>On n1 b1 d≠On n2 b2 d
 | 5=>On n1 b1 (d-k)=true
 | 6=>GUp (On n1 b1) (On n2 b2) d
 | 7=>GUn (On n1 b1) (On n2 b2) d
 | 8=>GNr (On n1 b1) (On n2 b2) d
 | 9=>GTi (On n1 b1) (On n2 b2) d
 | 10=>Kth n1 b1 n2 b2 k d
 | _=>Evr n1 b1 (k.natAbs:Int) k d
theorem cX{i:Nat}{k:Int}(h:WdK i k)(hp:p.ok)(hq:q.ok):(Gg i k p q).ok:=by
 unfold Gg;split
 ·exact hp
 ·exact⟨h.sk,hp⟩
 ·exact⟨h.sk,hp,hq,(h.k3 (by decide) (by decide)).2.2⟩
 ·have:=h.k3 (by decide) (by decide);exact⟨Ij (by lia) (by lia),h.sk,hp,by lia,by lia⟩
 ·exact⟨hp,hq⟩
theorem cZ{i:Nat}{k:Int}(hp:p.kn)(hq:q.kn):(Gg i k p q).kn:=by
 unfold Gg;split
 ·exact hp
 ·exact hp
 ·exact⟨hp,hq⟩
 ·exact hp
 ·exact⟨hp,hq⟩
theorem cY{i:Nat}{k:Int}:(Gg i k p q).lv+(Gg i k p q).br<=p.lv+p.br+(q.lv+q.br)+1:=by
 unfold Gg;split<;>simp only[PT.lv,PT.br]<;>lia
theorem zc{a b c:Int}(a0:0<a)(b0:0<b)(c0:0<c)(d0:0<d)(h1:a∣c)(h2:b∣d):Bx a b∣Bx c d:=(Bp a0 b0).2.2.2.2.1 _ (jj2 h1 (Bp c0 d0).2.1) (jj2 h2 (Bp c0 d0).2.2.1)
theorem cW{i:Nat}{k:Int}(h:WdK i k)(t1:p.tx.length<=80*(p.lv+p.br))(t2:q.tx.length<=80*(q.lv+q.br)):(Gg i k p q).tx.length<=80*((Gg i k p q).lv+(Gg i k p q).br):=by
 have kl:=Fl h.sk;have c1:(sg "(").length=1:=by ac_rfl
 have c2:(sg ")").length=1:=by ac_rfl
 have c3:(sg " ").length=1:=by ac_rfl
 have c4:(sg " of ").length=4:=by ac_rfl
 have c5:(sg " from ").length=6:=by ac_rfl
 have c6:(sg "(not ").length=5:=by ac_rfl
 have c7:(sg " later ").length=7:=by ac_rfl
 have c8:(sg "(every ").length=7:=by ac_rfl
 unfold Gg;split
 ·rw[PT.tx_no];simp only[zk,PT.lv,PT.br];lia
 ·rw[PT.tx_la];simp only[zk,PT.lv,PT.br];lia
 ·rw[PT.tx_nt];simp only[zk,PT.lv,PT.br];lia
 ·have:=h.k3 (by decide) (by decide);have e1:=ACO (k:=k) (by lia) (by lia);have e2:=ACO (k:=(k.natAbs:Int)) (by lia) (by lia);rw[kW];simp only[zk,PT.lv,PT.br];lia
 ·generalize pkI _=w;have:(sg w.s).length<=10:=by cases w<;>ac_rfl
  rw[kO];simp only[zk,PT.lv,PT.br];lia
theorem NP.two{i:Nat}{k:Int}{z' w:Int}{j j':Nat}(hg:SmC g)(A:NP g p z j)(B:NP g q z' j')(h:WdK i k)(h1:i≠11->w=Bx z z')(h2:i=11->w=z*(k.natAbs:Int))(hw:w<=120):NP g (Gg i k p q) w (j+j'+1):=by
 have a0:=A.z0;have b0:=B.z0;have n1:=PT.sz_pos hg A.ok;have n2:=PT.sz_pos hg B.ok;have f:=Bp (show 0<z by lia) (show 0<z' by lia);have m1:=A.mn;have m2:=B.mn;have lz:Bx (p.sz g) (q.sz g)∣Bx z z':=zc n1 n2 (by lia) (by lia) A.sz B.sz;have up:p.sz g∣Bx z z':=jj2 A.sz f.2.1;have w0:1<=w:=by
  by_cases c:i=11
  ·have:=h.k3 (by lia) (by lia);have:1*1<=z*(k.natAbs:Int):=vb a0 (by lia) (by decide) (by lia);rw[h2 c];lia
  ·rw[h1 c];exact f.1
 refine⟨cX h A.ok B.ok,cZ A.kn B.kn,cW h A.tl B.tl,zv cY (by lia),?_,w0,hw⟩;unfold Gg;split
 ·rw[h1 (by decide)];exact up
 ·rw[h1 (by decide)];exact up
 ·rw[h1 (by decide)];exact lz
 ·rw[h2 rfl];exact Int.mul_dvd_mul_right _ A.sz
 ·rw[h1 (by assumption)];exact lz
theorem NP.s1{j:Nat}(hg:SmC g)(A:NP g p z j):0<p.sz g/\p.sz g<=120:=⟨PT.sz_pos hg A.ok,jn0 (jk8 (by have:=A.z0;lia) A.sz) A.z1⟩
theorem NP.fine(hg:SmC g)(A:NP g p z 7):p.fine g:=by
 have:=A.tl;have:=A.mn;have:=A.s1 hg;have:=PT.lv_br p;exact⟨A.ok,A.kn,by lia,by lia,by lia,by lia⟩
theorem NP.fine2{i:Nat}{k:Int}{z':Int}(hg:SmC g)(A:NP g p z 7)(B:NP g q z' 7)(h:WdK i k):(Gg i k p q).fine g:=by
 have t:=cW h A.tl B.tl;have m:=cY (i:=i) (k:=k) (p:=p) (q:=q);have:=A.mn;have:=B.mn;have a:=A.s1 hg;have b:=B.s1 hg;have:=PT.lv_br (Gg i k p q);refine⟨cX h A.ok B.ok,cZ A.kn B.kn,by lia,by lia,by lia,?_⟩;have l:Bx (p.sz g) (q.sz g)<=150000:=by
  have:=jk8 (jq1 a.1 b.1) ((Bp a.1 b.1).2.2.2.2.1 _ (Int.dvd_mul_right _ _) (Int.dvd_mul_left _ _));have:p.sz g*q.sz g<=120*120:=vb a.2 b.2 (by lia) (by decide);lia
 unfold Gg;split
 ·show p.sz g<=_;lia
 ·show p.sz g<=_;lia
 ·exact l
 ·have:=h.k3 (by decide) (by decide);have:p.sz g*(k.natAbs:Int)<=120*3:=vb a.2 (by lia) (by lia) (by decide);show p.sz g*(k.natAbs:Int)<=_;lia
 ·exact l
theorem xZ{i:Nat}{k:Int}(h:WdK i k)(n1:0<p.sz g)(n2:0<q.sz g)(lt:p.bt g<2^(p.sz g).toNat)(r:(Gg i k p q).rl g c)(d:Int):On ((Gg i k p q).sz g) c d=true<->Xx i k (p.sz g) (p.bt g) (q.sz g) (q.bt g) d:=by
 have fl:=Bp n1 n2;have bo:∀{f:Bool->Bool->Bool},Bo f (p.sz g) (p.bt g) (q.sz g) (q.bt g) (Bx (p.sz g) (q.sz g)) c->On (Bx (p.sz g) (q.sz g)) c d=f (On (p.sz g) (p.bt g) d) (On (q.sz g) (q.bt g) d):=fun B=>B.on n1 n2 fl.1 fl.2.1 fl.2.2.1 d;have i1:=h.i1
 match i,h,i1,r with
 | 0,_,_,r=>
  show On (p.sz g) c d=true<->¬On (p.sz g) (p.bt g) d=true;rw[Y4 n1 r.2];cases On (p.sz g) (p.bt g) d<;>simp
 | 1,_,_,r=>exact(by rw[bo r,yb]:On (Bx (p.sz g) (q.sz g)) c d=true<->_)
 | 2,_,_,r=>exact(by rw[bo r,ji3]:On (Bx (p.sz g) (q.sz g)) c d=true<->_)
 | 3,_,_,r=>
  show On (Bx (p.sz g) (q.sz g)) c d=true<->_/\¬_;rw[bo r];unfold bn;rw[yb,jm2,jj7]
 | 4,_,_,r=>
  show On (Bx (p.sz g) (q.sz g)) c d=true<->_≠_;rw[bo r];cases On (p.sz g) (p.bt g) d<;>cases On (q.sz g) (q.bt g) d<;>simp
 | 5,_,_,r=>
  obtain rfl:c=ltr (p.sz g) (p.bt g) k:=r;show On (p.sz g) (ltr (p.sz g) (p.bt g) k) d=true<->_;unfold ltr;rw[Jz n1 lt];exact Iff.rfl
 | 6,_,_,r=>exact(r d).trans kE
 | 7,_,_,r=>exact(r d).trans cV
 | 8,_,_,r=>exact r d
 | 9,_,_,r=>exact r d
 | 10,_,_,r=>exact r d
 | 11,_,_,r=>exact r d
noncomputable def Zd(d:Int):Prop:= -9000000000000000000000000000000000000010<=d/\d<=9000000000000000000000000000000000000010
theorem Zd.sm(h:Zd d)(h1:d-1000<=e)(h2:e<=d+1000):Sm e:=by
 unfold Zd at h;unfold Sm;have:(10:Nat)^40=10000000000000000000000000000000000000000:=by decide
 lia
section
variable(K:Fr)(cs:Cs)
structure Asks(H:Hp)(x:Addr)(nm:Wd)(n b:Nat):Prop where
 d:∃c j m,Dk K cs H x c j m/\j<=50/\m nm=some (n,b)
 nm:Ht nm
 n0:0<n
 n1:n<=400
noncomputable def ADs(R:(Int->Bool)->Int->Int->Prop)(o:Int->Bool)(d:Int):Option Int->Prop
 | none=>∀e,o e=false
 | some r=>R o d r
noncomputable def dS(b:Bool):String:=if b then "next" else "last"
noncomputable def dR(b:Bool):(Int->Bool)->Int->Int->Prop:=if b then Ld else Jc
noncomputable def ABW:Sp:=fun vs H Q _=>Ex5 fun(x:Addr) (y:Str) (d:Int) (n b:Nat)=>An4 (vs=[.ref x,.str y,.int d]) (Asks K cs H x (cpl y) n b) (Sm d) (∀H',Az H H'->Q (.bl (On (n:Int) b d)) H')
noncomputable def yX:Sp:=fun vs H Q _=>Ex6 fun(x:Addr) (w:Bool) (y:Str) (d:Int) (n b:Nat)=>An4 (vs=[.ref x,.str (dS w),.str y,.int d]) (Asks K cs H x (cpl y) n b) (Zd d) (∀o H',Az H H'->ADs (dR w) (On (n:Int) b) d o->(∀r,o=some r->d-400<r/\r<d+400)->Q (oI o) H')
noncomputable def yc:Sp:=fun vs H Q _=>Ex6 fun(x:Addr) (y:Str) (d e:Int) (n b:Nat)=>An6 (vs=[.ref x,.str y,.int d,.int e]) (Asks K cs H x (cpl y) n b) (Sm d) (Sm e) (Sm (e-d)) (∀H',Az H H'->Q (.int (CC (n:Int) b e-CC (n:Int) b d)) H')
noncomputable def ABi:Sp:=fun vs H Q _=>Ex7 fun(x:Addr) (i:Nat) (d:Int) (n1 b1 n2 b2:Nat)=>An9 (vs=[.ref x,.int (i:Int),.int d]) (6<=i) (i<=9) (Asks K cs H x (sg "r") n1 b1) (Asks K cs H x (sg "s") n2 b2) (Zd d) (Zd (d-1)) (Zd (d+1)) (∀v H',Az H H'->(v=true<->Xx i 0 (n1:Int) b1 (n2:Int) b2 d)->Q (.bl v) H')
noncomputable def yV:Sp:=fun vs H Q _=>Ex8 fun(x:Addr) (i:Nat) (k d:Int) (n1 b1 n2 b2:Nat)=>wB (vs=[.ref x,.int (i:Int),.int k,.int d]) (WdK i k) (-1000000000000000000000000000000<=k) (k<=1000000000000000000000000000000) (Asks K cs H x (sg "r") n1 b1) (Asks K cs H x (sg "s") n2 b2) (Zd d) (Zd (d-1)) (Zd (d+1)) (∀v H',Az H H'->(v=true<->Xx i k (n1:Int) b1 (n2:Int) b2 d)->Q (.bl v) H')
end
theorem ADp(nm:Wd)(d:Int):Row.T (.on nm d)=sg "on "++nm++sg " "++nW d:=by
 have e:Row.T (.on nm d)=sg "on"++32::(nm++32::nW d):=rfl;rw[e,show sg "on "=sg "on"++[32] by ac_rfl,bsg];simp
noncomputable def vJ(w:Bool)(nm:Wd)(d:Int):Row:=if w then .next nm d else .last nm d
theorem ACm(w:Bool)(nm:Wd)(d:Int):Row.T (vJ w nm d)=sg (dS w)++sg " "++nm++sg " "++nW d:=by
 rw[bsg];cases w
 ·have e:Row.T (.last nm d)=sg "last"++32::(nm++32::nW d):=rfl;rw[show vJ false nm d=.last nm d from rfl,e];simp[dS]
 ·have e:Row.T (.next nm d)=sg "next"++32::(nm++32::nW d):=rfl
  rw[show vJ true nm d=.next nm d from rfl,e]
  simp[dS]
theorem ACn(nm:Wd)(d e:Int):Row.T (.count nm d e)=sg "count "++nm++sg " "++nW d++sg " "++nW e:=by
 have e':Row.T (.count nm d e)=sg "count"++32::(nm++32::(nW d++32::nW e)):=rfl;rw[e',show sg "count "=sg "count"++[32] by ac_rfl,bsg];simp
theorem Qw{nm:Wd}(h:Ht nm)(hd:Sm d):∀w∈[Wk.ru nm,.nu d],w.ok:=fun w hw=>by
 simp only[qq,yi,or_false] at hw;rcases hw with rfl | rfl
 ·exact h
 ·exact hd
theorem tR{nm:Wd}(h:Ht nm)(hd:Sm d)(he:Sm e):∀w∈[Wk.ru nm,.nu d,.nu e],w.ok:=fun w hw=>by
 simp only[qq,yi,or_false] at hw;rcases hw with rfl | rfl | rfl
 ·exact h
 ·exact hd
 ·exact he
theorem Wz{nm:Wd}(h:Ht nm)(f:p.fine g):(Row.rule nm p).ok:=fun w hw=>by
 simp only[Row.ws,qq,yi,or_false] at hw;rcases hw with rfl | rfl
 ·exact h
 ·obtain⟨_,t,_⟩:=PT.rdy f.ok f.tl f.dp;exact⟨f.tl,fun c hc=>Fq.mp t.1 c (by rw[Bh];exact hc)⟩
theorem AAa(o:OkC g):(Row.cal g).ok:=fun w hw=>by
 simp only[Row.ws,qq,yi,or_false] at hw;obtain⟨_,l,t⟩:=o.tx;rcases hw with rfl | rfl
 ·exact ACN
 ·exact⟨by lia,fun c hc=>Fq.mp t.1 c (by rw[Bh];exact hc)⟩
theorem fG{r:Int}(h:Sm r):(sW (nW r)).length<=640/\PySem.intText? (sW (nW r))=some r:=by
 have e:=Om (z:=sW (nW r)) (by rw[Bh];exact(JL h).1);rw[Bh,(JL h).2] at e;have:=Fl h;exact⟨by rw[DR];lia,e⟩
theorem uY{r:Int}(h:Sm r):sW (nW r)≠Str.ofString "never":=fun z=>by
 have z:=yk cpl z;rw[Bh] at z;have:=Ib h 110 (by rw[z];ac_rfl);lia
variable{K:Fr}{cs:Cs}{H H':Hp}{x:Addr} in
theorem Asks.same{nm:Wd}{n:Nat}(A:Asks K cs H x nm n b)(s:Az H H'):Asks K cs H' x nm n b:=by
 obtain⟨⟨c,j,m,d,h1,h2⟩,h3,h4,h5⟩:=A;exact⟨⟨c,j,m,d.same s,h1,h2⟩,h3,h4,h5⟩
theorem ZC{k p:Int}(o:On n1 b1 d=true)(h1:Jc (On n2 b2) d p)(h2:Ld (On n2 b2) (d+1) e)(k0:k≠0):Kth n1 b1 n2 b2 k d<->if 0<k then CC n1 b1 (d+1)-CC n1 b1 p=k else CC n1 b1 e-CC n1 b1 d= -k:=by
 have no:∀r,p<r->r<e->On n2 b2 r=false:=fun r a c=>by
  rcases je8 d r with z | z
  ·exact h2.2.2 r (by lia) c
  ·exact h1.2.2 r a z
 have l1:=h1.1;have l2:=h2.1;constructor
 ·rintro⟨_,b',e',g1,g2,g3,g4,g5,g6,g7⟩;obtain⟨rfl,rfl⟩:=lO g1 g2 g3 g4 g5 h1.2.1 h2.2.1 l1 (by lia) no;split
  ·exact g6 (by assumption)
  ·exact g7 (by lia)
 ·intro z;refine⟨o,p,e,h1.2.1,h2.2.1,l1,by lia,no,fun c=>?_,fun c=>?_⟩
  ·rwa [xh c] at z
  ·rwa [xk (by lia)] at z
theorem xN(ns:List Int){i j:Nat}{lo hi:Int}(hl:lo=(i:Int))(hh:hi=(j:Int))(h:j<=i+4):∃cs:List Int,HW (ns.map V.int) (some lo) (some hi)=cs.map V.int/\cs.length<=4:=by
 subst hl hh;refine⟨(ns.drop (min i ns.length)).take (min j ns.length-min i ns.length),?_,by rw[jc0];omega⟩;unfold HW;rw[HT.sIx_nat,HT.sIx_nat,js,List.map_take,List.map_drop]
theorem five{i:Nat}{k:Int}{a b:Bool}(h1:On n1 b1 d=a)(h2:On n2 b2 d=b)(h:i<5):∃v,atI [V.bl !a,V.bl (a&&b),V.bl (a||b),V.bl (a&&!b),V.bl !decide (V.bl a=V.bl b)] (i:Int)=some (V.bl v)/\(v=true<->Xx i k n1 b1 n2 b2 d):=by
 subst h1 h2
 match i,h with
 | 0,_=>exact⟨_,rfl,by unfold Xx;cases On n1 b1 d<;>simp⟩
 | 1,_=>exact⟨_,rfl,by unfold Xx;simp⟩
 | 2,_=>exact⟨_,rfl,by unfold Xx;simp⟩
 | 3,_=>exact⟨_,rfl,by unfold Xx;simp⟩
 | 4,_=>exact⟨_,rfl,by unfold Xx;simp⟩
 | n+5,h=>exact absurd h (by lia)
theorem ACj(x:Int):∃w:Nat,(w=0\/w=5)/\atI [V.int 0,V.int 5] (x%2)=some (.int (w:Int)):=by
 rcases(by lia:x%2=0\/x%2=1) with e | e<;>rw[e]
 ·exact⟨0,.inl rfl,rfl⟩
 ·exact⟨5,.inr rfl,rfl⟩
theorem T2{s h x z:Wd}(e:s=h++32::(x++[32])):h++32::(x++32::z)=s++z:=by rw[e];simp
theorem ACM:Ht (sg "r"):=⟨by ac_rfl,by ac_rfl,by ac_rfl⟩
theorem ACL:Ht (sg "s"):=⟨by ac_rfl,by ac_rfl,by ac_rfl⟩
theorem ACJ:Ht (sg "w"):=⟨by ac_rfl,by ac_rfl,by ac_rfl⟩
theorem ADq(g:Bu):Row.T (.cal g)=sg "calendar c "++Ir g:=T2 (show sg "calendar c "=cpl (Str.ofString "calendar")++32::(sg "c"++[32]) by ac_rfl)
theorem ADn(p:PT):Row.T (.rule (sg "r") p)=sg "rule r "++p.tx:=T2 (show sg "rule r "=cpl (Str.ofString "rule")++32::(sg "r"++[32]) by ac_rfl)
theorem ADm(p:PT):Row.T (.rule (sg "s") p)=sg "rule s "++p.tx:=T2 (show sg "rule s "=cpl (Str.ofString "rule")++32::(sg "s"++[32]) by ac_rfl)
theorem ADl(p:PT):Row.T (.rule (sg "w") p)=sg "rule w "++p.tx:=T2 (show sg "rule w "=cpl (Str.ofString "rule")++32::(sg "w"++[32]) by ac_rfl)
theorem ADo(d:Int):Row.T (.on (sg "w") d)=sg "on w "++nW d:=T2 (show sg "on w "=cpl (Str.ofString "on")++32::(sg "w"++[32]) by ac_rfl)
noncomputable def rwS(g:Bu)(p q:PT):List Row:=[.cal g,.rule (sg "r") p,.rule (sg "s") q]
noncomputable def cS(g:Bu):Nat->Option Bu
 | 0=>none
 | _=>some g
noncomputable def mS(g:Bu)(p q:PT):Nat->Wd->Option (Nat×Nat)
 | 0=>fun _=>none
 | 1=>fun _=>none
 | 2=>setM (fun _=>none) (sg "r") ((p.sz g).toNat,p.bt g)
 | _=>setM (setM (fun _=>none) (sg "r") ((p.sz g).toNat,p.bt g)) (sg "s") ((q.sz g).toNat,q.bt g)
section
variable{K:Fr}{cs:Cs}{H:Hp}{x:Addr}{g:Bu}{p q:PT}
theorem yt{i:Nat}{R:Row}(o:OkC g)(f1:p.fine g)(f2:q.fine g)(h:(rwS g p q)[i]?=some R):R.ok:=by
 rcases qq.mp (zh h) with rfl | h
 ·exact AAa o
 rcases qq.mp h with rfl | h
 ·exact Wz ACM f1
 rw[xc.mp h];exact Wz ACL f2
theorem tK{i:Nat}{R:Row}(o:OkC g)(f1:p.fine g)(f2:q.fine g)(h:(rwS g p q)[i]?=some R)(k:∀H',Kd H H'->Dk K cs H' x (cS g (i+1)) i (mS g p q (i+1))->Q (.str "ok") H'):ACo K cs H x (cS g i) (i-1) (mS g p q i) Q R:=by
 match i,h with
 | 0,h=>
  cases h;exact⟨o,rfl,k⟩
 | 1,h=>
  cases h;exact⟨g,rfl,o.cy.1,f1,fun H' k' d _=>k H' k' d⟩
 | 2,h=>
  cases h;exact⟨g,rfl,o.cy.1,f2,fun H' k' d _=>k H' k' d⟩
 | n+3,h=>cases h
theorem Dk.lt{c:Option Bu}{j n:Nat}{m:Wd->Option (Nat×Nat)}{nm:Wd}(d:Dk K cs H x c j m)(e:m nm=some (n,b)):b<2^n:=by
 obtain⟨_,_,_,_,_,_,_,_,_,h⟩:=d.ex;obtain⟨y,_,R⟩:=h nm n b e;have:=R.lt
 rwa [xp] at this
end
theorem SqL.kd(k:Kd H H'){xs:List V}(h:SqL K H x xs):SqL K H' x xs:=by
 rcases h with (h | ⟨o,h⟩) | h
 ·exact .inl (.inl (k.lst h))
 ·exact .inl (.inr ⟨o,k _ _ (fun _ z=>nomatch z) h⟩)
 ·exact .inr h
theorem ACX(b:Bool):inV (V.str (yn b)) [V.str (Str.ofString "yes"),V.str (Str.ofString "no")]=true:=by cases b<;>ac_rfl
theorem AAz{b v:Bool}(e:b=v):decide (V.bl (decide (V.str (yn b)=V.str (Str.ofString "yes")))=V.bl v)=true:=by
 subst e;cases b<;>ac_rfl
theorem U9{d:Option Addr}{vs:Array Value}{n:Nat}{s:Array (Option Value)}(h:K.lookup a=some ⟨.type "tuple",d,.seq vs n,s⟩)(l:vs.size<=5)(r:Vals xs vs.toList)(H:Hp):SqT K H a xs:=.inr ⟨_,_,_,h,rfl,rfl,zv l (by decide),r⟩
theorem pD{P:Program}{w:World}{mg:Str->Option Value}{t:Nat->Addr}{a0 a2 a6 a7 a8 a10:Addr}{x0 x1 x2 x3 x4 x5 x6 x7 x8 x9 x10 x11 x12:Tok}{d0 d1 d2 d3 d4 d5:Option Addr}{n0 n1 n2 n3 n4 n5:Nat}{s0 s1 s2 s3 s4 s5:Array (Option Value)}(m:mg "FORMS"=some (.ref a))(d:KD P w K a (bZ t))(e0:t 0=a0)(e2:t 2=a2)(e6:t 6=a6)(e7:t 7=a7)(e8:t 8=a8)(e10:t 10=a10)
 (h0:K.lookup a0=some ⟨.type "tuple",d0,.seq #[.str "NAME" x0,.str "TEXT" x1] n0,s0⟩)(h2:K.lookup a2=some ⟨.type "tuple",d1,.seq #[.str "NAME" x2,.str "TEXT" x3] n1,s1⟩)(h6:K.lookup a6=some ⟨.type "tuple",d2,.seq #[.str "RULE" x4,.str "NUMBER" x5] n2,s2⟩)(h7:K.lookup a7=some ⟨.type "tuple",d3,.seq #[.str "RULE" x6,.str "NUMBER" x7] n3,s3⟩)(h8:K.lookup a8=some ⟨.type "tuple",d4,.seq #[.str "RULE" x8,.str "NUMBER" x9] n4,s4⟩)(h10:K.lookup a10=some ⟨.type "tuple",d5,.seq #[.str "RULE" x10,.str "NUMBER" x11,.str "NUMBER" x12] n5,s5⟩):qZ P w K mg a t:=⟨m,d,fun R H=>by
 subst e0 e2 e6 e7 e8 e10;cases R
 ·exact U9 (xs:=[V.str "NAME",V.str "TEXT"]) h0 (by show 2<=5;decide) (.cons ⟨_,rfl⟩ (.cons ⟨_,rfl⟩ .nil)) H
 ·exact U9 (xs:=[V.str "NAME",V.str "TEXT"]) h2 (by show 2<=5;decide) (.cons ⟨_,rfl⟩ (.cons ⟨_,rfl⟩ .nil)) H
 ·exact U9 (xs:=[V.str "RULE",V.str "NUMBER"]) h6 (by show 2<=5;decide) (.cons ⟨_,rfl⟩ (.cons ⟨_,rfl⟩ .nil)) H
 ·exact U9 (xs:=[V.str "RULE",V.str "NUMBER"]) h7 (by show 2<=5;decide) (.cons ⟨_,rfl⟩ (.cons ⟨_,rfl⟩ .nil)) H
 ·exact U9 (xs:=[V.str "RULE",V.str "NUMBER"]) h8 (by show 2<=5;decide) (.cons ⟨_,rfl⟩ (.cons ⟨_,rfl⟩ .nil)) H
 ·exact U9 (xs:=[V.str "RULE",V.str "NUMBER",V.str "NUMBER"]) h10 (by show 3<=5;decide) (.cons ⟨_,rfl⟩ (.cons ⟨_,rfl⟩ (.cons ⟨_,rfl⟩ .nil))) H⟩
end Fw
namespace Fw
open PySem L2 PyProof.Rows
local macro_rules | `(tactic| symm)=> `(tactic| (repeat (first | fail "r" | ((with_reducible refine' Fw.dh ?hc1 ?hc2 ?hc3 ?_);(case hc1=>assumption);(case hc2=>assumption);(case hc3=>decide)) | with_reducible refine Fw.Yt ?_)))
local macro_rules | `(tactic| exists $e)=> `(tactic| (refine $e;symm))
local macro_rules | `(tactic| walk_at"mm")=> `(tactic| (repeat (first | exact List.Mem.head _ | refine List.Mem.tail _ ?_)))
local macro_rules | `(tactic| walk_at"i2")=> `(tactic| (intro R1 R2 lz q hx rc;have fl:=Bp R1.n0 R2.n0;symm;obtain⟨C,dr,fs,m,hr,l1,_⟩:=R1.mt;refine⟨_,C,dr,fs,_,m _,rfl,hr,l1,?_⟩;symm;refine⟨jf7,_,_,_,rfl,R1,fun p hp=>?_⟩;symm;obtain⟨C',dr',fs',m',hr',l1',_⟩:=R2.mt;refine⟨_,C',dr',fs',_,m' _,rfl,hr',l1',?_⟩;symm;refine⟨jf7,_,_,_,rfl,R2,fun p' hp'=>?_⟩;symm;refine⟨p,p',_,_,_,_,rfl,⟨SqT.of hp,SqT.of hp',R1.n0,R2.n0,R1.n1,R2.n1,R1.lt,R2.lt⟩,lz,fun p2 c H1 s1 t1 lt Rr=>?_⟩;symm;refine⟨HQ,fun pm hpm=>?_⟩;refine fresh hpm fun H2 s2 t2=>?_;symm;refine⟨(by show 3<=sizeLine;decide),fun pw hpw=>?_⟩;refine fresh hpw fun H3 s3 t3=>?_;have s3:=s2.trans s3;have hx3:=(s1.trans s3) _ _ hx;symm;exact⟨_,p2,pm,pw,_,_,rfl,hx3,rc,fun H' k e=>q _ H' (k.pre (s1.trans s3)) (Fo (by walk_at"mm") rc hx3 (s3 _ _ t1) k e fl.1 lz lt) Rr⟩))
local macro_rules | `(tactic| walk_at"nw")=> `(tactic| (refine CJ (by first | exact xW (by ac_rfl) | exact X5 (by ac_rfl) | exact fun z=>absurd (V.str.inj z) (by ac_rfl)) ?_;symm))
local macro_rules | `(tactic| walk_at"ew")=> `(tactic| (refine Hn (by first | exact HH _ | rfl) ?_;symm))
noncomputable def P:Program:=PySem.Challenge.rw_feastwheel_k91_whole_what_a_text_says.prog
theorem fill:(PySem.Challenge.rw_feastwheel_k91_whole_what_a_text_says.prog,Hd.K)=(PySem.Challenge.rw_feastwheel_k91_whole_what_a_text_says.prog,Hd.K):=by k_fill;rfl
structure Dt where
 (w:World) (mg:Str->Option Value) (b:Heap)
structure Gi(d:Dt):Prop where
 X:(Hd.K d.w.params).In d.b
 G:d.b.Ns mainGlobals d.mg
noncomputable def Ok(d:Dt):Prop:=∀{f:Addr} {fd:FuncData},Fun (Hd.K d.w.params) "law" "law" dW f fd->Es P d.w (Hd.K d.w.params) d.mg d.b CX0 138 f fd ["_law_script"] (dO (Hd.K d.w.params))
instance:Nonempty Dt:=⟨⟨⟨fun _ _=>0,⟨fun _=>0,fun _=>0,id,fun _=>0,fun _ _=>0,fun _=>true,fun _=>0,.refcount,.text,fun _=>0,fun _=>none,fun _=>true,fun _ _ _=>true,fun _ _ _=>true,true,fun _=>true,fun _=>none,fun _=>none,fun _ _ _=>0,fun _ _=>none,fun _=>none,fun _=>(0,true,""),fun _=>none,id,fun _=>true⟩⟩,fun _=>none,default⟩⟩
noncomputable def d0:Dt:=Classical.epsilon fun d=>Gi d/\¬Ok d
noncomputable def w:World:=d0.w
noncomputable def K:Fr:=Hd.K w.params
noncomputable def mg:Str->Option Value:=d0.mg
noncomputable def base:Heap:=d0.b
abbrev Am:Addr:=549
abbrev Bf:Addr:=649
abbrev BV:Addr:=708
abbrev pZ:Addr:=786
abbrev BR:Addr:=978
abbrev V3:Addr:=999
abbrev jm:Addr:=1018
abbrev Oz:Addr:=1044
abbrev JX:Addr:=1078
abbrev V1:Addr:=1097
abbrev Tv:Addr:=1116
abbrev KJ:Addr:=1135
abbrev Zt:Addr:=1154
abbrev KH:Addr:=1173
abbrev Kh:Addr:=1192
abbrev Th:Addr:=1211
abbrev Mx:Addr:=1230
abbrev Tp:Addr:=1249
abbrev Ti:Addr:=1268
abbrev V2:Addr:=1287
abbrev Kl:Addr:=1306
abbrev BZ:Addr:=1340
abbrev Cv:Addr:=1663
abbrev GJ:Tok:=1009
abbrev YF:Tok:=1383
abbrev YD:Tok:=1384
abbrev Jk:Tok:=1669
abbrev Jj:Tok:=1670
abbrev Z6:Tok:=577
abbrev km:Tok:=579
abbrev Ub:Tok:=820
abbrev Nj:Tok:=816
abbrev UW:Tok:=818
abbrev Q7:Tok:=932
abbrev Ni:Tok:=934
abbrev QF:Tok:=429
abbrev Z7:Tok:=427
abbrev Ua:Tok:=431
abbrev QG:Tok:=425
abbrev Z8:Tok:=423
abbrev Nh:Tok:=1994
abbrev Gz:Addr:=1309
abbrev QD:Tok:=1996
abbrev QC:Tok:=1997
abbrev QB:Tok:=1998
abbrev Pz:Tok:=1999
abbrev Py:Tok:=2000
abbrev Px:Tok:=2001
abbrev Pu:Tok:=2002
abbrev Pr:Tok:=2003
abbrev oM:Addr:=1469
noncomputable def ZD:Nat->Addr:=fun i=>([1470,1471,1472,1473,1474,1475,1476,1477,1478,1479,1480,1481,1482,1483,1484,1485,1486,1488]:List Nat).getD i 0
abbrev bQ:Addr:=1608
noncomputable def bO:Nat->Addr:=fun i=>([1495,1502,1509,1516,1530,1537,1544,1551,1558,1565,1579,1586,1593,1600,1607]:List Nat).getD i 0
abbrev jN:Addr:=385
abbrev jM:Addr:=392
class Giv:Prop where
 X:K.In base
 G:base.Ns mainGlobals mg
variable{f:Addr}{fd:FuncData}
section
variable[Giv]
theorem gX:K.In base:=Giv.X
theorem gG:base.Ns mainGlobals mg:=Giv.G
local macro_rules | `(tactic| walk_at"k")=> `(tactic| (delta K;first | k_is | kit_is | k_exc))
local macro_rules | `(tactic| walk_at"o")=> `(tactic| first | exact Or.inl rfl | exact Or.inr rfl)
local macro_rules | `(tactic| walk_at"s")=> `(tactic| exact⟨rfl,rfl,rfl,by ac_rfl,rfl,by ac_rfl,by ac_rfl⟩)
local macro_rules | `(tactic| walk_at"hr")=> `(tactic| exact Ec.mono (by assumption) (by first | decide | lia))
local macro_rules | `(tactic| walk_at"kk")=> `(tactic| first | walk_at"k" | (constructor<;>walk_at"kk"))
local macro_rules | `(tactic| walk_at"g")=> `(tactic| (delta K;refine' L2.pF ?_ ?_ ?_ ?_<;>first | k_is | skip))
local macro_rules | `(tactic| walk_at"h")=> `(tactic| (delta K;refine' L2.AAL ?_ ?_ ?_ ?_ ?_<;>first | k_is | skip))
local macro_rules | `(tactic| walk_at"dg")=> `(tactic| (delta K;refine' L2.u6 ?_ ?_ ?_ ?_ ?_<;>first | k_is | skip))
local macro_rules | `(tactic| walk_at"dm")=> `(tactic| (delta K;refine' L2.uz ?_ ?_ ?_ ?_ ?_ ?_<;>first | k_is | skip))
local macro_rules | `(tactic| walk_at"db")=> `(tactic| (delta K;refine' L2.u9 ?_ ?_ ?_ ?_ ?_<;>first | k_is | skip))
local macro_rules | `(tactic| walk_at"b")=> `(tactic| first | walk_at"b1" | walk_at"b2" | walk_at"b3" | walk_at"b4" | walk_at"b0" | walk_at"b5" | walk_at"b6" | walk_at"b7" | walk_at"b8")
theorem mgo{x:Str}{v:Value}(h:PySem.W.nsIn K mainGlobals x=some (some v)):mg x=some v:=jh3 gX gG h
noncomputable abbrev C0(k:Nat)(x:Str)(ps:List Str)(sp:Sp):Prop:=Cal P w K mg base k x ps sp
noncomputable abbrev C1(k:Nat)(x:Str)(ps:List Str)(sp:Sp):Prop:=ADt P w K mg base k x ps sp
noncomputable abbrev CM0(k:Nat)(C:Addr)(x:Str)(ps:List Str)(sp:Sp):Prop:=ju P w K mg base CX0 k C x ps sp
noncomputable abbrev CI0(k:Nat)(x:Str)(C:Addr)(ps:List Str)(sp:Sp):Prop:=jx P w K mg base CX0 k x C ps sp
noncomputable abbrev F0(k:Nat)(f:Addr)(fd:FuncData)(ps:List Str)(sp:Sp):Prop:=Es P w K mg base CX0 k f fd ps sp
noncomputable abbrev CL:List Addr:=[V3,jm,Oz,JX,V1,Tv,KJ,Zt,KH,Kh,Th,Mx,Tp,Ti,V2,Kl]
theorem Aw:Cls K Am:=by walk_at"kk"
theorem CQ:DG K Am "base":=by walk_at"kk"
theorem CG:DG K Am "terms":=by walk_at"kk"
theorem Eg:DG K Am "full_count":=by walk_at"kk"
theorem Gk:DG K Am "full_sum":=by walk_at"kk"
theorem CZ:Cls K Bf:=by walk_at"kk"
theorem Jh:DG K Bf "start":=by walk_at"kk"
theorem Io:DG K Bf "months":=by walk_at"kk"
theorem Ho:DG K Bf "leap":=by walk_at"kk"
theorem Cd:DG K Bf "years":=by walk_at"kk"
theorem CT:Cls K BV:=by walk_at"kk"
theorem Ip:DG K BV "start":=by walk_at"kk"
theorem Ds:DG K BV "days":=by walk_at"kk"
theorem Dr:DG K BV "many":=by walk_at"kk"
theorem Bd:Cls K BZ:=by walk_at"kk"
theorem GX:DG K BZ "words":=by walk_at"kk"
theorem Dj:DG K BZ "place":=by walk_at"kk"
theorem DX:Cls K Cv:=by walk_at"kk"
theorem Fg:DG K Cv "calendars":=by walk_at"kk"
theorem Gr:DG K Cv "rules":=by walk_at"kk"
theorem Vt:Cls K V3:=by walk_at"kk"
theorem Vp:RC K BR V3:=by walk_at"kk"
theorem ZM:Cls K jm:=by walk_at"kk"
theorem ZL:RC K BR jm:=by walk_at"kk"
theorem Sx:Cls K Oz:=by walk_at"kk"
theorem Sq:RC K BR Oz:=by walk_at"kk"
theorem Pg:Cls K JX:=by walk_at"kk"
theorem PQ:RC K BR JX:=by walk_at"kk"
theorem Vq:Cls K V1:=by walk_at"kk"
theorem Vn:RC K BR V1:=by walk_at"kk"
theorem Sy:Cls K Tv:=by walk_at"kk"
theorem bw:RC K BR Tv:=by walk_at"kk"
theorem Mt:Cls K KJ:=by walk_at"kk"
theorem Xi:RC K BR KJ:=by walk_at"kk"
theorem Vs:Cls K Zt:=by walk_at"kk"
theorem jQ:RC K BR Zt:=by walk_at"kk"
theorem Ms:Cls K KH:=by walk_at"kk"
theorem Xh:RC K BR KH:=by walk_at"kk"
theorem Pa:Cls K Kh:=by walk_at"kk"
theorem PN:RC K BR Kh:=by walk_at"kk"
theorem Su:Cls K Th:=by walk_at"kk"
theorem bc:RC K BR Th:=by walk_at"kk"
theorem PX:Cls K Mx:=by walk_at"kk"
theorem ZK:RC K BR Mx:=by walk_at"kk"
theorem Sw:Cls K Tp:=by walk_at"kk"
theorem bj:RC K BR Tp:=by walk_at"kk"
theorem Sv:Cls K Ti:=by walk_at"kk"
theorem bh:RC K BR Ti:=by walk_at"kk"
theorem Vr:Cls K V2:=by walk_at"kk"
theorem Vo:RC K BR V2:=by walk_at"kk"
theorem Pb:Cls K Kl:=by walk_at"kk"
theorem PP:RC K BR Kl:=by walk_at"kk"
theorem Iw:mg "range"=none:=vk gX gG (by walk_at"k")
theorem Do:mg "len"=none:=vk gX gG (by walk_at"k")
theorem X4:mg "abs"=none:=vk gX gG (by walk_at"k")
theorem wD:mg "zip"=none:=vk gX gG (by walk_at"k")
theorem Zx:mg "list"=none:=vk gX gG (by walk_at"k")
theorem cT:mg "sum"=none:=vk gX gG (by walk_at"k")
theorem j4:mg "all"=none:=vk gX gG (by walk_at"k")
theorem WM:mg "tuple"=none:=vk gX gG (by walk_at"k")
theorem AAx:mg "min"=none:=vk gX gG (by walk_at"k")
theorem AAy:mg "max"=none:=vk gX gG (by walk_at"k")
theorem Df:mg "str"=none:=vk gX gG (by walk_at"k")
theorem Iz:mg "isinstance"=none:=vk gX gG (by walk_at"k")
theorem cU:mg "int"=none:=vk gX gG (by walk_at"k")
theorem iy:mg "LONGEST"=some (.int 150000 Z6):=mgo (by walk_at"k")
theorem Hw:mg "PIECE"=some (.int 256 km):=mgo (by walk_at"k")
theorem XX:mg "GREATEST_N"=some (.int 1000 Ub):=mgo (by walk_at"k")
theorem Qa:mg "GREATEST_BASE"=some (.int 20000 Nj):=mgo (by walk_at"k")
theorem XR:mg "MOST_TERMS"=some (.int 6 UW):=mgo (by walk_at"k")
theorem Kr:mg "MOST_MONTHS"=some (.int 20 Q7):=mgo (by walk_at"k")
theorem Jf:mg "LONGEST_MONTH"=some (.int 1000 Ni):=mgo (by walk_at"k")
theorem R8:mg "MOST_LETTERS"=some (.int 8 QF):=mgo (by walk_at"k")
theorem iz:mg "LETTERS"=some (.str "abcdefghijklmnopqrstuvwxyz" Z7):=mgo (by walk_at"k")
theorem XS:mg "MOST_SIGNS"=some (.int 4000 Ua):=mgo (by walk_at"k")
theorem R9:mg "MOST_FIGURES"=some (.int 60 QG):=mgo (by walk_at"k")
theorem jA:mg "FIGURES"=some (.str "0123456789" Z8):=mgo (by walk_at"k")
theorem QZ:mg "MOST_BRACKETS"=some (.int 40 Nh):=mgo (by walk_at"k")
theorem XQ:mg "PAIR_WORDS"=some (.ref Gz):=mgo (by walk_at"k")
theorem Ww:∀H,SqT K H Gz [.str "and",.str "or",.str "but",.str "unlike",.str "upon",.str "until",.str "near",.str "till"]:=by
 have l:K.lookup Gz=some ⟨.type "tuple",none,.seq #[.str "and" QD,.str "or" QC,.str "but" QB,.str "unlike" Pz,.str "upon" Py,.str "until" Px,.str "near" Pu,.str "till" Pr] 0,#[]⟩:=by walk_at"k"
 exact fun H=>.inr ⟨_,_,_,l,rfl,rfl,(by show 8<=sizeLine;decide),(.cons ⟨_,rfl⟩ (.cons ⟨_,rfl⟩ (.cons ⟨_,rfl⟩ (.cons ⟨_,rfl⟩ (.cons ⟨_,rfl⟩ (.cons ⟨_,rfl⟩ (.cons ⟨_,rfl⟩ (.cons ⟨_,rfl⟩ .nil))))))))⟩
theorem GF:qZ P w K mg oM ZD:=pD (a0:=1470) (a2:=1472) (a6:=1476) (a7:=1477) (a8:=1478) (a10:=1480) (mgo (by walk_at"k")) (L2.ww (a:=1469) (n:=18) [("calendar",2215,1470),("change",2219,1471),("rule",2225,1472),("date",2229,1473),("day",2233,1474),("move",2237,1475),("on",2242,1476),("next",2246,1477),("last",2250,1478),("nth",2254,1479),("count",2259,1480),("size",2264,1481),("same",2267,1482),("meet",2272,1483),("within",2277,1484),("shorter",2282,1485),("show",2285,1486),("almanac",2288,1488)] (by walk_at"k") (by ac_rfl) rfl) rfl rfl rfl rfl rfl rfl (by walk_at"k") (by walk_at"k") (by walk_at"k") (by walk_at"k") (by walk_at"k") (by walk_at"k")
theorem Er:ADv P w K mg bQ bO:=⟨mgo (by walk_at"k"),(L2.ww (a:=1608) (n:=15) [("date",2417,1495),("day",2418,1502),("move",2419,1509),("on",2420,1516),("next",2421,1530),("last",2422,1537),("nth",2423,1544),("count",2424,1551),("size",2425,1558),("same",2426,1565),("meet",2427,1579),("within",2428,1586),("shorter",2429,1593),("show",2430,1600),("almanac",2431,1607)] (by walk_at"k") (by ac_rfl) rfl),mgo (by walk_at"k"),mgo (by walk_at"k"),mgo (by walk_at"k"),mgo (by walk_at"k")⟩
theorem Ii:mg "either"=some (.ref jN):=mgo (by walk_at"k")
theorem YB:mg "unlike"=some (.ref jM):=mgo (by walk_at"k")
theorem co{g n q st ps k sp}(Q:FnG K g n q st)(b:Hs n q st ps)(o:∀{f:Addr} {fd:FuncData},Fun K n q st f fd->F0 k f fd ps sp):C0 k g ps sp:=cB gX gG Q b o
theorem cm{g n q st ps k sp C CX}(Q:FnM K C g n q st)(b:Hs n q st ps)(o:∀{f:Addr} {fd:FuncData},Fun K n q st f fd->Es P w K mg base CX k f fd ps sp):ju P w K mg base CX k C g ps sp:=vO Q b o
theorem ci{n q st ps k sp C CX x}(m:PySem.W.makesIn K C=true)(p:PySem.W.keepIn K (.ref C)=true)(e:PySem.W.nsIn K mainGlobals x=some (some (.ref C)))(Q:FnM K C "__init__" n q st)(b:Hs n q st ps)(o:∀{f:Addr} {fd:FuncData},Fun K n q st f fd->Es P w K mg base CX k f fd ps sp):jx P w K mg base CX k x C ps sp:=vP gX gG m p e Q b o
theorem co'{g n q ps k sp}(N:List Str)(st:Stmt)(o:∀{f:Addr} {cdv:Value} {A:Around} {outer:List Env} {s:Shared} (nd:N.Nodup) (H:Hp) (vs:List V) (Q:VK) (E:XK),Ec k (A.deeper (envOfC q (BP st) s.heap.objs.size f cdv))->sp vs H Q E->∃t,PSs (Ux CX0 P w K mg base N q (BP st) f cdv A outer s H E).nox (DQ st) t/\t { nx:=fun _ H'=>Q .non H',rt:=Q } (start N vs) H)(len:∀{vs H Q E},sp vs H Q E->vs.length=ps.length:=by fail "l")(S:Cu N ps (BP st):=by walk_at"s")(Q:FnG K g n q st:=by walk_at"g")(b:Hs n q st ps:=by walk_at"b"):C0 (k+1) g ps sp:=co Q b fun F=>F.ok S len o
theorem cm'{g n q ps k sp C}(N:List Str)(st:Stmt)(o:∀{f:Addr} {cdv:Value} {A:Around} {outer:List Env} {s:Shared} (nd:N.Nodup) (H:Hp) (vs:List V) (Q:VK) (E:XK),Ec k (A.deeper (envOfC q (BP st) s.heap.objs.size f cdv))->sp vs H Q E->∃t,PSs (Ux CX0 P w K mg base N q (BP st) f cdv A outer s H E).nox (DQ st) t/\t { nx:=fun _ H'=>Q .non H',rt:=Q } (start N vs) H)(len:∀{vs H Q E},sp vs H Q E->vs.length=ps.length:=by fail "l")(S:Cu N ps (BP st):=by walk_at"s")(Q:FnM K C g n q st:=by walk_at"h")(b:Hs n q st ps:=by walk_at"b"):CM0 (k+1) C g ps sp:=cm Q b fun F=>F.ok S len o
theorem ci'{n q ps k sp C x}(N:List Str)(st:Stmt)(o:∀{f:Addr} {cdv:Value} {A:Around} {outer:List Env} {s:Shared} (nd:N.Nodup) (H:Hp) (vs:List V) (Q:VK) (E:XK),Ec k (A.deeper (envOfC q (BP st) s.heap.objs.size f cdv))->sp vs H Q E->∃t,PSs (Ux CX0 P w K mg base N q (BP st) f cdv A outer s H E).nox (DQ st) t/\t { nx:=fun _ H'=>Q .non H',rt:=Q } (start N vs) H)(len:∀{vs H Q E},sp vs H Q E->vs.length=ps.length:=by fail "l")(S:Cu N ps (BP st):=by walk_at"s")(m:PySem.W.makesIn K C=true:=by walk_at"k")(p:PySem.W.keepIn K (.ref C)=true:=by walk_at"k")(e:PySem.W.nsIn K mainGlobals x=some (some (.ref C)):=by walk_at"k")(Q:FnM K C "__init__" n q st:=by walk_at"h")(b:Hs n q st ps:=by walk_at"b"):CI0 (k+1) x C ps sp:=ci m p e Q b fun F=>F.ok S len o
theorem Ce:C0 1 "refuse_below_one" ["number"] lU:=by
 refine co' ["number"] K6 fun nd H vs Q E hr h=>?_;obtain⟨n,rfl,hn,q⟩:=h;refine⟨_,(Ad (Ay (Ak Eu (pv 0) Ae (An _))
  (Ad BX)
  Aq)),?_⟩
 symm;exists CJ (by lia) ?_;exact q
theorem Eb:C0 1 "refuse_too_long" ["size"] gQ:=by
 refine co' ["size"] Lq fun nd H vs Q E hr h=>?_;obtain⟨n,rfl,hn,q⟩:=h;refine⟨_,(Ad (Ay (Ak FW (pv 0) (By rfl iy (Cq _ _)) (An _))
  (Ad BX)
  Aq)),?_⟩
 symm;exists CJ (by lia) ?_;exact q
theorem cJ:C0 1 "equation" ["one","other"] ADM:=by
 refine co' ["one","other","row","below","times","rest"] aV fun nd H vs Q E hr h=>?_;obtain⟨a,b,rfl,ha,hb,q⟩:=h;refine⟨_,(Ab (Aj 2 (BK (Aa Ae (Aa Ae (Aa (pv 0) Ac)))))
  (Ab (Aj 3 (BK (Aa Ae (Aa Ae (Aa (pv 1) Ac)))))
  (Ab (Ik PassesOwn.never (Ak Gp (pxT 3) Ae (An _))
   (Ab (Aj 4 (Ag nY (pxT 2) (pxT 3)))
  (Ab (Aj 5 (BK (Aa (Ag DW (pxT 2) (Ag CP (pv 4) (pxT 3))) (Aa (Ag DW (pxT 2) (Ag CP (pv 4) (pxT 3))) (Aa (Ag DW (pxT 2) (Ag CP (pv 4) (pxT 3))) Ac)))))
  (Ab (Aj 2 (pv 3))
  (Ad (Aj 3 (pv 5)))))))
  (Ab (Ay (Ak Eu (pxT 2) Ae (An _))
   (Ad (Al (BK (Aa (Fx Ed (pxT 2)) (Aa (Fx Ed (pxT 2)) (Aa (Fx Ed (pxT 2)) Ac))))))
   Aq)
  (Ad (Al (pv 2))))))),?_⟩
 symm;exists⟨three,fun p1 hp1=>?_⟩;exists⟨three,fun p2 hp2=>?_⟩;have n12:p1≠p2:=fun z=>by rw[<-z,Ai] at hp2;cases hp2
 refine⟨fun m Z' H'=>∃(pr pb:Addr) (u v r u' v' r':Int) (t1 t2:Option V),Z'=[some (.int a),some (.int b),some (.ref pr),some (.ref pb),t1,t2]/\Az H H'/\
  H' pr=some (.tup [.int u,.int v,.int r])/\H' pb=some (.tup [.int u',.int v',.int r'])/\EqI a b u v r u' v' r'/\m=r'.natAbs,
  ⟨_,p1,p2,1,0,a,0,1,b,none,none,rfl,(Ar hp1 _).trans (Ar hp2 _),by rw[Ax n12];exact Ai,Ai,EqI.start a b,rfl⟩,?_⟩
 rintro m Z' H' ⟨pr,pb,u,v,r,u',v',r',t1,t2,rfl,sm,hpr,hpb,I,rfl⟩;have B:=I.bounds;have br:=AAf (m:=510) ha hb (show r.natAbs<=a.natAbs+b.natAbs+4 by lia) (by decide);have br':=fj (m:=510) hb (show r'.natAbs<=4*b.natAbs+4 by lia) (by decide);have bu':=fj (m:=510) hb (show u'.natAbs<=4*b.natAbs+4 by lia) (by decide);have bv':=fj (m:=510) ha (show v'.natAbs<=4*a.natAbs+4 by lia) (by decide);symm;exists Av (SqT.of hpb) Zw ?_;by_cases hz:r'=0
 ·subst hz;refine Hm rfl ?_;have D:=I.done;symm;exists Av (SqT.of hpr) Zw ?_;refine CK (fun c=>?_) (fun c=>?_)
  ·symm;exists Av (SqT.of hpr) AAl ?_;exists Av (SqT.of hpr) AAk ?_;exists Av (SqT.of hpr) Zw ?_;refine⟨three,fun p hp=>?_⟩;exact q p _ _ _ _ (sm.trans (Ar hp _)) Ai (D.1 c)
  ·symm;exact q pr _ _ _ _ sm hpr (D.2 c)
 ·refine oW (fun z=>hz (V.int.inj z)) ?_;refine⟨_,fun Z' H' hh=>hh,?_⟩;have St:=I.step hz;have bq:=fj (m:=520) br (show (r.fdiv r').natAbs<=4*r.natAbs+4 by have:=aj (r:=r) hz;lia) (by decide);symm;exists Av (SqT.of hpr) Zw ?_;refine Av (SqT.of hpb) Zw ?_;exists Du ⟨hz,br'.mono (by decide)⟩ ?_;exists Av (SqT.of hpr) AAl ?_;refine Av (SqT.of hpb) AAl ?_;exists Du ⟨520,510,bq,bu',by decide⟩ ?_;exists Av (SqT.of hpr) AAk ?_;refine Av (SqT.of hpb) AAk ?_;exists Du ⟨520,510,bq,bv',by decide⟩ ?_;exists Av (SqT.of hpr) Zw ?_;refine Av (SqT.of hpb) Zw ?_;exists Du ⟨520,510,bq,br',by decide⟩ ?_;exists⟨three,fun p hp=>?_⟩;exact⟨_,St.2,pb,p,u',v',r',_,_,_,_,_,rfl,sm.trans (Ar hp _),(Ar hp _) _ _ hpb,Ai,St.1,rfl⟩
theorem Vz:C0 2 "divisor" ["one","other"] gZ:=by
 refine co' ["one","other"] iJ fun nd H vs Q E hr h=>?_;obtain⟨a,b,rfl,ha,hb,q⟩:=h;exists⟨_,(Ad (Al (Dp LQ (Af cJ (Aa (pv 0) (Aa (pv 1) Ac))) Ae (fun _ _=>rfl)))),?_⟩;exists⟨a,b,rfl,ha,hb,fun p u v g H' sm hp e=>?_⟩;refine Av (SqT.of hp) Zw ?_;rw[e.gd];exact q _ sm
theorem Td:C0 3 "common" ["one","other"] mD:=by
 refine co' ["one","other"] mQ fun nd H vs Q E hr h=>?_;obtain⟨a,b,rfl,a0,b0,ha,hb,q⟩:=h;refine⟨_,(Ab (Bc (Af Ce (Aa (pv 0) Ac)))
  (Ab (Bc (Af Ce (Aa (pv 1) Ac)))
  (Ad (Al (Ag CP (Ag Ba (pv 0) (Af Vz (Aa (pv 0) (Aa (pv 1) Ac)))) (pv 1)))))),?_⟩
 symm;exists⟨a,rfl,by lia,?_⟩;exists⟨b,rfl,by lia,?_⟩;refine⟨a,b,rfl,ha,hb,fun H' sm=>?_⟩;have g0:=Mr (b:=b) a0;have g1:=bY (b:=b) a0;exists Du ⟨g0,(ha.le (x:=(Int.gcd a b:Int)) (by lia)).mono (by decide)⟩ ?_;have d0:0<=a/(Int.gcd a b:Int):=jf9 (by lia) (by lia);have d1:a/(Int.gcd a b:Int)<=a:=je5 _ (by lia);refine Du ⟨500,500,ha.le (by lia),hb,by decide⟩ ?_;exact q _ sm
theorem JQ:C0 2 "round_by" ["size","days"] (gR K):=by
 refine co' ["size","days","pieces","day","bits","number","place"] aH fun nd H vs Q E hr h=>?_;obtain⟨a,ds,n,rfl,hS,n0,n1,fin⟩:=h;refine⟨_,(Ab (Bc (Af Ce (Aa (pv 0) Ac)))
  (Ab (Bc (Af Eb (Aa (pv 0) Ac)))
  (Ab (Aj 2 (Ag bD (Ef (Aa Ae Ac)) (Ag Be (Ag Ba (pv 0) (By rfl Hw (Cq _ _))) Ae)))
  (Ab (JG PassesOwn.never rfl (Gj (pv 1)) (Cg (i:=3) nd rfl (by walk_at"o"))
   (Ab (Aj 6 (Ag Bs (pv 3) (pv 0)))
  (Ad (K8 (Ag Y5 (Dp FZ (pv 2) (Ag Ba (pv 6) (By rfl Hw (Cq _ _))) (fun _ _=>rfl)) (Ag Mg Ae (Ag Bs (pv 6) (By rfl Hw (Cq _ _))))) (m9 (pv 2) (Ag Ba (pv 6) (By rfl Hw (Cq _ _))) set_list)))))
  (Ab (Aj 4 Ae)
  (Ab (JG PassesOwn.never rfl (OJ rfl Iw (Aa (BL Bj rfl Do xi (Aa (pv 2) Ac)) Ac)) (Cg (i:=5) nd rfl (by walk_at"o"))
   (Ad (Aj 4 (Ag Y5 (pv 4) (Ag Mg (Dp FZ (pv 2) (pv 5) (fun _ _=>rfl)) (Ag CP (pv 5) (By rfl Hw (Cq _ _))))))))
  (Ad (Al (BK (Aa (pv 0) (Aa (pv 4) Ac))))))))))),?_⟩
 symm;exists⟨n,rfl,by lia,?_⟩;exists⟨n,rfl,n1,?_⟩;refine⟨(by show 1<=sizeLine;decide),fun l0 hl0=>?_⟩;symm;refine aY Ai (by lia) (by lia) (by show 1*_<=sizeLine;unfold sizeLine;lia) (fun l hl=>?_);have s0:=Ar hl0 (.lst [.int 0]);have s1:=s0.trans (Ar hl (.lst (List.replicate (n/256+1).toNat [V.int 0]).flatten));have t1:upd (upd H l0 (.lst [.int 0])) l (.lst (List.replicate (n/256+1).toNat [V.int 0]).flatten) l=some (.lst (Rx 0 (n/256+1).toNat)):=by rw[Ai,iU]
 have hl':H l=none:=s0.free hl;generalize upd (upd H l0 (.lst [.int 0])) l (.lst (List.replicate (n/256+1).toNat [V.int 0]).flatten)=H1 at s1 t1 ⊢;generalize hk:(n/256+1).toNat=k at t1;symm;refine⟨a,rfl,⟨_,s1.seq hS⟩,J4 (xs:=ds.map V.int) (fun i Z' H'=>Az H H'/\Ex3 fun(b:Nat) (c c':Option V)=>An3 (H' l=some (.lst (Rx b k))) (Z'=[some (.int n),some (.ref a),some (.ref l),c,none,none,c']) (RB n (ds.take i) b)) ⟨s1,0,none,none,t1,rfl,?_⟩ ?_ ?_ ?_⟩
 ·simpa using RB.nil n
 ·rintro i Z' H' _ ⟨s,_⟩;exact s.seq hS
 ·rintro i x Z' H' hx ⟨s,b,c,c',t,rfl,B⟩;rw[xo] at hx;obtain⟨d,hd,rfl⟩:=kr.mp hx;have m0:=qk d (show n≠0 by lia);have m1:=qg d (show 0<n by lia);symm;have B':=B.snoc (x:=d) (by lia);obtain⟨p,hp⟩:∃p:Nat,d%n=(p:Int):=⟨(d%n).toNat,by lia⟩;rw[hp,xp] at B';rw[hp] at m1 ⊢;have e1:(p:Int)/256=((p/256:Nat):Int):=by lia
  have e2:(p:Int)%256=((p%256:Nat):Int):=by lia
  rw[e1];have pk:p/256<k:=by lia
  exists Bq (SqL.of t) (Dm (MT pk)) ?_;rw[e2];exists Du ⟨by lia,1,bt1,by lia⟩ ?_;rw[xp,my,Gx]
  try rw[e1]
  refine dY t (by rw[MP];exact pk) ?_;rw[nJ pk];refine⟨G6 hl' s,_,_,_,Ai,rfl,?_⟩;rw[Qr,hd];exact B'
 ·rintro Z' H2 ⟨s2,b,c,c',t2,rfl,B⟩;rw[js,jc1] at B;symm;walk_at"f";symm;exists⟨l,_,rfl,.inl (SqL.of t2),?_⟩;rw[MP];refine⟨(k:Int),rfl,by lia,by lia,jP (n:=((k:Int)).toNat) (fun i Z' H'=>H'=H2/\∃(c1:Option V),Z'=[some (.int n),some (.ref a),some (.ref l),c,some (.int ((b%2^(256*i):Nat):Int)),c1,c']/\i<=k) ⟨rfl,none,?_,by lia⟩ ?_ ?_⟩
  ·rw[jp6,Nat.pow_zero,Nat.mod_one];rfl
  ·rintro i Z' H' hi ⟨rfl,c1,rfl,_⟩;have ik:i<k:=by lia
   symm;rw[jg7];exists Bq (SqL.of t2) (Dm (MT ik)) ?_;refine Du ⟨20,10,JZ (by lia),(by unfold Bt;decide),by decide⟩ ?_;symm;exists Du ⟨by lia,256,JZ (ACG _ _),by lia⟩ ?_;rw[show ((i:Int)*256).toNat=256*i by lia,RL,Gx,uL];exact⟨rfl,_,rfl,by lia⟩
  ·rintro Z' H' ⟨rfl,c1,rfl,_⟩;symm;have e:256*((k:Int)).toNat=256*(n/256+1).toNat:=by lia
   rw[e,uA (by lia) B.lt];refine⟨HQ,fun p hp=>?_⟩;exact fin p b _ (s2.trans (Ar hp _)) Ai B
theorem Gd:C0 1 "full_bits" ["size"] yU:=by
 refine co' ["size"] Yp fun nd H vs Q E hr h=>?_;obtain⟨n,rfl,h0,h1,q⟩:=h;exists⟨_,(Ad (Al (Ag DW (Ag Mg Ae (pv 0)) Ae))),?_⟩;refine Du ⟨h0,1,(by unfold Bt;decide),by lia⟩ ?_;symm;rw[jO];exact q
theorem V0:C0 2 "days_in" ["turn"] (mC K):=by
 refine co' ["turn","days","first","piece"] iK fun nd H vs Q E hr h=>?_;obtain⟨a,n,b,rfl,hS,h0,h1,hb,q⟩:=h;refine⟨_,(Ab (Aj 1 (Ef Ac))
  (Ab (JG PassesOwn.never rfl (VN rfl Iw (Aa Ae (Aa (pxT 0) (Aa (By rfl Hw (Cq _ _)) Ac)))) (Cg (i:=2) nd rfl (by walk_at"o"))
   (Ab (Aj 3 (Ag Ia (Ag Oe (pxT 0) (pv 2)) (Af Gd (Aa (By rfl Hw (Cq _ _)) Ac))))
  (Ad (Fe (Ay (Ak FW (pv 3) Ae (An _))
   (Ad (Bc (Gn kz jd0 jd1 Il (pv 1) (Aa (FT rfl (Ez ["turn","days","first","piece"] ["turn","days","first","piece"] rfl rfl (by with_unfolding_all rfl) (by ac_rfl) rfl (by ac_rfl) rfl (by ac_rfl) (by walk_at"fm") (by with_unfolding_all rfl) (by with_unfolding_all rfl)) (OJ rfl Iw (Aa (By rfl Hw (Cq _ _)) Ac)) (fun _ _ _ _=>(Rq (zJ (Ag Ia (Ag Oe (pv 4) (pv 0)) Ae) (fun _=>rfl)))) (fun _ _ _ _=>(Ag Be (pv 3) (pv 0)))) Ac))))
   Aq)))))
  (Ad (Al (pv 1))))),?_⟩
 symm;refine⟨(by show 0<=sizeLine;decide),fun l hl=>?_⟩;have s1:=Ar hl (.lst []);have t1:upd H l (.lst []) l=some (.lst ((dli b (256*0)).map V.int)):=Ai;generalize upd H l (.lst [])=H1 at s1 t1 ⊢;have hS1:=s1.tup hS;symm;walk_at"f";symm;exists Av hS1 at0 ?_;refine⟨0,n,256,rfl,by decide,by decide,K5 (by decide) (by decide) (by lia) (by lia) (by decide) (by decide),((n-1)/256+1).toNat,?_,?_⟩
 ·rw[JD (by decide),xh h0,show n-0-1=n-1 by lia];lia
 refine Sd (fun i Z' H'=>An3 (Az H H') (H' l=some (.lst ((dli b (256*i)).map V.int))) (Ex2 fun(c c':Option V)=>Z'=[some (.ref a),some (.ref l),c,c']/\i<=700)) ⟨s1,t1,none,none,rfl,by decide⟩ ?_ ?_
 ·rintro i Z' H2 hi ⟨s2,t2,c,c',rfl,_⟩;have hS2:=s2.tup hS;have i1:i<700:=by lia
  rw[show (0:Int)+(i:Int)*256=((256*i:Nat):Int) by lia];generalize hm:256*i=m at*
  symm;exists Av hS2 at1 ?_;exists Du (show (0:Int)<=(m:Int) by lia) ?_;exists⟨256,rfl,by decide,by decide,?_⟩;rw[xp,Hh,Dl,Nat.and_two_pow_sub_one_eq_mod,ub,show(256:Int).toNat=256 from rfl];exists FP (fun Z' H'=>An3 (Az H H') (H' l=some (.lst ((dli b (256*(i+1))).map V.int))) (Ex2 fun(c c':Option V)=>Z'=[some (.ref a),some (.ref l),c,c']/\i+1<=700)) ?_ (fun Z' H' h=>h);refine CK (fun _=>?_) (fun p0=>?_)
  rotate_left
  ·symm;refine⟨s2,?_,_,_,rfl,by lia⟩;rw[t2,show 256*(i+1)=m+256 by lia,<-ZP];have:((((List.range 256).map fun i=>V.int (0+(i:Nat)))).filter fun v=>match v with | .int d=>b.testBit (m+d.toNat) | _=>false)=[]:=by
    rw[List.filter_eq_nil_iff];intro v hv;obtain⟨j,hj,rfl⟩:=ya.mp hv;have hj':j<256:=jc7.mp hj;show ¬b.testBit (m+(0+(j:Int)).toNat)=true;rw[show (0+(j:Int)).toNat=j by lia];have e:(b/2^m%2^256).testBit j=b.testBit (m+j):=by
     rw[jb6,<-ub,jc4,decide_eq_true hj',Bool.true_and]
    rw[<-e,show b/2^m%2^256=0 by lia,jd4];exact zi
   rw[this,jk6,xz]
  symm;exists OD rfl t2 ?_;exists GD (W3 ?_);refine⟨256,rfl,by decide,by decide,?_⟩;refine Hx j7 ?_ (fun _ _ _=>trivial) (fun v=>match v with | .int d=>b.testBit (m+d.toNat) | _=>false) (fun v=>match v with | .int d=>V.int ((m:Int)+d) | _=>.non) (fun x hx D ys Q' hD h=>?_) (fun x hx _ D ys Q' hD h=>?_) (fun D hD=>?_)
  ·rw[js,Qb];exact Dq (by decide)
  ·obtain⟨j,hj,rfl⟩:=ya.mp hx;have hj':j<256:=jc7.mp hj;symm;exists Du (show (0:Int)<=0+(j:Int) by lia) ?_;rw[show (0+(j:Int)).toNat=j by lia,iT,decide_eq_true hj',Bool.true_and];replace h:Q' (b.testBit (m+(0+(j:Int)).toNat)) _:=h;rw[show (0+(j:Int)).toNat=j by lia] at h;exact h
  ·obtain⟨j,hj,rfl⟩:=ya.mp hx;symm;exact h
  have s3:=Ar hD (.lst ((((List.range (Int.toNat 256)).map fun i=>V.int (0+(i:Nat))).filter fun v=>match v with | .int d=>b.testBit (m+d.toNat) | _=>false).map fun v=>match v with | .int d=>V.int ((m:Int)+d) | _=>.non))
  symm;refine⟨l,D,_,_,rfl,rfl,s3 _ _ t2,Ai,?_,?_⟩
  ·rw[js,js];refine zv (Nat.add_le_add (Xk _ _) (jn3 _ _)) ?_;rw[js,Qb];exact zv (show m+Int.toNat 256<=200000 by have:Int.toNat 256=256:=rfl;lia) (by decide)
  symm;refine⟨G6 hl (s2.trans s3),?_,_,_,rfl,by lia⟩;rw[Ai,show Int.toNat 256=256 from rfl,ZP,show 256*(i+1)=m+256 by lia]
 ·rintro Z' H2 ⟨s2,t2,c,c',rfl,_⟩;symm;refine q l _ hl s2 ?_;rw[t2];unfold dli;obtain⟨k,hk⟩:∃k,256*((n-1)/256+1).toNat=n.toNat+k:=⟨256*((n-1)/256+1).toNat-n.toNat,by lia⟩;rw[hk,vD hb]
theorem Ge:C0 2 "bits_by" ["turn","size"] (gb K):=by
 refine co' ["turn","size","bits","width"] iM fun nd H vs Q E hr h=>?_;obtain⟨a,n,z,b,rfl,hS,h0,h1,hb,z0,z1,q⟩:=h;refine⟨_,(Ab (Aj 2 (pxT 0))
  (Ab (Aj 3 (pxT 0))
  (Ab (Ik PassesOwn.never (Ak Eu (pv 3) (pv 1) (An _))
   (Ab (Aj 2 (Ag Y5 (pv 2) (Ag Mg (pv 2) (pv 3))))
  (Ad (Aj 3 (Ag CP (pv 3) Ae)))))
  (Ad (Al (Ag Ia (pv 2) (Af Gd (Aa (pv 1) Ac)))))))),?_⟩
 symm;exists Av hS at1 ?_;exists Av hS at0 ?_;refine⟨fun m Z' H'=>H'=H/\∃wd c:Nat,Z'=[some (.ref a),some (.int z),some (.int (c:Int)),some (.int (wd:Int))]/\n.toNat∣wd/\0<wd/\wd<=300000/\Gy n.toNat b wd c/\m=z.toNat-wd,
  ⟨_,rfl,n.toNat,b,?_,Nat.dvd_refl _,by lia,by lia,Gy.start hb,rfl⟩,?_⟩
 ·have e:((n.toNat:Nat):Int)=n:=by lia
  rw[e]<;>rfl
 rintro m Z' H' ⟨rfl,wd,c,rfl,hd,w0,w1,S,rfl⟩;symm;refine CK (fun cc=>?_) (fun cc=>?_)
 ·exists⟨_,fun Z' H' hh=>hh,?_⟩;exists Du ⟨by lia,wd,JZ S.lt,by lia⟩ ?_;refine Du ⟨20,2,JZ (by lia),(by unfold Bt;decide),by decide⟩ ?_;symm;rw[xp,RL,Gx];refine⟨z.toNat-wd*2,by lia,rfl,wd*2,c ||| (c <<< wd),?_,Nat.dvd_trans hd (Nat.dvd_mul_right _ _),by lia,by lia,S.dbl hd,rfl⟩;rfl
 ·symm;exists⟨z,rfl,by lia,by lia,?_⟩;rw[Dl];exact q _ (S.cut (by lia))
theorem Ea:C0 3 "stretched" ["turn","size"] (O5 K):=by
 refine co' ["turn","size"] Yd fun nd H vs Q E hr h=>?_;obtain⟨a,n,z,b,rfl,hS,h0,h1,hb,z0,z1,hd,q⟩:=h;refine⟨_,(Ab (Bc (Af Ce (Aa (pv 1) Ac)))
  (Ab (Ay (Ak Gp (Ag Bs (pv 1) (pxT 0)) Ae (An _))
   (Ad BX)
   Aq)
  (Ab (Bc (Af Eb (Aa (pv 1) Ac)))
  (Ad (Al (BK (Aa (pv 1) (Aa (Af Ge (Aa (pv 0) (Aa (pv 1) Ac))) Ac)))))))),?_⟩
 symm;exists⟨z,rfl,by lia,?_⟩;refine Av hS at0 ?_;exists Du h0 ?_;rw[Int.emod_eq_zero_of_dvd hd];exists Hm rfl ?_;exists⟨z,rfl,z1,?_⟩;exists⟨a,n,z,b,rfl,hS,h0,(by lia),hb,z0,z1,fun c S=>?_⟩;exact⟨(by show 2<=sizeLine;decide),fun p hp=>q p c hp S⟩
theorem Ei:C0 4 "common_size" ["one","other"] (ADN K):=by
 refine co' ["one","other","size"] Up fun nd H vs Q E hr h=>?_;obtain⟨a1,a2,n1,n2,b1,b2,rfl,S1,S2,p1,p2,l1,l2,lz,q⟩:=h;refine⟨_,(Ab (Aj 2 (Af Td (Aa (pxT 0) (Aa (pxT 1) Ac))))
  (Ab (Bc (Af Eb (Aa (pv 2) Ac)))
  (Ad (Al (pv 2))))),?_⟩
 symm;exists Av S1 at0 ?_;exists Av S2 at0 ?_;exists⟨n1,n2,rfl,p1,p2,CN (by lia) (by lia) (by decide),CN (by lia) (by lia) (by decide),fun H1 s1=>?_⟩;exists⟨_,rfl,lz,?_⟩;exact q _ s1
theorem KC:C0 5 "both" ["one","other"] (spJ K (Bo and)):=by
 refine co' ["one","other","size"] yq fun nd H vs Q E hr h=>?_;obtain⟨a1,a2,n1,n2,b1,b2,rfl,W,lz,q⟩:=h;have fl:=Bp W.p1 W.p2;have l1:=W.l1;have l2:=W.l2;refine⟨_,(Ab (Aj 2 (Af Ei (Aa (pv 0) (Aa (pv 1) Ac))))
  (Ad (Al (BK (Aa (pv 2) (Aa (Ag Ia (Af Ge (Aa (pv 0) (Aa (pv 2) Ac))) (Af Ge (Aa (pv 1) (Aa (pv 2) Ac)))) Ac)))))),?_⟩
 symm;exists⟨a1,a2,n1,n2,b1,b2,rfl,W.s1,W.s2,W.p1,W.p2,W.l1,W.l2,lz,fun H1 s1=>?_⟩;exists⟨a1,n1,_,b1,rfl,s1.tup W.s1,W.p1,(by lia),W.k1,fl.1,lz,fun c1 T1=>?_⟩;exists⟨a2,n2,_,b2,rfl,s1.tup W.s2,W.p2,(by lia),W.k2,fl.1,lz,fun c2 T2=>?_⟩;rw[Dl];refine⟨HQ,fun p hp=>?_⟩;have l:c1 &&& c2<2^(Bx n1 n2).toNat:=Nat.and_lt_two_pow _ T2.lt;exact q p _ _ (s1.trans (Ar hp _)) Ai l ⟨l,fun i hi=>by rw[ja7,T1.bit i hi,T2.bit i hi]⟩
theorem TY:C0 5 "either" ["one","other"] (spJ K (Bo or)):=by
 refine co' ["one","other","size"] mO fun nd H vs Q E hr h=>?_;obtain⟨a1,a2,n1,n2,b1,b2,rfl,W,lz,q⟩:=h;have fl:=Bp W.p1 W.p2;have l1:=W.l1;have l2:=W.l2;refine⟨_,(Ab (Aj 2 (Af Ei (Aa (pv 0) (Aa (pv 1) Ac))))
  (Ad (Al (BK (Aa (pv 2) (Aa (Ag Y5 (Af Ge (Aa (pv 0) (Aa (pv 2) Ac))) (Af Ge (Aa (pv 1) (Aa (pv 2) Ac)))) Ac)))))),?_⟩
 symm;exists⟨a1,a2,n1,n2,b1,b2,rfl,W.s1,W.s2,W.p1,W.p2,W.l1,W.l2,lz,fun H1 s1=>?_⟩;exists⟨a1,n1,_,b1,rfl,s1.tup W.s1,W.p1,(by lia),W.k1,fl.1,lz,fun c1 T1=>?_⟩;exists⟨a2,n2,_,b2,rfl,s1.tup W.s2,W.p2,(by lia),W.k2,fl.1,lz,fun c2 T2=>?_⟩;rw[Gx];refine⟨HQ,fun p hp=>?_⟩;have l:=Nat.or_lt_two_pow T1.lt T2.lt;exact q p _ _ (s1.trans (Ar hp _)) Ai l ⟨l,fun i hi=>by rw[jc8,T1.bit i hi,T2.bit i hi]⟩
theorem Za:C0 5 "unlike" ["one","other"] (spJ K (Bo xor)):=by
 refine co' ["one","other","size"] mK fun nd H vs Q E hr h=>?_;obtain⟨a1,a2,n1,n2,b1,b2,rfl,W,lz,q⟩:=h;have fl:=Bp W.p1 W.p2;have l1:=W.l1;have l2:=W.l2;refine⟨_,(Ab (Aj 2 (Af Ei (Aa (pv 0) (Aa (pv 1) Ac))))
  (Ad (Al (BK (Aa (pv 2) (Aa (Ag nR (Af Ge (Aa (pv 0) (Aa (pv 2) Ac))) (Af Ge (Aa (pv 1) (Aa (pv 2) Ac)))) Ac)))))),?_⟩
 symm;exists⟨a1,a2,n1,n2,b1,b2,rfl,W.s1,W.s2,W.p1,W.p2,W.l1,W.l2,lz,fun H1 s1=>?_⟩;exists⟨a1,n1,_,b1,rfl,s1.tup W.s1,W.p1,(by lia),W.k1,fl.1,lz,fun c1 T1=>?_⟩;exists⟨a2,n2,_,b2,rfl,s1.tup W.s2,W.p2,(by lia),W.k2,fl.1,lz,fun c2 T2=>?_⟩;rw[UG];refine⟨HQ,fun p hp=>?_⟩;have l:=Nat.xor_lt_two_pow T1.lt T2.lt;exact q p _ _ (s1.trans (Ar hp _)) Ai l ⟨l,fun i hi=>by rw[jp0,T1.bit i hi,T2.bit i hi]⟩
theorem JS:C0 2 "other_days" ["turn"] (rT K):=by
 refine co' ["turn"] Wr fun nd H vs Q E hr h=>?_;obtain⟨a,n,b,rfl,S,n0,n1,hb,q⟩:=h;exists⟨_,(Ad (Al (BK (Aa (pxT 0) (Aa (Ag nR (pxT 0) (Af Gd (Aa (pxT 0) Ac))) Ac))))),?_⟩;exists Av S at0 ?_;exists Av S at1 ?_;exists Av S at0 ?_;exists⟨n,rfl,by lia,by lia,?_⟩;rw[UG];refine⟨HQ,fun p hp=>q p _ hp ?_ fun i hi=>?_⟩
 ·exact Nat.xor_lt_two_pow hb (by have:=ki n.toNat;lia)
 ·rw[jp0,ji7];simp[hi]
theorem Oq:C0 6 "without" ["one","other"] (spJ K (Bo bn)):=by
 refine co' ["one","other"] gn fun nd H vs Q E hr h=>?_;obtain⟨a1,a2,n1,n2,b1,b2,rfl,W,lz,q⟩:=h;exists⟨_,(Ad (Al (Af KC (Aa (pv 0) (Aa (Af JS (Aa (pv 1) Ac)) Ac))))),?_⟩;exists⟨a2,n2,b2,rfl,W.s2,W.p2,W.l2,W.k2,fun p c hp hc hbit=>?_⟩;refine⟨a1,p,n1,n2,b1,c,rfl,⟨(Ar hp _).tup W.s1,SqT.of Ai,W.p1,W.p2,W.l1,W.l2,W.k1,hc⟩,lz,fun p3 c3 H3 s3 hp3 lt B=>?_⟩;have:=W.p2;exact q p3 c3 H3 ((Ar hp _).trans s3) hp3 lt ⟨lt,fun i hi=>by rw[B.bit i hi,hbit _ (Nat.mod_lt _ (by lia))];rfl⟩
theorem Hz:C0 2 "later" ["turn","number"] (sJ K):=by
 refine co' ["turn","number","shift","bits"] tM fun nd H vs Q E hr h=>?_;obtain⟨a,n,num,b,rfl,hS,h0,h1,hb,q⟩:=h;refine⟨_,(Ab (Aj 2 (Ag Bs (pv 1) (pxT 0)))
  (Ab (Aj 3 (Ag Y5 (Ag Mg (pxT 0) (pv 2)) (Ag Oe (pxT 0) (Ag DW (pxT 0) (pv 2)))))
  (Ad (Al (BK (Aa (pxT 0) (Aa (Ag Ia (pv 3) (Af Gd (Aa (pxT 0) Ac))) Ac))))))),?_⟩
 have m0:=qk num (show n≠0 by lia);have m1:=qg num h0;symm;refine Av hS at0 ?_;exists Du h0 ?_;exists Av hS at1 ?_;exists Du ⟨m0,n.toNat,JZ hb,by lia⟩ ?_;exists Av hS at1 ?_;exists Av hS at0 ?_;exists Du (show (0:Int)<=n-num%n by lia) ?_;exists Av hS at0 ?_;exists Av hS at0 ?_;exists⟨n,rfl,by lia,by lia,?_⟩;have e:(n-num%n).toNat=n.toNat-(num%n).toNat:=by lia
 rw[RL,Hh,Gx,Dl,e];refine⟨(by show 2<=sizeLine;decide),fun p hp=>?_⟩;exact q p hp
theorem Vv:C0 3 "ones_in" ["bits"] yK:=by
 refine co' ["bits","fields","width","each_second"] gw fun nd H vs Q E hr h=>?_;obtain⟨b,n,rfl,hb,hn,q⟩:=h;refine⟨_,(Ab (Aj 1 (pv 0))
  (Ab (Aj 2 Ae)
  (Ab (Ik PassesOwn.never (Ak FW (Ag Oe (pv 1) (pv 2)) Ae (An _))
   (Ab (Aj 3 (Af Ge (Aa (BK (Aa (Ag CP Ae (pv 2)) (Aa (Af Gd (Aa (pv 2) Ac)) Ac))) (Aa (az jm1 jj0 jj1 XN (pv 1)) Ac))))
  (Ab (Aj 1 (Ag Be (Ag Ia (pv 1) (pv 3)) (Ag Ia (Ag Oe (pv 1) (pv 2)) (pv 3))))
  (Ad (Aj 2 (Ag CP Ae (pv 2)))))))
  (Ad (Al (pv 1)))))),?_⟩
 symm;refine⟨fun m Z' H'=>Az H H'/\∃f w:Nat,∃x:Option V,Z'=[some (.int (b:Int)),some (.int (f:Int)),some (.int (w:Int)),x]/\0<w/\w<=300000/\f<2^n/\Dg w f (cnt b n)/\m=n-w,
  ⟨_,Az.refl _,b,1,none,rfl,by decide,by decide,hb,Dg.start n b hb,rfl⟩,?_⟩
 rintro m Z' H1 ⟨s1,f,w,x,rfl,w0,w1,hf,D,rfl⟩;symm;exists Du (show (0:Int)<=(w:Int) by lia) ?_;rw[xp,Hh];refine CK (fun cc=>?_) (fun cc=>?_)
 ·have f1:2^w<=f:=by
   have h1:0<f >>> w:=by lia
   rw[ub] at h1;exact Nat.le_of_not_lt fun z=>by rw[jo0 z] at h1;lia
  have wn:w<n:=by
   refine je6 fun z=>?_;have:=va (show 0<2 by decide) z;lia
  have f0:f≠0:=by have:=ki w;lia
  have l1:f<2^(f.log2+1):=Nat.lt_log2_self;have l2:f.log2+1<=n:=by
   have:=Nat.log2_self_le f0;refine je6 fun z=>?_;have:=va (show 0<2 by decide) z;lia
  exists⟨_,fun Z' H' hh=>hh,?_⟩;refine Du ⟨3,20,(by unfold Bt;decide),JZ (by lia),by decide⟩ ?_;symm;exists⟨(w:Int),rfl,by lia,by lia,?_⟩;rw[xp,show(2:Int)*(w:Int)=((2*w:Nat):Int) by lia];refine⟨HQ,fun p hp=>?_⟩;have s2:=Ar hp (.tup [.int ((2*w:Nat):Int),.int ((2^w-1:Nat):Int)]);have t2:upd H1 p (.tup [.int ((2*w:Nat):Int),.int ((2^w-1:Nat):Int)]) p=some (.tup [.int ((2*w:Nat):Int),.int ((2^w-1:Nat):Int)]):=Ai;generalize upd H1 p (.tup [.int ((2*w:Nat):Int),.int ((2^w-1:Nat):Int)])=H2 at s2 t2 ⊢;symm;rw[J3 f0];symm;refine⟨p,_,_,_,rfl,SqT.of t2,by lia,by lia,?_,by lia,by lia,fun c S=>?_⟩
  ·rw[xp];have:=va (show 0<2 by decide) (show w<=2*w by lia);have:=ki w;lia
  rw[xp,show(((f.log2+1:Nat):Int)).toNat=f.log2+1 by lia] at S;symm;exists Du (show (0:Int)<=(w:Int) by lia) ?_;refine Du ⟨3,20,(by unfold Bt;decide),JZ (by lia),by decide⟩ ?_;symm;have E1:=fK w0 l1 S 0;have E2:=fK w0 l1 S w;rw[Nat.pow_zero,Nat.div_one] at E1;obtain⟨d1,d2⟩:=D.pair w0 E1 E2;rw[xp,Hh,ub,Dl,Dl];refine⟨n-2*w,by lia,s1.trans s2,(f &&& c)+(f/2^w &&& c),2*w,some (.int (c:Int)),?_,by lia,by lia,by lia,d1,rfl⟩;rw[ke];rfl
 ·have fl:f<2^w:=by
   have h1:f >>> w=0:=Nat.eq_zero_of_not_pos fun z=>cc (Int.natCast_pos.mpr z);rw[ub] at h1;exact je6 fun z=>by
    have:=(Nat.le_div_iff_mul_le (ki w)).mpr (show 1*2^w<=f by lia);lia
  symm;rw[D.last fl];exact q _ s1
theorem Mw:C0 4 "days_ahead" ["turn","day"] (sZ K):=by
 refine co' ["turn","day","part"] Wt fun nd H vs Q E hr h=>?_;obtain⟨a,n,d,b,rfl,hS,h0,h1,hb,bd,q⟩:=h;have m0:=qk d (show n≠0 by lia);have m1:=qg d h0;refine⟨_,(Ab (Aj 2 (Ag Ia (pxT 0) (Af Gd (Aa (Ag Bs (pv 1) (pxT 0)) Ac))))
  (Ad (Al (Ag Be (Ag CP (Ag Ba (pv 1) (pxT 0)) (Af Vv (Aa (pxT 0) Ac))) (Af Vv (Aa (pv 2) Ac)))))),?_⟩
 symm;exists Av hS at1 ?_;refine Av hS at0 ?_;exists Du h0 ?_;exists⟨d%n,rfl,m0,by lia,?_⟩;rw[Dl];exists Av hS at0 ?_;exists Du (Fi h0 (by lia)) ?_;exists Av hS at1 ?_;refine⟨b,n.toNat,rfl,hb,by lia,fun H1 s1=>?_⟩;have cl:=pU b n.toNat;exists Du ⟨260,20,qH bd h0,JZ (by lia),by decide⟩ ?_;exists⟨_,(d%n).toNat,rfl,KR _ _,by lia,fun H2 s2=>?_⟩;rw[ZX (c:=b) fun i hi=>Ja _ _ _ hi];exact q _ (s1.trans s2)
theorem TX:C0 5 "how_many" ["turn","first","end"] (yN K):=by
 refine co' ["turn","first","end"] aQ fun nd H vs Q E hr h=>?_;obtain⟨a,n,f',e,b,rfl,hS,h0,h1,hb,b1,b2,q⟩:=h;exists⟨_,(Ad (Al (Ag DW (Af Mw (Aa (pv 0) (Aa (pv 2) Ac))) (Af Mw (Aa (pv 0) (Aa (pv 1) Ac)))))),?_⟩;exists⟨a,n,e,b,rfl,hS,h0,h1,hb,b2.mono (by decide),fun H1 s1=>?_⟩;exists⟨a,n,f',b,rfl,s1.tup hS,h0,h1,hb,b1.mono (by decide),fun H2 s2=>?_⟩;exact q _ (s1.trans s2)
theorem JV:C0 6 "gathered" ["turn","barred","step","join"] (ADK K mg [("either",spJ K (Bo or)),("unlike",spJ K (Bo xor))]):=by
 refine co' ["turn","barred","step","join","told","free","stride"] aR fun nd H vs Q E hr h=>?_;obtain⟨a1,a2,f',n,e,b,c,x,J,G,rfl,hxj,hmg,S1,S2,n0,n1,hb,hc,he,G1,Gs,q⟩:=h;refine⟨_,(Ab (Aj 4 (pv 0))
  (Ab (Aj 5 (Af JS (Aa (pv 1) Ac)))
  (Ab (Aj 6 (pv 2))
  (Ab (Ik PassesOwn.never (Ak Eu (BL J6 rfl X4 jf1 (Aa (pv 6) Ac)) (pxT 0) (An _))
   (Ab (Aj 4 (uK (i:=3) (k:=5) (Hr.cons TY (Hr.cons Za Hr.nil)) (hr.mono (by decide)) rfl (by first | exact Or.inl rfl | exact Or.inr (Or.inl rfl) | exact Or.inr (Or.inr rfl)) (Aa (pv 4) (Aa (Af KC (Aa (Af Hz (Aa (pv 4) (Aa (pv 6) Ac))) (Aa (pv 5) Ac))) Ac))))
  (Ab (Aj 5 (Af KC (Aa (pv 5) (Aa (Af Hz (Aa (pv 5) (Aa (pv 6) Ac))) Ac))))
  (Ad (Aj 6 (Ag CP Ae (pv 6)))))))
  (Ad (Al (pv 4))))))),?_⟩
 symm;refine⟨a2,n,c,rfl,S2,n0,n1,hc,fun pf fc hpf lf bf=>?_⟩;have s1:=Ar hpf (.tup [.int n,.int (fc:Int)]);have t1:upd H pf (.tup [.int n,.int (fc:Int)]) pf=some (.tup [.int n,.int (fc:Int)]):=Ai;generalize upd H pf (.tup [.int n,.int (fc:Int)])=H1 at s1 t1 ⊢;have ls:=lcm_self n0;symm;refine⟨fun m Z' H'=>Az H H'/\∃(pt pf:Addr) (g fr k:Nat),0<k/\k<=300000/\H' pt=some (.tup [.int n,.int (g:Int)])/\SqT K H' pf [.int n,.int (fr:Int)]/\g<2^n.toNat/\fr<2^n.toNat/\(∀d,On n g d=true<->G k d)/\(∀d,On n fr d=true<->Fre (On n c) e k d)/\
  Z'=[some (.ref a1),some (.ref a2),some (.int e),some (.ref f'),some (.ref pt),some (.ref pf),some (.int (e*(k:Int)))]/\m=n.toNat-k,
  ⟨_,s1,a1,pf,b,fc,1,by decide,by decide,s1 _ _ S1,SqT.of t1,hb,lf,G1,fun d=>(by rw[Y4 n0 bf d,Fre.one];cases On n c d<;>simp),(by rw[show e*((1:Nat):Int)=e by lia]<;>rfl),rfl⟩,?_⟩
 rintro m Z' H2 ⟨s2,pt,pf,g,fr,k,k0,k1,Tt,Tf,lg,lfr,og,ofr,rfl,rfl⟩;have ek:(e*(k:Int)).natAbs=k:=by rcases he with h | h<;>rw[h]<;>lia
 symm;exists⟨_,rfl,?_⟩;exists Av (SqT.of (s2 _ _ S1)) at0 ?_;have mulb:∀x:Int,e*x=x\/e*x= -x:=fun x=>by rcases he with h | h<;>rw[h]<;>lia
 refine CK (fun hlt=>?_) (fun hge=>?_)
 ·have kn:(k:Int)<n:=by
   have:=mulb k;split at hlt<;>lia
  refine⟨fun Z' H'=>∃m',m'<n.toNat-k/\Az H H'/\∃(pt pf:Addr) (g fr k:Nat),0<k/\k<=300000/\H' pt=some (.tup [.int n,.int (g:Int)])/\SqT K H' pf [.int n,.int (fr:Int)]/\g<2^n.toNat/\fr<2^n.toNat/\(∀d,On n g d=true<->G k d)/\(∀d,On n fr d=true<->Fre (On n c) e k d)/\
   Z'=[some (.ref a1),some (.ref a2),some (.int e),some (.ref f'),some (.ref pt),some (.ref pf),some (.int (e*(k:Int)))]/\m'=n.toNat-k,fun Z' H' hh=>hh,?_⟩
  symm;exists mY rfl hxj hmg ?_;refine⟨pt,n,_,g,rfl,SqT.of Tt,n0,n1,lg,fun p1 h1=>?_⟩;have s3:=Ar h1 (.tup [.int n,.int ((lat n.toNat g (e*(k:Int)%n).toNat:Nat):Int)]);have t3:upd H2 p1 (.tup [.int n,.int ((lat n.toNat g (e*(k:Int)%n).toNat:Nat):Int)]) p1=some _:=Ai;generalize upd H2 p1 (.tup [.int n,.int ((lat n.toNat g (e*(k:Int)%n).toNat:Nat):Int)])=H3 at s3 t3 ⊢;symm;refine⟨p1,pf,n,n,_,fr,rfl,⟨SqT.of t3,s3.tup Tf,n0,n0,n1,n1,J0 _ _ _,lfr⟩,by rw[ls];exact n1,fun p2 c2 H4 s4 t4 B2 R2=>?_⟩;rw[ls] at t4 B2 R2;symm;refine⟨pt,p2,n,n,g,c2,rfl,⟨SqT.of (s4 _ _ (s3 _ _ Tt)),SqT.of t4,n0,n0,n1,n1,lg,B2⟩,(by rw[ls];exact n1),fun p3 c3 H5 s5 t5 B3 R3=>?_⟩;rw[ls] at t5 B3 R3;symm;refine⟨pf,n,_,fr,rfl,s5.tup (s4.tup (s3.tup Tf)),n0,n1,lfr,fun p4 h4=>?_⟩;have s6:=Ar h4 (.tup [.int n,.int ((lat n.toNat fr (e*(k:Int)%n).toNat:Nat):Int)]);have t6:upd H5 p4 (.tup [.int n,.int ((lat n.toNat fr (e*(k:Int)%n).toNat:Nat):Int)]) p4=some _:=Ai;generalize upd H5 p4 (.tup [.int n,.int ((lat n.toNat fr (e*(k:Int)%n).toNat:Nat):Int)])=H6 at s6 t6 ⊢;symm;refine⟨pf,p4,n,n,fr,_,rfl,⟨s6.tup (s5.tup (s4.tup (s3.tup Tf))),SqT.of t6,n0,n0,n1,n1,lfr,J0 _ _ _⟩,by rw[ls];exact n1,fun p5 c5 H7 s7 t7 B5 R5=>?_⟩;rw[ls] at t7 B5 R5;symm;refine Du ⟨2,20,JZ (by decide),(by show(e*(k:Int)).natAbs<2^20;rw[ek];lia),by decide⟩ ?_;symm;have e2:e*((2*k:Nat):Int)=2*(e*(k:Int)):=by rw[jk9,jm3];rfl
  refine⟨n.toNat-2*k,by lia,s2.trans (s3.trans (s4.trans (s5.trans (s6.trans s7)))),p3,p5,c3,c5,2*k,by lia,by lia,s7 _ _ (s6 _ _ t5),SqT.of t7,B3,B5,(fun d=>?_),(fun d=>?_),by rw[e2]<;>rfl,rfl⟩
  ·rw[R3.on n0 n0 n0 (kq n) (kq n) d];exact Gs k d _ _ (og d) (by rw[R2.on n0 n0 n0 (kq n) (kq n) d,Jz n0 lg,yb,og,ofr])
  ·rw[R5.on n0 n0 n0 (kq n) (kq n) d,Jz n0 lfr,Fre.step,yb,ofr,ofr]
 ·have kn:n.toNat<=k:=by
   have:=mulb k;split at hge<;>lia
  symm;exact q pt g H2 k kn s2 Tt lg og
theorem cD:C0 7 "upon" ["R","S"] (spJ K (WR (UpJ 1))):=by
 refine co' ["R","S","size","days"] yg fun nd H vs Q E hr h=>?_;obtain⟨a1,a2,n1,n2,b1,b2,rfl,W,lz,q⟩:=h;have fl:=Bp W.p1 W.p2;refine⟨_,(Ab (Aj 2 (Af Ei (Aa (pv 0) (Aa (pv 1) Ac))))
  (Ab (Aj 3 (Af Ea (Aa (pv 0) (Aa (pv 2) Ac))))
  (Ad (Al (Af KC (Aa (pv 3) (Aa (Af JV (Aa (Af Ea (Aa (pv 1) (Aa (pv 2) Ac))) (Aa (Af Hz (Aa (pv 3) (Aa Ae Ac))) (Aa Ae (Aa (By rfl Ii (G3 _)) Ac))))) Ac))))))),?_⟩
 symm;refine⟨a1,a2,n1,n2,b1,b2,rfl,W.s1,W.s2,W.p1,W.p2,W.l1,W.l2,lz,fun H1 s1=>?_⟩;generalize hz:Bx n1 n2=z at*
 have z0:=fl.1;have d1:n1∣z:=fl.2.1;have d2:n2∣z:=fl.2.2.1;have ls:=lcm_self z0;symm;refine⟨a1,n1,z,b1,rfl,s1.tup W.s1,W.p1,W.l1,W.k1,z0,lz,d1,fun pr cr hr1 Sr=>?_⟩;have s2:=Ar hr1 (.tup [.int z,.int (cr:Int)]);have t2:upd H1 pr (.tup [.int z,.int (cr:Int)]) pr=some (.tup [.int z,.int (cr:Int)]):=Ai;generalize upd H1 pr (.tup [.int z,.int (cr:Int)])=H2 at s2 t2 ⊢;symm;refine⟨a2,n2,z,b2,rfl,s2.tup (s1.tup W.s2),W.p2,W.l2,W.k2,z0,lz,d2,fun ps cs hs1 Ss=>?_⟩;have s3:=Ar hs1 (.tup [.int z,.int (cs:Int)]);have t3:upd H2 ps (.tup [.int z,.int (cs:Int)]) ps=some (.tup [.int z,.int (cs:Int)]):=Ai;generalize upd H2 ps (.tup [.int z,.int (cs:Int)])=H3 at s3 t3 ⊢;symm;refine⟨pr,z,_,cr,rfl,s3.tup (SqT.of t2),z0,lz,Sr.lt,fun pl hl1=>?_⟩;have s4:=Ar hl1 (.tup [.int z,.int ((lat z.toNat cr (1%z).toNat:Nat):Int)]);have t4:upd H3 pl (.tup [.int z,.int ((lat z.toNat cr (1%z).toNat:Nat):Int)]) pl=some _:=Ai;generalize upd H3 pl (.tup [.int z,.int ((lat z.toNat cr (1%z).toNat:Nat):Int)])=H4 at s4 t4 ⊢;symm;refine⟨ps,pl,_,z,1,cs,_,_,or,Gt (On z cs) (On z (lat z.toNat cr (1%z).toNat)) (1),rfl,qc,Ii,s4 _ _ t3,SqT.of t4,z0,lz,Ss.lt,J0 _ _ _,.inl rfl,fun d=>Gt.one.symm,J1,fun pg g H5 k kn s5 t5 lg og0=>?_⟩;have en:((z.toNat:Nat):Int)=z:=by lia
 have og:∀d,On z g d=true<->Gat (On z cs) (On z (lat z.toNat cr (1%z).toNat)) (1) d:=fun d=>by rw[og0,Gat.iff (n:=z.toNat) (by lia) kn (fun x y h=>K9 (en ▸ h)) (fun x y h=>K9 (en ▸ h))]
 symm;refine⟨pr,pg,z,z,cr,g,rfl,⟨s5.tup (s4.tup (s3.tup (SqT.of t2))),SqT.of t5,z0,z0,lz,lz,Sr.lt,lg⟩,by rw[ls];exact lz,fun p c H6 s6 t6 B R=>?_⟩;rw[ls] at t6 B R;refine q p c H6 (s1.trans (s2.trans (s3.trans (s4.trans (s5.trans s6))))) t6 B fun d=>?_;rw[R.self z0 d,yb];exact kI (Gy.on W.p1 z0 d1 Sr) (Gy.on W.p2 z0 d2 Ss) (fun d=>Jz z0 Sr.lt) og d
theorem Xm:C0 7 "until" ["R","S"] (spJ K (WR (UpJ (-1)))):=by
 refine co' ["R","S","size","days"] tL fun nd H vs Q E hr h=>?_;obtain⟨a1,a2,n1,n2,b1,b2,rfl,W,lz,q⟩:=h;have fl:=Bp W.p1 W.p2;refine⟨_,(Ab (Aj 2 (Af Ei (Aa (pv 0) (Aa (pv 1) Ac))))
  (Ab (Aj 3 (Af Ea (Aa (pv 0) (Aa (pv 2) Ac))))
  (Ad (Al (Af KC (Aa (pv 3) (Aa (Af JV (Aa (Af Ea (Aa (pv 1) (Aa (pv 2) Ac))) (Aa (Af Hz (Aa (pv 3) (Aa (Fx Ed Ae) Ac))) (Aa (Fx Ed Ae) (Aa (By rfl Ii (G3 _)) Ac))))) Ac))))))),?_⟩
 symm;refine⟨a1,a2,n1,n2,b1,b2,rfl,W.s1,W.s2,W.p1,W.p2,W.l1,W.l2,lz,fun H1 s1=>?_⟩;generalize hz:Bx n1 n2=z at*
 have z0:=fl.1;have d1:n1∣z:=fl.2.1;have d2:n2∣z:=fl.2.2.1;have ls:=lcm_self z0;symm;refine⟨a1,n1,z,b1,rfl,s1.tup W.s1,W.p1,W.l1,W.k1,z0,lz,d1,fun pr cr hr1 Sr=>?_⟩;have s2:=Ar hr1 (.tup [.int z,.int (cr:Int)]);have t2:upd H1 pr (.tup [.int z,.int (cr:Int)]) pr=some (.tup [.int z,.int (cr:Int)]):=Ai;generalize upd H1 pr (.tup [.int z,.int (cr:Int)])=H2 at s2 t2 ⊢;symm;refine⟨a2,n2,z,b2,rfl,s2.tup (s1.tup W.s2),W.p2,W.l2,W.k2,z0,lz,d2,fun ps cs hs1 Ss=>?_⟩;have s3:=Ar hs1 (.tup [.int z,.int (cs:Int)]);have t3:upd H2 ps (.tup [.int z,.int (cs:Int)]) ps=some (.tup [.int z,.int (cs:Int)]):=Ai;generalize upd H2 ps (.tup [.int z,.int (cs:Int)])=H3 at s3 t3 ⊢;symm;refine⟨pr,z,_,cr,rfl,s3.tup (SqT.of t2),z0,lz,Sr.lt,fun pl hl1=>?_⟩;have s4:=Ar hl1 (.tup [.int z,.int ((lat z.toNat cr (-1%z).toNat:Nat):Int)]);have t4:upd H3 pl (.tup [.int z,.int ((lat z.toNat cr (-1%z).toNat:Nat):Int)]) pl=some _:=Ai;generalize upd H3 pl (.tup [.int z,.int ((lat z.toNat cr (-1%z).toNat:Nat):Int)])=H4 at s4 t4 ⊢;symm;refine⟨ps,pl,_,z,-1,cs,_,_,or,Gt (On z cs) (On z (lat z.toNat cr (-1%z).toNat)) (-1),rfl,qc,Ii,s4 _ _ t3,SqT.of t4,z0,lz,Ss.lt,J0 _ _ _,.inr rfl,fun d=>Gt.one.symm,J1,fun pg g H5 k kn s5 t5 lg og0=>?_⟩;have en:((z.toNat:Nat):Int)=z:=by lia
 have og:∀d,On z g d=true<->Gat (On z cs) (On z (lat z.toNat cr (-1%z).toNat)) (-1) d:=fun d=>by rw[og0,Gat.iff (n:=z.toNat) (by lia) kn (fun x y h=>K9 (en ▸ h)) (fun x y h=>K9 (en ▸ h))]
 symm;refine⟨pr,pg,z,z,cr,g,rfl,⟨s5.tup (s4.tup (s3.tup (SqT.of t2))),SqT.of t5,z0,z0,lz,lz,Sr.lt,lg⟩,by rw[ls];exact lz,fun p c H6 s6 t6 B R=>?_⟩;rw[ls] at t6 B R;refine q p c H6 (s1.trans (s2.trans (s3.trans (s4.trans (s5.trans s6))))) t6 B fun d=>?_;rw[R.self z0 d,yb];exact kI (Gy.on W.p1 z0 d1 Sr) (Gy.on W.p2 z0 d2 Ss) (fun d=>Jz z0 Sr.lt) og d
theorem pX:C0 7 "till" ["R","S"] (spJ K (WR TiU)):=by
 refine co' ["R","S","size"] yh fun nd H vs Q E hr h=>?_;obtain⟨a1,a2,n1,n2,b1,b2,rfl,W,lz,q⟩:=h;have fl:=Bp W.p1 W.p2;refine⟨_,(Ab (Aj 2 (Af Ei (Aa (pv 0) (Aa (pv 1) Ac))))
  (Ad (Al (Af JV (Aa (Af Ea (Aa (pv 0) (Aa (pv 2) Ac))) (Aa (Af Ea (Aa (pv 1) (Aa (pv 2) Ac))) (Aa Ae (Aa (By rfl Ii (G3 _)) Ac)))))))),?_⟩
 symm;refine⟨a1,a2,n1,n2,b1,b2,rfl,W.s1,W.s2,W.p1,W.p2,W.l1,W.l2,lz,fun H1 s1=>?_⟩;generalize hz:Bx n1 n2=z at*
 have z0:=fl.1;have d1:n1∣z:=fl.2.1;have d2:n2∣z:=fl.2.2.1;have ls:=lcm_self z0;symm;refine⟨a1,n1,z,b1,rfl,s1.tup W.s1,W.p1,W.l1,W.k1,z0,lz,d1,fun pr cr hr1 Sr=>?_⟩;have s2:=Ar hr1 (.tup [.int z,.int (cr:Int)]);have t2:upd H1 pr (.tup [.int z,.int (cr:Int)]) pr=some (.tup [.int z,.int (cr:Int)]):=Ai;generalize upd H1 pr (.tup [.int z,.int (cr:Int)])=H2 at s2 t2 ⊢;symm;refine⟨a2,n2,z,b2,rfl,s2.tup (s1.tup W.s2),W.p2,W.l2,W.k2,z0,lz,d2,fun ps cs hs1 Ss=>?_⟩;have s3:=Ar hs1 (.tup [.int z,.int (cs:Int)]);have t3:upd H2 ps (.tup [.int z,.int (cs:Int)]) ps=some (.tup [.int z,.int (cs:Int)]):=Ai;generalize upd H2 ps (.tup [.int z,.int (cs:Int)])=H3 at s3 t3 ⊢;symm;refine⟨pr,ps,_,z,1,cr,cs,_,or,Gt (On z cr) (On z cs) (1),rfl,qc,Ii,s3 _ _ t2,SqT.of t3,z0,lz,Sr.lt,Ss.lt,.inl rfl,fun d=>Gt.one.symm,J1,fun pg g H5 k kn s5 t5 lg og0=>?_⟩;have oR:=fun d=>Gy.on W.p1 z0 d1 Sr d;have oS:=fun d=>Gy.on W.p2 z0 d2 Ss d;have en:((z.toNat:Nat):Int)=z:=by lia
 have og:∀d,On z g d=true<->Gat (On z cr) (On z cs) (1) d:=fun d=>by rw[og0,Gat.iff (n:=z.toNat) (by lia) kn (fun x y h=>K9 (en ▸ h)) (fun x y h=>K9 (en ▸ h))]
 refine q pg g H5 (s1.trans (s2.trans (s3.trans s5))) t5 lg fun d=>?_;rw[og];constructor
 ·rintro⟨j,ht,hb⟩;refine⟨d-1*(j:Int),by rw[<-oR];exact ht,by lia,fun s' h1 h2=>?_⟩;by_cases hd:d<s'
  ·exact hd
  ·have:=hb (d-s').toNat (by lia);rw[oS,show d-1*(((d-s').toNat:Nat):Int)=s' by lia,h1] at this;cases this
 ·rintro⟨r,hs,hle,hb⟩;refine⟨(d-r).toNat,by rw[oR,show d-1*(((d-r).toNat:Nat):Int)=r by lia];exact hs,fun i hi=>?_⟩;rw[oS];cases h:On n2 b2 (d-1*(i:Int))
  ·rfl
  ·have:=hb _ h (by lia);lia
theorem TV:C0 8 "nearer_ahead" ["R"] (ABZ K):=by
 refine co' ["R","days","behind","first_nearer"] RT fun nd H vs Q E hr h=>?_;obtain⟨a,n,b,rfl,hS,h0,h1,hb,q⟩:=h;refine⟨_,(Ab (Aj 1 (Af V0 (Aa (pv 0) Ac)))
  (Ab (Aj 2 (Ag bF (Ck Ew (pv 1) (Cr Ae) El) (FT rfl (Ez ["R","days","behind","first_nearer"] ["R","days","behind","first_nearer"] rfl rfl (by with_unfolding_all rfl) (by ac_rfl) rfl (by ac_rfl) rfl (by ac_rfl) (by walk_at"fm") (by with_unfolding_all rfl) (by with_unfolding_all rfl)) (Gj (Ck Ew (pv 1) El (Cr Ae))) (fun _ _ _ _=>Ep) (fun _ _ _ _=>(Ag Be (pv 0) (Dp G7 (pv 1) Ae))))))
  (Ab (O7 (i:=3) nd rfl (by walk_at"o") (xs:=["day","other"]) rfl (Ie ["day","other"] ["R","days","behind","first_nearer"] ["R","days","behind","first_nearer"] rfl rfl (by with_unfolding_all rfl) (by ac_rfl) rfl (by ac_rfl) (by ac_rfl) (by ac_rfl) (by walk_at"fm") (by with_unfolding_all rfl) (by with_unfolding_all rfl)) (zN rfl wD (Aa (pv 1) (Aa (pv 2) Ac))) (fun _ _ _ _=>Ep) (fun _ _ _ _=>(Yw (n:=2) rfl (Dv (Cg (i:=0) (show (["day","other","R","days","behind","first_nearer"]:List Str).Nodup from by ac_rfl) rfl (by walk_at"o")) (Dv (Cg (i:=1) (show (["day","other","R","days","behind","first_nearer"]:List Str).Nodup from by ac_rfl) rfl (by walk_at"o")) JH)))) (fun _ _ _ _=>(Ag Be (Ag Ba (Ag Be (pv 0) (pv 1)) Ae) Ae)))
  (Ad (Al (Af pX (Aa (pv 0) (Aa (Af JQ (Aa (pxT 0) (Aa (pv 3) Ac))) Ac)))))))),?_⟩
 symm;refine⟨a,n,b,rfl,hS,h0,h1,hb,fun l H1 hl s1 t1=>?_⟩;have mem:=fP (b:=b) h0;have srt:=ZQ b n.toNat;have len:=Xk b n.toNat;generalize dli b n.toNat=ds at t1 mem srt len;symm;refine GP (SqL.of t1) (fun l2 hl2=>?_);rw[jW];have s2:=Ar hl2 (.lst ((ds.drop 1).map V.int));have t2:upd H1 l2 (.lst ((ds.drop 1).map V.int)) l2=some _:=Ai;generalize upd H1 l2 (.lst ((ds.drop 1).map V.int))=H2 at s2 t2 ⊢;exists GD (Jr ?_);refine GP (SqL.of (s2 _ _ t1)) (fun l3 hl3=>?_);rw[jV,<-List.map_take];have s3:=Ar hl3 (.lst ((ds.take 1).map V.int));have t3:upd H2 l3 (.lst ((ds.take 1).map V.int)) l3=some _:=Ai;generalize upd H2 l3 (.lst ((ds.take 1).map V.int))=H3 at s3 t3 ⊢;have s13:=s1.trans (s2.trans s3);refine⟨l3,rfl,⟨_,SqL.of t3⟩,?_⟩;refine Hx Ng ?_ (fun D ys hD=>(Ar hD _).seq (SqL.of t3)) (fun _=>true) (fun v=>match v with | .int d=>V.int (d+n) | _=>.non) (fun x hx D ys Q' hD h=>h) (fun x hx _ D ys Q' hD h=>?_) (fun D hD=>?_)
 ·rw[js,jc0];exact yv (Nat.min_le_left _ _) (by decide)
 ·obtain⟨d,hd,rfl⟩:=ya.mp hx;symm;exists Av ((Ar hD _).tup (s13.tup hS)) at0 ?_;exact h
 rw[jc6.mpr (fun _ _=>rfl),ua];rw[show ((fun v:V=>match v with | .int d=>V.int (d+n) | _=>.non) ∘ V.int)=V.int ∘ (· +n) from rfl,<-ua]
 have s4:=Ar hD (.lst (((ds.take 1).map (· +n)).map V.int));have t4:upd H3 D (.lst (((ds.take 1).map (· +n)).map V.int)) D=some _:=Ai;generalize upd H3 D (.lst (((ds.take 1).map (· +n)).map V.int))=H4 at s4 t4 ⊢;symm;have bl:=UL n ds;refine zA ((s3.trans s4) _ _ t2) t4 ?_ (fun l5 hl5=>?_)
 ·rw[<-zk,<-kx,js];exact zv (jp5 bl) (zv (show ds.length<=150000 by lia) (by decide))
 rw[<-kx];show Im _ _ _ (upd H4 l5 (.lst ((Fj n ds).map V.int))) _;have s5:=Ar hl5 (.lst ((Fj n ds).map V.int));have t5:upd H4 l5 (.lst ((Fj n ds).map V.int)) l5=some _:=Ai;generalize upd H4 l5 (.lst ((Fj n ds).map V.int))=H5 at s5 t5 ⊢;have s15:=s13.trans (s4.trans s5);have t15:=(s2.trans (s3.trans (s4.trans s5))) _ _ t1;symm;exists Yu (yu ?_);refine⟨l,l5,rfl,⟨_,_,SqL.of t15,SqL.of t5⟩,?_⟩;refine pQ (SqL.of t15) (SqL.of t5) ?_ (fun x y=>(x+y)/2+1) (fun x y H' Q' h=>?_) (fun D6 H6 hD6 s6 t6=>?_)
 ·exact yv (show ds.length<=150000 by lia) (by decide)
 ·symm;exact h
 symm;exists Av (s6.tup (s15.tup hS)) at0 ?_;have ls:=lcm_self h0;exists⟨D6,mids n ds,n,rfl,SqL.of t6,h0,h1,fun p c H7 s7 t7 B=>?_⟩;refine⟨a,p,n,n,b,c,rfl,⟨(s6.trans s7).tup (s15.tup hS),SqT.of t7,h0,h0,h1,h1,hb,B.lt⟩,by rw[ls];exact h1,fun p8 e H8 s8 t8 le R=>?_⟩;rw[ls] at t8 le R;refine q p8 e H8 (s15.trans (s6.trans (s7.trans s8))) t8 le fun d=>?_;rw[R];have per:∀d k,On n b (d+n*k)=On n b d:=fun d k=>O2 (kq n) d k;exact jR h0 per fun x=>by rw[B.bit x];exact oE h0 per srt mem x
theorem AAb:C0 9 "near" ["R","S"] (spJ K (WR NrU)):=by
 refine co' ["R","S","early"] ym fun nd H vs Q E hr h=>?_;obtain⟨a1,a2,n1,n2,b1,b2,rfl,W,lz,q⟩:=h;have p1:=W.p1;have p2:=W.p2;have fl:=Bp p1 p2;have fl':=Vf p1 p2;refine⟨_,(Ab (Aj 2 (Af TV (Aa (pv 0) Ac)))
  (Ad (Al (Af TY (Aa (Af Xm (Aa (pv 0) (Aa (Af KC (Aa (pv 1) (Aa (pv 2) Ac))) Ac))) (Aa (Af cD (Aa (pv 0) (Aa (Af Oq (Aa (pv 1) (Aa (pv 2) Ac))) Ac))) Ac)))))),?_⟩
 symm;exists⟨a1,n1,b1,rfl,W.s1,p1,W.l1,W.k1,fun pe e H1 s1 t1 le oe=>?_⟩;refine⟨a2,pe,n2,n1,b2,e,rfl,⟨s1.tup W.s2,SqT.of t1,p2,p1,W.l2,W.l1,W.k2,le⟩,by rw[<-fl'];exact lz,fun pb cb H2 s2 t2 Bb Rb=>?_⟩;rw[<-fl'] at t2 Bb Rb;generalize hz:Bx n1 n2=z at*
 have z0:=fl.1;have d1:n1∣z:=fl.2.1;have d2:n2∣z:=fl.2.2.1;have lz1:Bx n1 z=z:=Xa p1 z0 d1;have ls:=lcm_self z0;symm;refine⟨a1,pb,n1,z,b1,cb,rfl,⟨(s1.trans s2).tup W.s1,SqT.of t2,p1,z0,W.l1,lz,W.k1,Bb⟩,by rw[lz1];exact lz,fun pu cu H3 s3 t3 lu ou=>?_⟩;rw[lz1] at t3 lu ou;have s13:=s1.trans (s2.trans s3);symm;refine⟨a2,pe,n2,n1,b2,e,rfl,⟨s13.tup W.s2,SqT.of ((s2.trans s3) _ _ t1),p2,p1,W.l2,W.l1,W.k2,le⟩,by rw[<-fl'];exact lz,fun pw cw H4 s4 t4 Bw Rw=>?_⟩;rw[<-fl'] at t4 Bw Rw;symm;refine⟨a1,pw,n1,z,b1,cw,rfl,⟨(s13.trans s4).tup W.s1,SqT.of t4,p1,z0,W.l1,lz,W.k1,Bw⟩,by rw[lz1];exact lz,fun pv cv H5 s5 t5 lv ov=>?_⟩;rw[lz1] at t5 lv ov;symm;refine⟨pu,pv,z,z,cu,cv,rfl,⟨SqT.of ((s4.trans s5) _ _ t3),SqT.of t5,z0,z0,lz,lz,lu,lv⟩,by rw[ls];exact lz,fun p c H6 s6 t6 B R=>?_⟩;rw[ls] at t6 B R;refine q p c H6 (s13.trans (s4.trans (s5.trans s6))) t6 B fun d=>?_;rw[R.self z0 d,ji3,ou,ov,cV,kE];refine Iff.trans ?_ (oA p1 (fun d k=>O2 (kq n1) d k));unfold GUp GUn;have e1:∀x,On z cb x=true<->On n2 b2 x=true/\WL (On n1 b1) x:=fun x=>by rw[Rb.on p2 p1 z0 d2 d1 x,yb,oe]
 have e2:∀x,On z cw x=true<->On n2 b2 x=true/\¬WL (On n1 b1) x:=fun x=>by
  rw[Rw.on p2 p1 z0 d2 d1 x];unfold bn;rw[yb,<-oe,jm2,jj7]
 simp only[e1,e2]
theorem ACg:C0 8 "kth" ["number","R","S"] (ADJ K):=by
 refine co' ["number","R","S","size","step","ends","days","place","odd"] ABl fun nd H vs Q E hr h=>?_;obtain⟨k,a1,a2,n1,n2,b1,b2,rfl,W,k0,lz,q⟩:=h;have fl:=Bp W.p1 W.p2;refine⟨_,(Ab (Ay (Ak Bk (pv 0) Ae (An _))
  (Ad BX)
  Aq)
  (Ab (Aj 3 (Af Ei (Aa (pv 1) (Aa (pv 2) Ac))))
  (Ab (Fe (Aj 4 (Dh (Ak FW (pv 0) Ae (An _)) Ae (Fx Ed Ae))))
  (Ab (Fe (Aj 5 (Dh (Ak FW (pv 0) Ae (An _)) (Af Ea (Aa (pv 2) (Aa (pv 3) Ac))) (Af Hz (Aa (Af Ea (Aa (pv 2) (Aa (pv 3) Ac))) (Aa (Fx Ed Ae) Ac))))))
  (Ab (Aj 6 (Af Ea (Aa (pv 1) (Aa (pv 3) Ac))))
  (Ab (Aj 7 (BL J6 rfl X4 jf1 (Aa (pv 0) Ac)))
  (Ab (Ik PassesOwn.never (PW.pt (K7 (Ak FW (pv 7) Ae (An _)) (JF (Ak FW (pxT 6) Ae (An _)))))
   (Ab (Aj 8 (Af KC (Aa (pv 6) (Aa (Af JV (Aa (pv 6) (Aa (pv 5) (Aa (pv 4) (Aa (By rfl YB (G3 _)) Ac))))) Ac))))
  (Ab (Fe (Aj 6 (Dh (Ak Bk (Ag Bs (pv 7) Ae) Ae (An _)) (pv 8) (Af Oq (Aa (pv 6) (Aa (pv 8) Ac))))))
  (Ad (Aj 7 (Ag Ba (Ag Be (pv 7) Ae) Ae))))))
  (Ad (Al (Dh (Ak FW (pv 0) Ae (An _)) (Af cD (Aa (pv 6) (Aa (pv 5) Ac))) (Af Xm (Aa (pv 6) (Aa (pv 5) Ac))))))))))))),?_⟩
 symm;exists CJ (fun c=>k0 (by injection c)) ?_;refine⟨a1,a2,n1,n2,b1,b2,rfl,W.s1,W.s2,W.p1,W.p2,W.l1,W.l2,lz,fun H1 s1=>?_⟩;generalize hz:Bx n1 n2=z at*
 have z0:=fl.1;have d1:n1∣z:=fl.2.1;have d2:n2∣z:=fl.2.2.1;have ls:=lcm_self z0;have str2:∀(H':Hp) (Q':VK) (E':XK),Az H H'->(∀(p:Addr) (c:Nat),H' p=none->Gy n2.toNat b2 z.toNat c->Q' (.ref p) (upd H' p (.tup [.int z,.int (c:Int)])))->O5 K ([.ref a2,.int z]++[]) H' Q' E':=fun H' Q' E' s hq=>
  ⟨a2,n2,z,b2,rfl,s.tup W.s2,W.p2,W.l2,W.k2,z0,lz,d2,hq⟩
 symm;obtain⟨e,he⟩:∃e:Int,(0<k->e=1)/\(¬0<k->e= -1):=⟨if 0<k then 1 else -1,fun c=>xh c,fun c=>xk c⟩;have hek:e=if 0<k then 1 else -1:=by
  split
  ·exact he.1 ‹_›
  ·exact he.2 ‹_›
 have he':e=1\/e= -1:=by
  by_cases c:0<k
  ·exact .inl (he.1 c)
  ·exact .inr (he.2 c)
 refine FP (fun Z' H'=>Z'=[some (.int k),some (.ref a1),some (.ref a2),some (.int z),some (.int e),none,none,none,none]/\H'=H1) ?_ ?_
 ·symm;refine CK (fun c=>?_) (fun c=>?_)
  ·rw[he.1 c];symm;exact⟨rfl,rfl⟩
  ·rw[he.2 c];symm;exact⟨rfl,rfl⟩
 rintro Z' H1' ⟨rfl,rfl⟩;symm;refine FP (fun Z' H'=>Ex2 fun(pe:Addr) (ce:Nat)=>An5 (Z'=[some (.int k),some (.ref a1),some (.ref a2),some (.int z),some (.int e),some (.ref pe),none,none,none]) (Az H1' H') (H' pe=some (.tup [.int z,.int (ce:Int)])) (ce<2^z.toNat) (∀d,On z ce d=On n2 b2 (if 0<k then d else d+1))) ?_ ?_
 ·symm;refine CK (fun c=>?_) (fun c=>?_)
  ·symm;exists str2 _ _ _ s1 fun ps cs hs1 Ss=>?_;exact⟨ps,cs,rfl,Ar hs1 _,Ai,Ss.lt,fun d=>by rw[xh c];exact Gy.on W.p2 z0 d2 Ss d⟩
  ·symm;exists str2 _ _ _ s1 fun ps cs hs1 Ss=>?_;exists⟨ps,z,-1,cs,rfl,SqT.of Ai,z0,lz,Ss.lt,fun p hp=>?_⟩;exact⟨p,_,rfl,(Ar hs1 _).trans (Ar hp _),Ai,J0 _ _ _,fun d=>by rw[xk c,Jz z0 Ss.lt,Gy.on W.p2 z0 d2 Ss,show d- -1=d+1 by lia]⟩
 rintro Z' H2 ⟨pe,ce,rfl,s2,t2,lce,oe⟩;symm;refine⟨a1,n1,z,b1,rfl,s2.tup (s1.tup W.s1),W.p1,W.l1,W.k1,z0,lz,d1,fun pr cr hr1 Sr=>?_⟩;have s3:=Ar hr1 (.tup [.int z,.int (cr:Int)]);have t3:upd H2 pr (.tup [.int z,.int (cr:Int)]) pr=some (.tup [.int z,.int (cr:Int)]):=Ai;generalize upd H2 pr (.tup [.int z,.int (cr:Int)])=H3 at s3 t3 ⊢;symm;refine⟨_,rfl,?_⟩;obtain⟨p0,hp0⟩:∃p0:Int,(if k<0 then -k else k)=p0:=⟨_,rfl⟩;have ap:p0=(k.natAbs:Int):=by split at hp0<;>lia
 rw[hp0];symm;refine⟨fun m Z' H'=>Az H3 H'/\∃(pd:Addr) (t:Nat) (p:Int) (od:Option V),1<=p/\p<=p0/\H' pd=some (.tup [.int z,.int (t:Int)])/\t<2^z.toNat/\((∀d,Bar (On z ce) e z.toNat d)->∀d,(On z t d=true/\(cG (On z t) (On z ce) e z.toNat d:Int)=p)<->(On n1 b1 d=true/\(cG (On n1 b1) (On z ce) e z.toNat d:Int)=p0))/\
  Z'=[some (.int k),some (.ref a1),some (.ref a2),some (.int z),some (.int e),some (.ref pe),some (.ref pd),some (.int p),od]/\m=p.toNat,
  ⟨_,Az.refl _,pr,cr,p0,none,by lia,by lia,t3,Sr.lt,(fun _ d=>by rw[show On z cr=On n1 b1 from funext (Gy.on W.p1 z0 d1 Sr)]),rfl,rfl⟩,?_⟩
 rintro m Z' H4 ⟨s4,pd,t,p,od,p1,pp,td,lt,hT,rfl,rfl⟩;symm;have te:=s4 _ _ (s3 _ _ t2);have fin:(p=1\/t=0)->∀(E':XK),spJ K (WR (UpJ e)) ([.ref pd,.ref pe]++[]) H4 Q E':=fun nn E'=>
  ⟨pd,pe,z,z,t,ce,rfl,⟨SqT.of td,SqT.of te,z0,z0,lz,lz,lt,lce⟩,(by rw[ls];exact lz),fun p' c' H' s' t' lc' R=>by
   rw[ls] at t' lc' R;exact q p' c' H' (s1.trans (s2.trans (s3.trans (s4.trans s')))) t' lc' fun d=>by rw[R];exact(uo (b1:=b1) (t:=t) z0 d2 W.p1 k0 hek ap oe hT nn d).symm⟩
 refine CK (fun hp=>?_) (fun hp=>?_)
 ·symm;exists Av (SqT.of td) at1 ?_;refine CK (fun ht=>?_) (fun ht=>?_)
  ·refine⟨fun Z' H'=>∃m',m'<p.toNat/\Az H3 H'/\∃(pd:Addr) (t:Nat) (p:Int) (od:Option V),1<=p/\p<=p0/\H' pd=some (.tup [.int z,.int (t:Int)])/\t<2^z.toNat/\((∀d,Bar (On z ce) e z.toNat d)->∀d,(On z t d=true/\(cG (On z t) (On z ce) e z.toNat d:Int)=p)<->(On n1 b1 d=true/\(cG (On n1 b1) (On z ce) e z.toNat d:Int)=p0))/\
   Z'=[some (.int k),some (.ref a1),some (.ref a2),some (.int z),some (.int e),some (.ref pe),some (.ref pd),some (.int p),od]/\m'=p.toNat,fun Z' H' hh=>hh,?_⟩
   symm;exists⟨pd,pe,_,z,e,t,ce,_,xor,(fun k d=>cG (On z t) (On z ce) e k d%2=1),rfl,qh _ qc,YB,td,SqT.of te,z0,lz,lt,lce,he',(fun d=>qC),ZF,fun pg g H5 kk kn s5 t5 lg og=>?_⟩;refine⟨pd,pg,z,z,t,g,rfl,⟨s5.tup (SqT.of td),SqT.of t5,z0,z0,lz,lz,lt,lg⟩,(by rw[ls];exact lz),fun po c H6 s6 t6 B R=>?_⟩;rw[ls] at t6 B R;have td6:=s6 _ _ (s5 _ _ td);symm;refine FP (fun Z' H'=>Ex2 fun(pn:Addr) (t':Nat)=>An6 (Z'=[some (.int k),some (.ref a1),some (.ref a2),some (.int z),some (.int e),some (.ref pe),some (.ref pn),some (.int p),some (.ref po)]) (Az H6 H') (H' pn=some (.tup [.int z,.int (t':Int)])) (t'<2^z.toNat) (p%2=1->∀d,On z t' d=On z c d) (¬p%2=1->∀d,On z t' d=(On z t d&&!On z c d))) ?_ ?_
   ·symm;refine CK (fun o=>?_) (fun o=>?_)
    ·symm;exact⟨po,c,rfl,Az.refl _,t6,B,fun _ _=>rfl,fun z=>absurd (by injection o) z⟩
    ·symm;refine⟨pd,po,z,z,t,c,rfl,⟨SqT.of td6,SqT.of t6,z0,z0,lz,lz,lt,B⟩,(by rw[ls];exact lz),fun pn t' H7 s7 t7 B7 R7=>?_⟩;rw[ls] at t7 B7 R7;symm;exact⟨pn,t',rfl,s7,t7,B7,fun z=>absurd (yk V.int z) o,fun _ d=>R7.self z0 d⟩
   rintro Z' H7 ⟨pn,t',rfl,s7,t7,lt',w1,w2⟩;symm;exact⟨_,(by lia:((p+1)/2).toNat<p.toNat),s4.trans (s5.trans (s6.trans s7)),pn,t',(p+1)/2,_,by lia,by lia,t7,lt',(fun hB d=>(oK hB kn og (fun d=>R.self z0 d) hp w1 w2 d).trans (hT hB d)),rfl,rfl⟩
  ·symm;have nn:p=1\/t=0:=.inr (by lia);refine CK (fun c=>?_) (fun c=>?_)
   ·symm;have f:=fin nn;rw[he.1 c] at f;exact f _
   ·symm;have f:=fin nn;rw[he.2 c] at f;exact f _
 ·refine Dz ?_;have nn:p=1\/t=0:=.inl (by lia);symm;refine CK (fun c=>?_) (fun c=>?_)
  ·symm;have f:=fin nn;rw[he.1 c] at f;exact f _
  ·symm;have f:=fin nn;rw[he.2 c] at f;exact f _
theorem vQ:C0 6 "every" ["number","R","day"] (ADL K):=by
 refine co' ["number","R","day","size","days","first","places"] tO fun nd H vs Q E hr h=>?_;obtain⟨k,d,a,n,b,rfl,hS,h0,h1,hb,bd,bk,k1,lz,q⟩:=h;have bn:Bt 64 n:=CN (by lia) (by lia) (by decide);refine⟨_,(Ab (Bc (Af Ce (Aa (pv 0) Ac)))
  (Ab (Aj 3 (Ag CP (pxT 1) (pv 0)))
  (Ab (Bc (Af Eb (Aa (pv 3) Ac)))
  (Ab (Aj 4 (Af V0 (Aa (pv 1) Ac)))
  (Ab (Aj 5 (Ag Bs (Af TX (Aa (pv 1) (Aa Ae (Aa (pv 2) Ac)))) (pv 0)))
  (Ab (Aj 6 (au rfl rfl Zx rfl Iw (Aa (pv 5) (Aa (Ag CP (BL Bj rfl Do xi (Aa (pv 4) Ac)) (pv 0)) (Aa (pv 0) Ac)))))
  (Ad (Al (Af JQ (Aa (pv 3) (Aa (FT rfl (Ez ["number","R","day","size","days","first","places"] ["number","R","day","size","days","first","places"] rfl rfl (by with_unfolding_all rfl) (by ac_rfl) rfl (by ac_rfl) rfl (by ac_rfl) (by walk_at"fm") (by with_unfolding_all rfl) (by with_unfolding_all rfl)) (Gj (pv 6)) (fun _ _ _ _=>Ep) (fun _ _ _ _=>(Ag Be (Ag CP (Ag Ba (pv 0) (BL S7 rfl Do xi (Aa (pv 5) Ac))) (Dp G7 (pv 2) Ae)) (Dp jF (pv 5) (Ag Bs (pv 0) (BL S7 rfl Do xi (Aa (pv 5) Ac))) (fun _ _=>rfl))))) Ac))))))))))),?_⟩
 symm;exists⟨k,rfl,k1,?_⟩;exists Av hS at0 ?_;exists Du ⟨64,400,bn,bk,by decide⟩ ?_;refine⟨n*k,rfl,lz,?_⟩;have kn:=eY h0 (show 0<k by lia);symm;refine⟨a,n,b,rfl,hS,h0,h1,hb,fun ld H1 _ s1 t1=>?_⟩;have D:=Dn.mk' h0 (ZQ b n.toNat) (fP (b:=b) h0);have len:=Xk b n.toNat;generalize dli b n.toNat=ds at t1 D len;have hS1:=s1.tup hS;symm;refine⟨a,n,0,d,b,rfl,hS1,h0,h1,hb,(by unfold Bt;decide),bd,fun H2 s2=>?_⟩;rw[Nf,Int.sub_zero];symm;have f0:=qk (CC n b d) (show k≠0 by lia);have f1:=qg (CC n b d) (show 0<k by lia);have t2:=s2 _ _ t1;have hS2:=s2.tup hS1;refine⟨ld,_,rfl,.inl (SqL.of t2),?_⟩;rw[js];symm;exists IV ?_;have mk:(ds.length:Int)*k<=n*k:=vv (by lia) (by lia);have mk0:0<=(ds.length:Int)*k:=jf4 (by lia) (by lia);refine⟨CC n b d%k,(ds.length:Int)*k,k,ds.length,.inl rfl,by lia,by lia,K5 (by lia) (by lia) (by lia) (by lia) (by lia) (by lia),?_,by lia,fun lp hlp=>?_⟩
 ·rw[JD (by lia)];rcases ji1 ds.length with z | z
  ·rw[z,xk (by simp;lia)];rfl
  ·have e1:(ds.length:Int)*k-CC n b d%k-1=(k-1-CC n b d%k)+k*((ds.length:Int)-1):=by
    rw[Int.mul_sub,Zs k];lia
   have e2:k<=(ds.length:Int)*k:=eY (by lia) (by lia);rw[xh (by lia),e1,jm7 _ _ (by lia),jc2 (by lia) (by lia)];lia
 have s3:=Ar hlp (.lst ((List.range ds.length).map fun(i:Nat)=>V.int (CC n b d%k+(i:Int)*k)));have t3:=s3 _ _ t2;have p3:upd H2 lp (.lst ((List.range ds.length).map fun(i:Nat)=>V.int (CC n b d%k+(i:Int)*k))) lp=some (.lst ((List.range ds.length).map fun(i:Nat)=>V.int (CC n b d%k+(i:Int)*k))):=Ai;have hS3:=s3.tup hS2;generalize upd H2 lp (.lst ((List.range ds.length).map fun(i:Nat)=>V.int (CC n b d%k+(i:Int)*k)))=H3 at s3 t3 p3 hS3 ⊢;symm;exists GD (Jr ?_);refine⟨lp,rfl,⟨_,SqL.of p3⟩,?_⟩;refine Hx Ng ?_ (fun D' ys hD'=>(Ar hD' _).seq (SqL.of p3)) (fun _=>true) (fun v=>match v with | .int P=>.int (Ji n ds P) | _=>.non) (fun x hx D' ys Q' hD' h=>h) (fun x hx _ D' ys Q' hD' h=>?_) (fun D' hD'=>?_)
 ·rw[js,Qb];exact yv (show ds.length<=150000 by lia) (by decide)
 ·obtain⟨i,hi,rfl⟩:=ya.mp hx;have hi':=jc7.mp hi;replace h:Q' (.int (Ji n ds (CC n b d%k+(i:Int)*k))) _:=h;have ik:(i:Int)*k<=(ds.length:Int)*k:=vv (by lia) (by lia);have ik0:0<=(i:Int)*k:=jf4 (by lia) (by lia);generalize hP:CC n b d%k+(i:Int)*k=P at h ⊢;have m0:=qk P (show (ds.length:Int)≠0 by lia);have m1:=qg P (show (0:Int)<(ds.length:Int) by lia);obtain⟨x,hx⟩:∃x,ds[(P%(ds.length:Int)).toNat]?=some x:=⟨_,qm (by lia)⟩;have ed:Ji n ds P=P/(ds.length:Int)*n+x:=by
   unfold Ji;rw[hx];rfl
  rw[ed] at h;have P0:0<=P:=by lia
  have P1:P/(ds.length:Int)<=P:=je5 _ P0;have P2:0<=P/(ds.length:Int):=jf9 P0 (by lia);have t4:=Ar hD' (.lst ys) _ _ t3;symm;refine⟨ld,_,rfl,.inl (SqL.of t4),?_⟩;rw[js];symm;exists Du (Fi (by lia) (by lia)) ?_;refine Av ((Ar hD' _).tup hS3) at0 ?_;exists Du ⟨64,64,CN (by lia) (by lia) (by decide),bn,by decide⟩ ?_;refine⟨ld,_,rfl,.inl (SqL.of t4),?_⟩;rw[js];symm;rw[show P%(ds.length:Int)=(((P%(ds.length:Int)).toNat:Nat):Int) by lia];exists Bq (SqL.of t4) (Dm (AAj hx)) ?_;exact h
 have e:((((List.range ds.length).map fun(i:Nat)=>V.int (CC n b d%k+(i:Int)*k)).filter fun _=>true).map fun v=>match v with | .int P=>V.int (Ji n ds P) | _=>.non)=(((List.range ds.length).map fun(i:Nat)=>Ji n ds (CC n b d%k+(i:Int)*k)).map V.int):=by
  rw[jc6.mpr (fun _ _=>rfl),ua,ua];rfl
 rw[e];symm;refine⟨D',_,n*k,rfl,SqL.of Ai,by lia,lz,fun p c H5 s5 t5 B=>?_⟩;refine q p c H5 ((((s1.trans s2).trans s3).trans (Ar hD' _)).trans s5) t5 B.lt fun x=>?_;rw[B.bit x];exact vB h0 (by lia) D x
theorem jh:C0 1 "term_on" ["term","k"] lQ:=by
 refine co' ["term","k"] gq fun nd H vs Q E hr h=>?_;obtain⟨p,k,t,rfl,hp,ok,bk,q⟩:=h;have n0:=ok.n0;have n1:=ok.n1;have a0:=ok.a0;have a1:=ok.a1;exists⟨_,(Ad (Al (DP nU (Ag Be (Ag Bs (Ag Be (Ag CP (pxT 0) (pv 1)) (pxT 0)) (pxT 0)) (pxT 0)) (pxT 0) (An _)))),?_⟩;exists Av (SqT.of hp) qM ?_;exists Du ⟨64,400,CN (by lia) (by lia) (by decide),bk,by decide⟩ ?_;exists Av (SqT.of hp) vZ ?_;exists Av (SqT.of hp) U3 ?_;exists Av (SqT.of hp) qM ?_;exists Av (SqT.of hp) U3 ?_;exact q
theorem Xo:C0 1 "signs_upto" ["terms","k"] (rO K):=by
 refine co' ["terms","k"] Wo fun nd H vs Q E hr h=>?_;obtain⟨p,k,ts,rfl,T,bk,q⟩:=h;obtain⟨us,hS,hT⟩:=T.ex;exists⟨_,(Ad (Al (BL (Mv rfl) rfl cT ji9 (Aa (FT rfl (Ez ["terms","k"] ["terms","k"] rfl rfl (by with_unfolding_all rfl) (by ac_rfl) rfl (by ac_rfl) rfl (by ac_rfl) (by walk_at"fm") (by with_unfolding_all rfl) (by with_unfolding_all rfl)) (Rt (pv 0)) (fun _ _ _ _=>Ep) (fun _ _ _ _=>(Ag CP (Dp G7 (pv 0) Ae) (Ag Ba (Ag Be (Ag CP (Dp G7 (pv 0) Ae) (pv 2)) (Dp G7 (pv 0) Ae)) (Dp G7 (pv 0) Ae))))) Ac)))),?_⟩;refine bz rfl hS (by rw[hT.len];exact Dq (by have:=T.few;lia)) (fun v=>((UV H v).map fun _=>true).getD false) (fun v=>((UV H v).map fun t=>V.int (t.1*ctT t k)).getD .non) (fun x hx D ys Q' hD h=>?_) (fun x hx _ D ys Q' hD h=>?_) (fun D hD=>?_)
 ·obtain⟨a,t,rfl,ht,ha⟩:=hT.mem hx;rw[JB ha] at h;exact h
 ·obtain⟨a,t,rfl,ht,ha⟩:=hT.mem hx;rw[JB ha] at h;have ok:=T.ok t ht;have n0:=ok.n0;have n1:=ok.n1;have a0:=ok.a0;have a1:=ok.a1;have sg:=ok.sg;have b0:=ok.b0;have b1:=ok.b1;have ha':=Ar hD (.lst ys) _ _ ha;symm;exists Av (SqT.of ha') qO ?_;exists Av (SqT.of ha') qM ?_;exists Du ⟨64,400,CN (by lia) (by lia) (by decide),bk,by decide⟩ ?_;exists Av (SqT.of ha') vZ ?_;refine Av (SqT.of ha') U3 ?_;refine Du (Fi (by lia) (by lia)) ?_;have bb:Bt 465 (t.2.1*k+t.2.2.1):=((show Bt 64 t.2.1 from CN (by lia) (by lia) (by decide)).mul bk).add ((show Bt 64 t.2.2.1 from CN (by lia) (by lia) (by decide)).mono (by decide));refine Du ⟨200,465,bt_of (by lia) (by lia),qH bb (by lia),by decide⟩ ?_;exact h
 rw[hT.fm (fun _=>true) fun t=>V.int (t.1*ctT t k),jc6.mpr (fun _ _=>rfl)];have e:(ts.map fun t=>V.int (t.1*ctT t k))=(ts.map fun t=>t.1*ctT t k).map V.int:=by rw[ua];rfl
 rw[e];symm;refine⟨D,_,rfl,SqL.of Ai,?_⟩;exact q _ (Ar hD _)
theorem jj:C0 1 "is_term" ["term"] lr:=by
 refine co' ["term"] iH fun nd H vs Q E hr h=>?_;obtain⟨p,t,rfl,hp,ok,q⟩:=h;have n0:=ok.n0;have n1:=ok.n1;have a0:=ok.a0;have a1:=ok.a1;have sg:=ok.sg;have b0:=ok.b0;have b1:=ok.b1;refine⟨_,(Ab (Ay (PW.pt (K7 (Ak Gp (pxT 0) Ae (An _)) (JF (Ak Gp (pxT 0) (Fx Ed Ae) (An _)))))
  (Ad (Al VP))
  Aq)
  (Ad (Al (JK (MN Mh Mh Ae (pxT 0) (By rfl XX (Cq _ _))) (JK (MN Mh Mh Ae (pxT 0) (pxT 0)) (IW (MN Mh Eu Ae (pxT 0) (pxT 0)))))))),?_⟩
 symm;exists Av (SqT.of hp) qO ?_;have rest:True:=trivial;rcases sg with e | e
 ·exists Hm (yk V.int e) (Dz ?_);exists Av (SqT.of hp) U3 ?_;exists Hn n0 ?_;rw[decide_eq_true n1];exists Ek ?_;exists Av (SqT.of hp) qM ?_;exists Hn a0 ?_;exists Av (SqT.of hp) U3 ?_;rw[decide_eq_true a1];exists Ek ?_;exists Av (SqT.of hp) vZ ?_;exists Hn b0 ?_;exists Av (SqT.of hp) U3 ?_;rw[decide_eq_true b1];exact q
 ·refine oW (fun z=>by have:=V.int.inj z;lia) ?_;symm;exists Av (SqT.of hp) qO ?_;exists Hm (yk V.int e) ?_;exists Av (SqT.of hp) U3 ?_;exists Hn n0 ?_;rw[decide_eq_true n1];exists Ek ?_;exists Av (SqT.of hp) qM ?_;exists Hn a0 ?_;exists Av (SqT.of hp) U3 ?_;rw[decide_eq_true a1];exists Ek ?_;exists Av (SqT.of hp) vZ ?_;exists Hn b0 ?_;exists Av (SqT.of hp) U3 ?_;rw[decide_eq_true b1];exact q
theorem Gm:C0 1 "least_length" ["base","terms"] (sG K):=by
 refine co' ["base","terms"] RV fun nd H vs Q E hr h=>?_;obtain⟨p,b,ts,rfl,T,q⟩:=h;obtain⟨us,hS,hT⟩:=T.ex;exists⟨_,(Ad (Al (Ag DW (pv 0) (BL Bj rfl Do xi (Aa (FT rfl (GZ ["base","terms"] rfl (by ac_rfl) rfl (by ac_rfl) rfl (by ac_rfl) (by ac_rfl)) (Rt (pv 1)) (fun _ _ _ _=>(Rq (Ak Bk (Dp G7 (pv 0) Ae) (Fx Ed Ae) (An _)))) (fun _ _ _ _=>(pv 0))) Ac))))),?_⟩;refine bz rfl hS (by rw[hT.len];exact Dq (by have:=T.few;lia)) (fun v=>((UV H v).map fun t=>decide (t.1= -1)).getD false) (fun v=>v) (fun x hx D ys Q' hD h=>?_) (fun x hx _ D ys Q' hD h=>h) (fun D hD=>?_)
 ·obtain⟨a,t,rfl,ht,ha⟩:=hT.mem hx;rw[JB ha] at h;symm;exists Av (SqT.of (Ar hD _ _ _ ha)) qO ?_;rw[pN];exact h
 symm;exists⟨D,_,rfl,.inl (SqL.of Ai),?_⟩;have e:((us.filter fun v=>((UV H v).map fun t=>decide (t.1= -1)).getD false).map fun v=>v).length=(ts.filter fun t=>decide (t.1= -1)).length:=by
  have:=yk List.length (hT.fm (fun t=>decide (t.1= -1)) (fun _=>V.non));rw[js,js] at this;rw[js];exact this
 rw[e];exact q _ (Ar hD _)
theorem Ot:C0 2 "refuse_measure" ["base","terms"] (gU K):=by
 refine co' ["base","terms"] Np fun nd H vs Q E hr h=>?_;obtain⟨p,b,ts,rfl,T,g,q⟩:=h;obtain⟨us,hS,hT⟩:=T.ex;have b0:=g.b0;have b1:=g.b1;have fl:=g.fl;have few:=T.few;refine⟨_,(Ab (Ay (PW.pt (Hi (Ak Eu (pv 0) Ae (An _)) (GQ (Ak FW (pv 0) (By rfl Qa (Cq _ _)) (An _)))))
  (Ad BX)
  Aq)
  (Ab (Ay (Ak FW (BL Bj rfl Do xi (Aa (pv 1) Ac)) (By rfl XR (Cq _ _)) (An _))
   (Ad BX)
   Aq)
  (Ab (Ay (Hj (GR (BL (S9 rfl) rfl j4 jn7 (Aa (FT rfl (GZ ["base","terms"] rfl (by ac_rfl) rfl (by ac_rfl) rfl (by ac_rfl) (by ac_rfl)) (Rt (pv 1)) (fun _ _ _ _=>Ep) (fun _ _ _ _=>(Af jj (Aa (pv 0) Ac)))) Ac))))
   (Ad BX)
   Aq)
  (Ad (Ay (Ak Eu (Af Gm (Aa (pv 0) (Aa (pv 1) Ac))) Ae (An _))
   (Ad BX)
   Aq))))),?_⟩
 symm;exists CJ (by lia) ?_;exists CJ (by lia) ?_;exists⟨p,us,rfl,.inr hS,?_⟩;refine CJ (by rw[hT.len];lia) ?_;symm;refine bz rfl hS (by rw[hT.len];exact Dq (by lia)) (fun _=>true) (fun _=>.bl true) (fun x hx D ys Q' hD h=>h) (fun x hx _ D ys Q' hD h=>?_) (fun D hD=>?_)
 ·obtain⟨a,t,rfl,ht,ha⟩:=hT.mem hx;symm;exact⟨a,t,rfl,Ar hD _ _ _ ha,T.ok t ht,h⟩
 have s1:=Ar hD (.lst ((us.filter fun _=>true).map fun _=>V.bl true));have e:((us.filter fun _=>true).map fun _=>V.bl true)=(us.map fun _=>true).map V.bl:=by
  rw[jc6.mpr (fun _ _=>rfl),ua];rfl
 symm;exists⟨D,us.map (fun _=>true),rfl,SqL.of (by rw[Ai,e]),?_⟩;rw[show ((us.map fun _=>true).all id)=true from ja9.mpr (fun x hx=>by obtain⟨_,_,rfl⟩:=ya.mp hx;rfl)];exists Dz ?_;exists⟨p,b,ts,rfl,T.same s1,fun H2 s2=>?_⟩;exists CJ (by lia) ?_;exact q _ (s1.trans s2)
theorem Zj:C0 4 "period_of" ["terms"] (lY K):=by
 refine co' ["terms","told","term"] Yj fun nd H vs Q E hr h=>?_;obtain⟨p,ts,rfl,T,q⟩:=h;obtain⟨us,hS,hT⟩:=T.ex;have few:=T.few;have ulen:=hT.len;refine⟨_,(Ab (Aj 1 Ae)
  (Ab (JG PassesOwn.never rfl (Rt (pv 0)) (Cg (i:=2) nd rfl (by walk_at"o"))
   (Ad (Aj 1 (Af Td (Aa (pv 1) (Aa (pxT 2) Ac))))))
  (Ad (Al (pv 1))))),?_⟩
 symm;walk_at"f";symm;refine⟨p,rfl,⟨us,hS⟩,uy (xs:=us) (fun i Z' H'=>Az H H'/\∃c:Option V,Z'=[some (.ref p),some (.int (PER (ts.take i))),c]) ⟨Az.refl _,none,rfl⟩ ?_ ?_ ?_⟩
 ·rintro i Z' H' _ ⟨s,_⟩;exact s.tup hS
 ·rintro i x Z' H' hx ⟨s,c,rfl⟩;obtain⟨a,t,rfl,ht,ha⟩:=hT.at hx;have i6:i<6:=by
   have:=(qv.mp ht).1;lia
  obtain⟨h1,h2⟩:=MJ T.ok i (by lia);have h3:=zL (show i<=6 by lia);have ok:=T.ok t (zh ht);have n0:=ok.n0;have n1:=ok.n1;symm;exists Av (SqT.of (s _ _ ha)) U3 ?_;exists⟨_,_,rfl,h1,by lia,CN (by lia) (by lia) (by decide),CN (by lia) (by lia) (by decide),fun H2 s2=>?_⟩;refine⟨s.trans s2,some (.ref a),?_⟩;have e2:PER (ts.take (i+1))=Bx (PER (ts.take i)) t.2.2.2:=by
   unfold PER;rw[Qr,ht,jb7,List.foldl_append];rfl
  rw[e2]<;>rfl
 ·rintro Z' H' ⟨s,c,rfl⟩;symm;rw[ulen,jc1];exact q _ s
theorem Cz:CM0 2 Am "upto" ["self","k"] (yD K Am):=by
 refine cm' ["self","k"] Rf fun nd H vs Q E hr h=>?_;obtain⟨x,p,dx,k,b,ts,fs,rfl,hx,fb,ft,T,b0,b1,bk,q⟩:=h;exists⟨_,(Ad (Al (Ag Be (Ag CP (Bl (pv 0) (by rfl)) (pv 1)) (Af Xo (Aa (Bl (pv 0) (by rfl)) (Aa (pv 1) Ac)))))),?_⟩;exists⟨x,Am,dx,fs,_,rfl,hx,Aw,CQ,fb,?_⟩;exists Du ⟨64,400,CN (by lia) (by lia) (by decide),bk,by decide⟩ ?_;exists⟨x,Am,dx,fs,_,rfl,hx,Aw,CG,ft,?_⟩;exists⟨p,k,ts,rfl,T,bk,fun H' s=>?_⟩;exact q _ s
theorem Km:Cu ["self","base","terms"] ["self","base","terms"] (BP GK):=by walk_at"s"
theorem Ko{ds:Array Value}(F:KZ K "__init__" "Measure.__init__" GK f fd ds):F0 5 f fd ["self","base","terms"] (We K Am):=by
 refine F.ok (k:=4) Km (fun h=>?_) fun nd H vs Q E hr h=>?_
 ·obtain⟨x,dx,b,v,us,ts,rfl,_⟩:=h;rfl
 obtain⟨x,dx,b,v,us,ts,rfl,hx,hT,hv,ok,few,g,po,q⟩:=h;refine⟨_,(Ab (Ex (pv 0) (pv 1) (by rfl))
  (Ab (Ex (pv 0) (Dh (Ak Hk (pv 2) Ff (An _)) (BK Ac) (BW Ig rfl WM jl7 (Aa (pv 2) Ac))) (by rfl))
  (Ab (Bc (Af Ot (Aa (Bl (pv 0) (by rfl)) (Aa (Bl (pv 0) (by rfl)) Ac))))
  (Ab (Ex (pv 0) (Af Zj (Aa (Bl (pv 0) (by rfl)) Ac)) (by rfl))
  (Ab (Ex (pv 0) (Dw Cz Aw (pv 0) (Aa (Bl (pv 0) (by rfl)) Ac)) (by rfl))
  (Ad (Ay (Ak Bk (Bl (pv 0) (by rfl)) Ae (An _))
   (Ad BX)
   Aq))))))),?_⟩
 symm;refine⟨x,Am,dx,[],rfl,hx,Aw,CQ,by decide,?_⟩;have k1:∀y o,y≠x->H y=some o->upd H x (.ins Am dx (DN (Str.ofString "base") (.int b) [])) y=some o:=fun y o hy h=>by rw[Ax hy];exact h
 have x1:upd H x (.ins Am dx (DN (Str.ofString "base") (.int b) [])) x=some (.ins Am dx [(Str.ofString "base",.int b)]):=Ai;generalize upd H x (.ins Am dx (DN (Str.ofString "base") (.int b) []))=H1 at k1 x1 ⊢;have tmk:∀{H':Hp},(∀y o,y≠x->H y=some o->H' y=some o)->Tms H' us ts:=fun{H'} k=>by
  have:∀{vs:List V} {ts:List Tm},Tms H vs ts->Tms H' vs ts:=fun{vs ts} h=>by
   induction h with
   | nil=>exact .nil
   | cons h _ ih=>exact .cons (k _ _ (fun e=>by subst e;rw[hx] at h;cases h) h) ih
  exact this hT
 symm;rcases hv with ⟨rfl,eu⟩ | ⟨l,rfl,hl⟩
 all_goals refine⟨rfl,?_⟩
 all_goals symm
 all_goals first | refine Hn rfl ?_ | refine CJ (fun z=>by cases z) ?_
 all_goals symm
 all_goals first
  | refine⟨l,us,rfl,.inl ⟨SqL.of (k1 _ _ (HJ hl hx (by intro z;cases z)) hl),fun p hp=>?_⟩⟩
  | (refine ⟨ve _,fun p hp=>?_⟩
     rw[show upd H1 p (.tup [])=upd H1 p (.tup us) by rw[eu]])
 all_goals
  have px:x≠p:=Bm x1 hp;symm;refine⟨x,Am,dx,_,rfl,by rw[Ax px];exact x1,Aw,CG,(by show 1<1000;decide),?_⟩;have k2:∀y o,y≠x->H1 y=some o->upd (upd H1 p (.tup us)) x (.ins Am dx (DN (Str.ofString "terms") (.ref p) [(Str.ofString "base",.int b)])) y=some o:=fun y o hy h=>by
   rw[Ax hy];exact Ar hp _ _ _ h
  have x2:upd (upd H1 p (.tup us)) x (.ins Am dx (DN (Str.ofString "terms") (.ref p) [(Str.ofString "base",.int b)])) x=some (.ins Am dx [(Str.ofString "base",.int b),(Str.ofString "terms",.ref p)]):=Ai;have p2:upd (upd H1 p (.tup us)) x (.ins Am dx (DN (Str.ofString "terms") (.ref p) [(Str.ofString "base",.int b)])) p=some (.tup us):=by rw[Ax (Ne.symm px),Ai]
  generalize upd (upd H1 p (.tup us)) x (.ins Am dx (DN (Str.ofString "terms") (.ref p) [(Str.ofString "base",.int b)]))=H2 at k2 x2 p2 ⊢;have k02:∀y o,y≠x->H y=some o->H2 y=some o:=fun y o hy h=>k2 y o hy (k1 y o hy h);have T2:TmT K H2 p ts:=⟨⟨us,SqT.of p2,tmk k02⟩,ok,few⟩;symm;exists⟨x,Am,dx,_,_,rfl,x2,Aw,CQ,rfl,?_⟩;exists⟨x,Am,dx,_,_,rfl,x2,Aw,CG,rfl,?_⟩;refine⟨p,b,ts,rfl,T2,g,fun H3 s3=>?_⟩;have x3:=s3 _ _ x2;symm;exists⟨x,Am,dx,_,_,rfl,x3,Aw,CG,rfl,?_⟩;refine⟨p,ts,rfl,T2.same s3,fun H4 s4=>?_⟩;have x4:=s4 _ _ x3;have p4:=(s3.trans s4) _ _ p2;symm;refine⟨x,Am,dx,_,rfl,x4,Aw,Eg,(by show 2<1000;decide),?_⟩;have pne:p≠x:=Ne.symm px;have k5:∀y o,y≠x->H4 y=some o->upd H4 x (.ins Am dx (DN (Str.ofString "full_count") (.int (PER ts)) [(Str.ofString "base",.int b),(Str.ofString "terms",.ref p)])) y=some o:=fun y o hy h=>by rw[Ax hy];exact h
  have x5:upd H4 x (.ins Am dx (DN (Str.ofString "full_count") (.int (PER ts)) [(Str.ofString "base",.int b),(Str.ofString "terms",.ref p)])) x=some (.ins Am dx [(Str.ofString "base",.int b),(Str.ofString "terms",.ref p),(Str.ofString "full_count",.int (PER ts))]):=Ai;generalize upd H4 x (.ins Am dx (DN (Str.ofString "full_count") (.int (PER ts)) [(Str.ofString "base",.int b),(Str.ofString "terms",.ref p)]))=H5 at k5 x5 ⊢;have k05:∀y o,y≠x->H y=some o->H5 y=some o:=fun y o hy h=>k5 y o hy ((s3.trans s4) _ _ (k02 y o hy h));have T5:TmT K H5 p ts:=⟨⟨us,SqT.of (k5 _ _ pne p4),tmk k05⟩,ok,few⟩;obtain⟨h1,h2⟩:=MJ ok 6 (by decide);rw[uk few] at h1 h2;have h3:=zL (show 6<=6 by decide);symm;exists⟨x,dx,_,rfl,x5,rfl,?_⟩;exists⟨x,Am,dx,_,_,rfl,x5,Aw,Eg,rfl,?_⟩;refine⟨x,p,dx,PER ts,b,ts,_,rfl,x5,rfl,rfl,T5,g.b0,g.b1,CN (by lia) (by lia) (by decide),fun H6 s6=>?_⟩;have x6:=s6 _ _ x5;symm;refine⟨x,Am,dx,_,rfl,x6,Aw,Gk,(by show 3<1000;decide),?_⟩;have k7:∀y o,y≠x->H6 y=some o->upd H6 x (.ins Am dx (DN (Str.ofString "full_sum") (.int (UP b ts (PER ts))) [(Str.ofString "base",.int b),(Str.ofString "terms",.ref p),(Str.ofString "full_count",.int (PER ts))])) y=some o:=fun y o hy h=>by rw[Ax hy];exact h
  have x7:upd H6 x (.ins Am dx (DN (Str.ofString "full_sum") (.int (UP b ts (PER ts))) [(Str.ofString "base",.int b),(Str.ofString "terms",.ref p),(Str.ofString "full_count",.int (PER ts))])) x=some (.ins Am dx (mF b p (PER ts) (UP b ts (PER ts)))):=Ai;generalize upd H6 x (.ins Am dx (DN (Str.ofString "full_sum") (.int (UP b ts (PER ts))) [(Str.ofString "base",.int b),(Str.ofString "terms",.ref p),(Str.ofString "full_count",.int (PER ts))]))=H7 at k7 x7 ⊢;have k07:∀y o,y≠x->H y=some o->H7 y=some o:=fun y o hy h=>k7 y o hy (s6 _ _ (k05 y o hy h));symm;exists⟨x,Am,dx,_,_,rfl,x7,Aw,Gk,rfl,?_⟩;refine CJ (fun z=>by have:=V.int.inj z;lia) ?_;symm;refine q _ k07 ⟨⟨dx,p,x7,⟨us,SqT.of (k7 _ _ pne (s6 _ _ (k5 _ _ pne p4))),tmk k07⟩,ok,few⟩,g,po⟩
theorem Gb:CI0 5 "Measure" Am ["self","base","terms"] (We K Am):=TF (st:=GK) (ds:= #[.none]) gX gG (by walk_at"k") (by walk_at"k") (by walk_at"k") (by walk_at"dm") (fun _ _ _ _ _ _ _ us hl=>by obtain⟨_,_,_,rfl⟩:=za hl;exact⟨_,rfl,rfl⟩) Ko
theorem JW:CM0 2 Am "at" ["self","k"] (ADP K Am):=by
 refine cm' ["self","k"] Wy fun nd H vs Q E hr h=>?_;obtain⟨x,k,b,ts,rfl,M,bk,q⟩:=h;obtain⟨dx,p,hx,T⟩:=M.ex;obtain⟨us,hS,hT⟩:=T.ex;exists⟨_,(Ad (Al (Ag Be (Bl (pv 0) (by rfl)) (BL (Mv rfl) rfl cT ji9 (Aa (FT rfl (Ez ["self","k"] ["self","k"] rfl rfl (by with_unfolding_all rfl) (by ac_rfl) rfl (by ac_rfl) rfl (by ac_rfl) (by walk_at"fm") (by with_unfolding_all rfl) (by with_unfolding_all rfl)) (Rt (Bl (pv 0) (by rfl))) (fun _ _ _ _=>(Rq (GR (Af jh (Aa (pv 0) (Aa (pv 2) Ac)))))) (fun _ _ _ _=>(Dp G7 (pv 0) Ae))) Ac))))),?_⟩;exists⟨x,Am,dx,_,_,rfl,hx,Aw,CQ,rfl,?_⟩;exists GD (wZ ?_);refine⟨x,Am,dx,_,_,rfl,hx,Aw,CG,rfl,?_⟩;refine⟨p,rfl,⟨_,hS⟩,Hx j6 (by rw[hT.len];exact Dq (by have:=T.few;lia)) (fun D ys hD=>(Ar hD _).tup hS) (fun v=>((UV H v).map fun t=>onT t k).getD false) (fun v=>((UV H v).map fun t=>V.int t.1).getD .non) (fun y hy D ys Q' hD h=>?_) (fun y hy _ D ys Q' hD h=>?_) (fun D hD=>?_)⟩
 ·obtain⟨a,t,rfl,ht,ha⟩:=hT.mem hy;rw[JB ha] at h;symm;exact⟨a,k,t,rfl,Ar hD _ _ _ ha,T.ok t ht,bk,⟨_,rfl,h⟩⟩
 ·obtain⟨a,t,rfl,ht,ha⟩:=hT.mem hy;rw[JB ha] at h;symm;refine Av (SqT.of (Ar hD _ _ _ ha)) qO ?_;exact h
 rw[hT.fm (fun t=>onT t k) fun t=>V.int t.1];have e:((ts.filter fun t=>onT t k).map fun t=>V.int t.1)=((ts.filter fun t=>onT t k).map fun t=>t.1).map V.int:=by rw[ua];rfl
 rw[e];symm;exists⟨D,_,rfl,SqL.of Ai,?_⟩;exact q _ (Ar hD _)
theorem Fp:CM0 1 Am "period" ["self"] (ABV K Am):=by
 refine cm' ["self"] Nv fun nd H vs Q E hr h=>?_;obtain⟨x,b,ts,rfl,M,q⟩:=h;obtain⟨dx,p,hx,T⟩:=M.ex;exists⟨_,(Ad (Al (Bl (pv 0) (by rfl)))),?_⟩;refine⟨x,Am,dx,_,_,rfl,hx,Aw,Eg,rfl,?_⟩;exact q
theorem Qf:C0 1 "refuse_months" ["lengths","leap"] (rR K):=by
 refine co' ["lengths","leap"] QK fun nd H vs Q E hr h=>?_;obtain⟨l,lp,ls,ts,rfl,hS,g,q⟩:=h;have l0:=g.l0;have l1:=g.l1;have p0:=g.p0;have p1:=g.p1;have ne:ls≠[]:=fun z=>by rw[z] at l0;simp at l0
 refine⟨_,(Ab (Ay (PW.pt (Hi (Ak Eu (BL Bj rfl Do xi (Aa (pv 0) Ac)) Ae (An _)) (GQ (Ak FW (BL Bj rfl Do xi (Aa (pv 0) Ac)) (By rfl Kr (Cq _ _)) (An _)))))
  (Ad BX)
  Aq)
  (Ab (Ay (PW.pt (Hi (Ak Eu (BL (je rfl) rfl AAx PyProof.Rows.boot_min (Aa (pv 0) Ac)) Ae (An _)) (GQ (Ak FW (BL (jf rfl) rfl AAy PyProof.Rows.boot_max (Aa (pv 0) Ac)) (By rfl Jf (Cq _ _)) (An _)))))
   (Ad BX)
   Aq)
  (Ad (Ay (PW.pt (Hi (Ak Eu (pv 1) Ae (An _)) (GQ (Ak FW (pv 1) (BL Bj rfl Do xi (Aa (pv 0) Ac)) (An _)))))
   (Ad BX)
   Aq)))),?_⟩
 symm;refine⟨l,_,rfl,.inl hS,?_⟩;rw[js];symm;exists CJ (by lia) ?_;refine⟨l,_,rfl,.inl hS,?_⟩;rw[js];symm;exists CJ (by lia) ?_;refine⟨l,ls,rfl,hS,ne,fun m hm _=>?_⟩;have:=g.m m hm;symm;exists CJ (by lia) ?_;refine⟨l,ls,rfl,hS,ne,fun m hm _=>?_⟩;have:=g.m m hm;symm;exists CJ (by lia) ?_;exists CJ (by lia) ?_;refine⟨l,_,rfl,.inl hS,?_⟩;rw[js];symm;exists CJ (by lia) ?_;exact q
theorem QH:Cu ["self","start","lengths","leap","terms"] ["self","start","lengths","leap","terms"] (BP Gh):=by walk_at"s"
theorem Je{ds:Array Value}(F:KZ K "__init__" "Sun.__init__" Gh f fd ds):F0 7 f fd ["self","start","lengths","leap","terms"] (Qv K Bf Am):=by
 refine F.ok (k:=6) QH (fun h=>?_) fun nd H vs Q E hr h=>?_
 ·obtain⟨x,dx,ll,s,lp,v,us,ls,ts,rfl,_⟩:=h;rfl
 obtain⟨x,dx,ll,s,lp,v,us,ls,ts,rfl,hx,hl,hT,hv,g,bs,q⟩:=h;have lx:ll≠x:=HJ hl hx (by intro z;cases z);have l0:=g.l0;have l1:=g.l1;have p0:=g.p0;have p1:=g.p1;have f0:=g.f0;have f1:=g.f1;refine⟨_,(Ab (Bc (Af Qf (Aa (pv 2) (Aa (pv 3) Ac))))
  (Ab (Ex (pv 0) (pv 1) (by rfl))
  (Ab (Ex (pv 0) (BW Ig rfl WM jl7 (Aa (pv 2) Ac)) (by rfl))
  (Ab (Ex (pv 0) (pv 3) (by rfl))
  (Ab (Ex (pv 0) (Fy Gb (Aa (BL (Mv rfl) rfl cT ji9 (Aa (pv 2) Ac)) (Aa (pv 4) Ac))) (by rfl))
  (Ab (Ay (Ak Eu (Af Gm (Aa (Dp FZ (pv 2) (Ag DW (pv 3) Ae) (fun _ _=>rfl)) (Aa (Bl (Bl (pv 0) (by rfl)) (by rfl)) Ac))) Ae (An _))
   (Ad BX)
   Aq)
  (Ad (Ay (Ak Eu (Af Gm (Aa (Bl (Bl (pv 0) (by rfl)) (by rfl)) (Aa (Bl (Bl (pv 0) (by rfl)) (by rfl)) Ac))) Ae (An _))
   (Ad BX)
   Aq)))))))),?_⟩
 symm;exists⟨ll,lp,ls,ts,rfl,SqL.of hl,g,?_⟩;refine⟨x,Bf,dx,[],rfl,hx,CZ,Jh,by decide,?_⟩;have k1:But x H (upd H x (.ins Bf dx (DN (Str.ofString "start") (.int s) []))):=But.upd;have x1:upd H x (.ins Bf dx (DN (Str.ofString "start") (.int s) [])) x=some (.ins Bf dx [(Str.ofString "start",.int s)]):=Ai;generalize upd H x (.ins Bf dx (DN (Str.ofString "start") (.int s) []))=H1 at k1 x1 ⊢;symm;refine⟨ll,_,rfl,.inl ⟨SqL.of (k1 _ _ lx hl),fun p hp=>?_⟩⟩;have px:x≠p:=Bm x1 hp;symm;refine⟨x,Bf,dx,_,rfl,by rw[Ax px];exact x1,CZ,Io,(by show 1<1000;decide),?_⟩;have k2:But x H1 (upd (upd H1 p (.tup (ls.map V.int))) x (.ins Bf dx (DN (Str.ofString "months") (.ref p) [(Str.ofString "start",.int s)]))):=fun y o hy h=>by
  rw[Ax hy];exact Ar hp _ _ _ h
 have x2:upd (upd H1 p (.tup (ls.map V.int))) x (.ins Bf dx (DN (Str.ofString "months") (.ref p) [(Str.ofString "start",.int s)])) x=some (.ins Bf dx [(Str.ofString "start",.int s),(Str.ofString "months",.ref p)]):=Ai;have t2:upd (upd H1 p (.tup (ls.map V.int))) x (.ins Bf dx (DN (Str.ofString "months") (.ref p) [(Str.ofString "start",.int s)])) p=some (.tup (ls.map V.int)):=by rw[Ax (Ne.symm px),Ai]
 generalize upd (upd H1 p (.tup (ls.map V.int))) x (.ins Bf dx (DN (Str.ofString "months") (.ref p) [(Str.ofString "start",.int s)]))=H2 at k2 x2 t2 ⊢;symm;refine⟨x,Bf,dx,_,rfl,x2,CZ,Ho,(by show 2<1000;decide),?_⟩;have k3:But x H2 (upd H2 x (.ins Bf dx (DN (Str.ofString "leap") (.int lp) [(Str.ofString "start",.int s),(Str.ofString "months",.ref p)]))):=But.upd;have x3:upd H2 x (.ins Bf dx (DN (Str.ofString "leap") (.int lp) [(Str.ofString "start",.int s),(Str.ofString "months",.ref p)])) x=some (.ins Bf dx [(Str.ofString "start",.int s),(Str.ofString "months",.ref p),(Str.ofString "leap",.int lp)]):=Ai;generalize upd H2 x (.ins Bf dx (DN (Str.ofString "leap") (.int lp) [(Str.ofString "start",.int s),(Str.ofString "months",.ref p)]))=H3 at k3 x3 ⊢;have k03:But x H H3:=fun y o hy h=>k3 y o hy (k2 y o hy (k1 y o hy h));have l3:=k03 _ _ lx hl;have t3:=k3 _ _ (Ne.symm px) t2;symm;exists⟨ll,ls,rfl,SqL.of l3,?_⟩;refine fun y dy hy hdy ne=>Xd hy hdy ne (hT.but hx .ins k03) ?_ g.ok g.few g.gm g.po fun H4 s4 M4=>⟨rfl,?_⟩
 ·rcases hv with z | ⟨l,z,e⟩
  ·exact .inl z
  ·exact .inr ⟨l,z,k03 _ _ (HJ e hx (by intro z;cases z)) e⟩
 have x4:=s4 _ _ x3;have yx:y≠x:=fun e=>by subst e;rw[x3] at hy;cases hy
 symm;refine⟨x,Bf,dx,_,rfl,x4,CZ,Cd,(by show 3<1000;decide),?_⟩;have k5:But x H4 (upd H4 x (.ins Bf dx (DN (Str.ofString "years") (.ref y) [(Str.ofString "start",.int s),(Str.ofString "months",.ref p),(Str.ofString "leap",.int lp)]))):=But.upd;have x5:upd H4 x (.ins Bf dx (DN (Str.ofString "years") (.ref y) [(Str.ofString "start",.int s),(Str.ofString "months",.ref p),(Str.ofString "leap",.int lp)])) x=some (.ins Bf dx (sF s lp p y)):=Ai;generalize upd H4 x (.ins Bf dx (DN (Str.ofString "years") (.ref y) [(Str.ofString "start",.int s),(Str.ofString "months",.ref p),(Str.ofString "leap",.int lp)]))=H5 at k5 x5 ⊢;have M5:=M4.butX x4 .ins yx k5;have t5:=k5 _ _ (Ne.symm px) (s4 _ _ t3);have l5:=k5 _ _ lx (s4 _ _ l3);have k05:∀y o,y≠x->H y=some o->H5 y=some o:=fun y o hy h=>k5 y o hy (s4 _ _ (k03 y o hy h));obtain⟨d5,tp,e5,T5⟩:=M5.ex;have elp:lp-1=(((lp-1).toNat:Nat):Int):=by lia
 have hat:atI (ls.map V.int) (lp-1)=some (V.int (ls.getD (lp-1).toNat 0)):=by
  conv=>lhs;rw[elp]
  refine Dm ?_;rw[xo,ja2,qm (by lia)];rfl
 symm;exists Bq (SqL.of l5) hat ?_;exists⟨x,Bf,dx,_,_,rfl,x5,CZ,Cd,rfl,?_⟩;exists⟨y,Am,d5,_,_,rfl,e5,Aw,CG,rfl,?_⟩;exists⟨tp,_,ts,rfl,T5,fun H6 s6=>?_⟩;exists CJ (by lia) ?_;have x6:=s6 _ _ x5;have e6:=s6 _ _ e5;exists⟨x,Bf,dx,_,_,rfl,x6,CZ,Cd,rfl,?_⟩;exists⟨y,Am,d5,_,_,rfl,e6,Aw,CQ,rfl,?_⟩;exists⟨x,Bf,dx,_,_,rfl,x6,CZ,Cd,rfl,?_⟩;exists⟨y,Am,d5,_,_,rfl,e6,Aw,CG,rfl,?_⟩;exists⟨tp,_,ts,rfl,T5.same s6,fun H7 s7=>?_⟩;exists CJ (by lia) ?_;refine q _ (fun y o hy h=>s7 _ _ (s6 _ _ (k05 y o hy h))) ⟨⟨dx,p,y,s7 _ _ x6,SqT.of (s7 _ _ (s6 _ _ t5)),(M5.same s6).same s7⟩,g,bs⟩
theorem Tj:CI0 7 "Sun" Bf ["self","start","lengths","leap","terms"] (Qv K Bf Am):=TF (st:=Gh) (ds:= #[(.int 1 GJ),.none]) gX gG (by walk_at"k") (by walk_at"k") (by walk_at"k") (by walk_at"dm") (fun _ _ _ _ _ _ _ us hl=>by obtain⟨_,_,_,_,_,rfl⟩:=zZ hl;exact⟨_,rfl,rfl⟩) Je
theorem Mz:qe P w K mg base CX0 7 "Sun" Bf ["self","start","lengths","leap","terms"] [(.int 1),.non] (Qv K Bf Am):=jg (st:=Gh) (ds:= #[(.int 1 GJ),.none]) (dv:=[(.int 1 GJ),.none]) 3 rfl gX gG (by walk_at"k") (by walk_at"k") (by walk_at"k") (by walk_at"dm") (fun _ _ _ _ _ _ _ us hl=>by obtain⟨_,_,_,rfl⟩:=za hl;exact⟨_,rfl,rfl⟩) (.cons (by first | exact rfl | exact Cq _ _ | trivial) (.cons (by first | exact rfl | exact Cq _ _ | trivial) .nil)) Je
theorem Ov:CM0 3 Bf "year_start" ["self","year"] (ABS K Bf Am):=by
 refine cm' ["self","year"] Nt fun nd H vs Q E hr h=>?_;obtain⟨x,n,s,ls,lp,ts,rfl,S,bn,q⟩:=h;obtain⟨dx,p,y,hx,hp,M⟩:=S.ex;obtain⟨d,fs,ey,ly⟩:=M.meth;obtain⟨d2,tp,e2,T2⟩:=M.ex;exists⟨_,(Ad (Al (Ag Be (Bl (pv 0) (by rfl)) (Dw Cz Aw (Bl (pv 0) (by rfl)) (Aa (pv 1) Ac))))),?_⟩;exists⟨x,Bf,dx,_,_,rfl,hx,CZ,Jh,rfl,?_⟩;exists⟨x,Bf,dx,_,_,rfl,hx,CZ,Cd,rfl,?_⟩;exists⟨y,d,fs,rfl,ey,ly.2.2.1,?_⟩;exists⟨y,tp,d2,n,_,ts,_,rfl,e2,rfl,rfl,T2,M.gd.b0,M.gd.b1,bn.mono (by decide),fun H' s'=>?_⟩;exact q _ s'
theorem Uz:CM0 3 Bf "lengths" ["self","year"] (lq K Bf Am):=by
 refine cm' ["self","year","told"] Uq fun nd H vs Q E hr h=>?_;obtain⟨x,n,s,ls,lp,ts,rfl,S,bn,q⟩:=h;obtain⟨dx,p,y,hx,hp,M⟩:=S.ex;have g:=S.gd;have p0:=g.p0;have p1:=g.p1;have elp:lp-1=(((lp-1).toNat:Nat):Int):=by lia
 generalize hi:(lp-1).toNat=i at elp;have il:i<ls.length:=by lia
 refine⟨_,(Ab (Aj 2 (BW Xl rfl Zx PyProof.Rows.boot_list (Aa (Bl (pv 0) (by rfl)) Ac)))
  (Ab (K8 (Ag DW (Ag Be (Dp FZ (pv 2) (Ag DW (Bl (pv 0) (by rfl)) Ae) (fun _ _=>rfl)) (Dw JW Aw (Bl (pv 0) (by rfl)) (Aa (pv 1) Ac))) (Bl (Bl (pv 0) (by rfl)) (by rfl))) (m9 (pv 2) (Ag DW (Bl (pv 0) (by rfl)) Ae) set_list))
  (Ad (Al (pv 2))))),?_⟩
 symm;exists⟨x,Bf,dx,_,_,rfl,hx,CZ,Io,rfl,?_⟩;refine⟨p,_,rfl,.inr hp,fun l hl=>?_⟩;have s1:=Ar hl (.lst (ls.map V.int));have t1:upd H l (.lst (ls.map V.int)) l=some (.lst (ls.map V.int)):=Ai;generalize upd H l (.lst (ls.map V.int))=H1 at s1 t1 ⊢;have M1:=M.same s1;obtain⟨d1,fs,e1,l1⟩:=M1.meth;obtain⟨d2,tp,e2,T2⟩:=M1.ex;have x1:=s1 _ _ hx;symm;exists⟨x,Bf,dx,_,_,rfl,x1,CZ,Ho,rfl,?_⟩;rw[elp];have hat:atI (ls.map V.int) (i:Int)=some (V.int (ls.getD i 0)):=by
  refine Dm ?_;rw[xo,ja2,qm il];rfl
 exists Bq (SqL.of t1) hat ?_;exists⟨x,Bf,dx,_,_,rfl,x1,CZ,Cd,rfl,?_⟩;exists⟨y,d1,fs,rfl,e1,l1.2.1,?_⟩;refine⟨y,n,_,ts,rfl,M1,bn.mono (by decide),fun H2 s2=>?_⟩;have x2:=s2 _ _ x1;symm;exists⟨x,Bf,dx,_,_,rfl,x2,CZ,Cd,rfl,?_⟩;exists⟨y,Am,d2,_,_,rfl,s2 _ _ e2,Aw,CQ,rfl,?_⟩;exists⟨x,Bf,dx,_,_,rfl,x2,CZ,Ho,rfl,?_⟩;rw[elp];have t2:=s2 _ _ t1;refine dY t2 (by rw[js];exact il) ?_;symm;have ev:ls.getD i 0+AT ls.sum ts n-ls.sum=ls.getD i 0+ONS ts n:=by
  unfold AT;lia
 rw[ev];have el:(ls.map V.int).set i (V.int (ls.getD i 0+ONS ts n))=(U4 ls lp ts n).map V.int:=by
  unfold U4;rw[hi,List.map_set]
 rw[el];refine q l _ hl (fun b o h=>?_) Ai;rw[Ax (Bm h hl)];exact s2 _ _ (s1 _ _ h)
theorem Zr:CM0 3 Bf "cycle" ["self"] (wW K Bf Am):=by
 refine cm' ["self","years"] Yr fun nd H vs Q E hr h=>?_;obtain⟨x,s,ls,lp,ts,rfl,S,q⟩:=h;obtain⟨dx,p,y,hx,hp,M⟩:=S.ex;obtain⟨d,fs,ey,ly⟩:=M.meth;obtain⟨d2,tp,e2,T2⟩:=M.ex;have pp:=Qy S.gd.ok S.gd.few;refine⟨_,(Ab (Aj 1 (Cm Fp Aw (Bl (pv 0) (by rfl))))
  (Ad (Al (BK (Aa (pv 1) (Aa (Dw Cz Aw (Bl (pv 0) (by rfl)) (Aa (pv 1) Ac)) Ac)))))),?_⟩
 symm;exists⟨x,Bf,dx,_,_,rfl,hx,CZ,Cd,rfl,?_⟩;exists⟨y,d,fs,rfl,ey,ly.2.2.2,?_⟩;exists⟨y,_,ts,rfl,M,?_⟩;exists⟨x,Bf,dx,_,_,rfl,hx,CZ,Cd,rfl,?_⟩;exists⟨y,d,fs,rfl,ey,ly.2.2.1,?_⟩;exists⟨y,tp,d2,_,_,ts,_,rfl,e2,rfl,rfl,T2,M.gd.b0,M.gd.b1,CN (by lia) (by lia) (by decide),fun H' s'=>?_⟩;refine⟨two,fun c hc=>?_⟩;exact q _ _ (s'.trans (Ar hc _)) Ai
theorem Kw:C0 2 "refuse_part" ["measure","greatest"] (rQ K Am):=by
 refine co' ["measure","greatest"] Ui fun nd H vs Q E hr h=>?_;obtain⟨y,b,g,ts,rfl,M,f,bg,q⟩:=h;obtain⟨d,p,e,T⟩:=M.ex;refine⟨_,(Ab (Ay (Ak Eu (Af Gm (Aa (Bl (pv 0) (by rfl)) (Aa (Bl (pv 0) (by rfl)) Ac))) Ae (An _))
  (Ad BX)
  Aq)
  (Ad (Ay (Ak FW (Bl (pv 0) (by rfl)) (pv 1) (An _))
   (Ad BX)
   Aq))),?_⟩
 symm;exists⟨y,Am,d,_,_,rfl,e,Aw,CQ,rfl,?_⟩;exists⟨y,Am,d,_,_,rfl,e,Aw,CG,rfl,?_⟩;exists⟨p,_,ts,rfl,T,fun H1 s1=>?_⟩;exists CJ (by lia) ?_;exists⟨y,Am,d,_,_,rfl,s1 _ _ e,Aw,CQ,rfl,?_⟩;exists CJ (by lia) ?_;exact q _ s1
theorem Qm:CI0 3 "Moon" BV ["self","start","days","many"] (YS K BV Am):=by
 refine ci' ["self","start","days","many"] QT fun nd H vs Q E hr h=>?_;obtain⟨x,dx,d,m,s,bd,bm,td,tm,rfl,hx,hd,hm,g,bs,q⟩:=h;refine⟨_,(Ab (Bc (Af Kw (Aa (pv 2) (Aa (By rfl Jf (Cq _ _)) Ac))))
  (Ab (Bc (Af Kw (Aa (pv 3) (Aa (By rfl Kr (Cq _ _)) Ac))))
  (Ab (Ex (pv 0) (pv 1) (by rfl))
  (Ab (Ex (pv 0) (pv 2) (by rfl))
  (Ad (Ex (pv 0) (pv 3) (by rfl))))))),?_⟩
 symm;exists⟨d,bd,_,td,rfl,hd,g.fd,g.gd,fun H0 s0=>?_⟩;refine⟨m,bm,_,tm,rfl,hm.same s0,g.fm,g.gm,fun H9 s9=>?_⟩;have s09:=s0.trans s9;have hx:=s09 _ _ hx;have hd:=hd.same s09;have hm:=hm.same s09;have dnx:d≠x:=by
  obtain⟨_,_,e,_⟩:=hd.ex;exact HJ e hx (by intro z;injection z with _ _ z;cases z)
 have mnx:m≠x:=by
  obtain⟨_,_,e,_⟩:=hm.ex;exact HJ e hx (by intro z;injection z with _ _ z;cases z)
 symm;refine⟨x,BV,dx,[],rfl,hx,CT,Ip,by decide,?_⟩;have k1:But x H9 (upd H9 x (.ins BV dx (DN (Str.ofString "start") (.int s) []))):=But.upd;have x1:upd H9 x (.ins BV dx (DN (Str.ofString "start") (.int s) [])) x=some (.ins BV dx [(Str.ofString "start",.int s)]):=Ai;generalize upd H9 x (.ins BV dx (DN (Str.ofString "start") (.int s) []))=H1 at k1 x1 ⊢;symm;refine⟨x,BV,dx,_,rfl,x1,CT,Ds,(by show 1<1000;decide),?_⟩;have k2:But x H1 (upd H1 x (.ins BV dx (DN (Str.ofString "days") (.ref d) [(Str.ofString "start",.int s)]))):=But.upd;have x2:upd H1 x (.ins BV dx (DN (Str.ofString "days") (.ref d) [(Str.ofString "start",.int s)])) x=some (.ins BV dx [(Str.ofString "start",.int s),(Str.ofString "days",.ref d)]):=Ai;generalize upd H1 x (.ins BV dx (DN (Str.ofString "days") (.ref d) [(Str.ofString "start",.int s)]))=H2 at k2 x2 ⊢;symm;refine⟨x,BV,dx,_,rfl,x2,CT,Dr,(by show 2<1000;decide),?_⟩;have k3:But x H2 (upd H2 x (.ins BV dx (DN (Str.ofString "many") (.ref m) [(Str.ofString "start",.int s),(Str.ofString "days",.ref d)]))):=But.upd;have x3:upd H2 x (.ins BV dx (DN (Str.ofString "many") (.ref m) [(Str.ofString "start",.int s),(Str.ofString "days",.ref d)])) x=some (.ins BV dx (moF s d m)):=Ai;generalize upd H2 x (.ins BV dx (DN (Str.ofString "many") (.ref m) [(Str.ofString "start",.int s),(Str.ofString "days",.ref d)]))=H3 at k3 x3 ⊢;have k03:But x H9 H3:=fun y o hy h=>k3 y o hy (k2 y o hy (k1 y o hy h));symm;refine q _ (fun y o hy h=>k03 y o hy (s09 _ _ h)) ⟨⟨dx,d,m,x3,hd.butX hx .ins dnx k03,hm.butX hx .ins mnx k03⟩,g,bs⟩
theorem M6:CM0 3 BV "year_start" ["self","year"] (wU K BV Am):=by
 refine cm' ["self","year"] Lw fun nd H vs Q E hr h=>?_;obtain⟨x,n,s,bd,bm,td,tm,rfl,S,bn,q⟩:=h;obtain⟨dx,d,m,hx,D,M⟩:=S.ex;obtain⟨d1,f1,e1,l1⟩:=D.meth;obtain⟨d2,f2,e2,l2⟩:=M.meth;obtain⟨d4,p4,e4,T4⟩:=M.ex;have g:=S.gd;exists⟨_,(Ad (Al (Ag Be (Bl (pv 0) (by rfl)) (Dw Cz Aw (Bl (pv 0) (by rfl)) (Aa (Dw Cz Aw (Bl (pv 0) (by rfl)) (Aa (pv 1) Ac)) Ac))))),?_⟩;exists⟨x,BV,dx,_,_,rfl,hx,CT,Ip,rfl,?_⟩;exists⟨x,BV,dx,_,_,rfl,hx,CT,Ds,rfl,?_⟩;exists⟨d,d1,f1,rfl,e1,l1.2.2.1,?_⟩;exists⟨x,BV,dx,_,_,rfl,hx,CT,Dr,rfl,?_⟩;exists⟨m,d2,f2,rfl,e2,l2.2.2.1,?_⟩;refine⟨m,p4,d4,n,_,tm,_,rfl,e4,rfl,rfl,T4,M.gd.b0,M.gd.b1,bn.mono (by decide),fun H1 s1=>?_⟩;obtain⟨d3,p3,e3,T3⟩:=(D.same s1).ex;symm;exists⟨d,p3,d3,_,_,td,_,rfl,e3,rfl,rfl,T3,D.gd.b0,D.gd.b1,(xQ g.okm M.gd.b0 M.gd.b1 g.fwm bn).mono (by decide),fun H2 s2=>?_⟩;exact q _ (s1.trans s2)
theorem Tq:CM0 3 BV "lengths" ["self","year"] (dN K BV Am):=by
 refine cm' ["self","year","first"] Rc fun nd H vs Q E hr h=>?_;obtain⟨x,n,s,bd,bm,td,tm,rfl,S,bn,q⟩:=h;obtain⟨dx,d,m,hx,D,M⟩:=S.ex;obtain⟨d2,f2,e2,l2⟩:=M.meth;obtain⟨d4,p4,e4,T4⟩:=M.ex;have g:=S.gd;have a0:=cR g.okm g.fm n;have a1:=qt g.okm g.fwm (b:=bm) n;have gm:=g.gm;refine⟨_,(Ab (Aj 2 (Dw Cz Aw (Bl (pv 0) (by rfl)) (Aa (pv 1) Ac)))
  (Ad (Al (FT rfl (Ez ["self","year","first"] ["self","year","first"] rfl rfl (by with_unfolding_all rfl) (by ac_rfl) rfl (by ac_rfl) rfl (by ac_rfl) (by walk_at"fm") (by with_unfolding_all rfl) (by with_unfolding_all rfl)) (OJ rfl Iw (Aa (Dw JW Aw (Bl (pv 0) (by rfl)) (Aa (pv 1) Ac)) Ac)) (fun _ _ _ _=>Ep) (fun _ _ _ _=>(Dw (ta:=xq K (Lh 1) (Str.ofString "days")) JW Aw (Bl (ta:=Lh 1) (pv 1) (by rfl)) (Aa (Ag Be (pv 3) (pv 0)) Ac))))))),?_⟩
 symm;exists⟨x,BV,dx,_,_,rfl,hx,CT,Dr,rfl,?_⟩;exists⟨m,d2,f2,rfl,e2,l2.2.2.1,?_⟩;refine⟨m,p4,d4,n,_,tm,_,rfl,e4,rfl,rfl,T4,M.gd.b0,M.gd.b1,bn.mono (by decide),fun H1 s1=>?_⟩;have hx1:=s1 _ _ hx;have M1:=M.same s1;have D1:=D.same s1;have bu:Bt 386 (UP bm tm n):=xQ g.okm M.gd.b0 M.gd.b1 g.fwm bn;obtain⟨d3,f3,e3,l3⟩:=M1.meth;symm;exists GD (W3 ?_);exists⟨x,BV,dx,_,_,rfl,hx1,CT,Dr,rfl,?_⟩;exists⟨m,d3,f3,rfl,e3,l3.2.1,?_⟩;refine⟨m,n,_,tm,rfl,M1,bn.mono (by decide),fun H2 s2=>?_⟩;have hx2:=s2 _ _ hx1;have D2:=D1.same s2;refine⟨_,rfl,by lia,by lia,?_⟩;refine Mu j7 (by rw[js,Qb];exact Dq (by lia)) (fun E i ys H3=>H3 E=some (.lst ys)/\Az H2 H3/\ys=((List.range i).map fun j:Nat=>AT bd td (UP bm tm n+(j:Int))).map V.int) (fun E hE=>⟨Ai,Ar hE _,rfl⟩)
  (fun E i ys H3 _ ⟨h1,_,h3⟩=>⟨h1,by rw[h3,js,js,Qb];exact ze _,trivial⟩) (fun E i v ys H3 hE hv ⟨h1,h2,h3⟩=>?_) (fun E ys H3 hE ⟨h1,h2,h3⟩=>?_)
 ·rw[xo] at hv;obtain⟨j,hj,rfl⟩:=kr.mp hv;have jl:j<(AT bm tm n).toNat:=jc7.mp (zh hj);obtain rfl:j=i:=by
   have:=qv.mp hj;obtain⟨_,e⟩:=this;rw[List.getElem_range] at e;exact e.symm
  have D3:=D2.same h2;obtain⟨d5,f5,e5,l5⟩:=D3.meth;refine Kc (Ek ?_);rw[jg7];symm;exists⟨x,BV,dx,_,_,rfl,h2 _ _ hx2,CT,Ds,rfl,?_⟩;exists⟨d,d5,f5,rfl,e5,l5.2.1,?_⟩;refine⟨d,_,_,td,rfl,D3,(bu.add ((show Bt 64 (j:Int) from CN (by lia) (by lia) (by decide)).mono (show 64<=386 by decide))).mono (show 387<=400 by decide),fun H4 s4=>?_⟩;refine⟨s4 _ _ h1,Ai,G6 hE (h2.trans s4),?_⟩;rw[h3,List.range_succ,kx,kx];rfl
 ·rw[js,Qb] at h3;subst h3;exact q E H3 ((s1.trans s2).free hE) ((s1.trans s2).trans h2) h1
theorem Xq:CM0 3 BV "cycle" ["self"] (lZ K BV Am):=by
 refine cm' ["self","years","months","times"] Wx fun nd H vs Q E hr h=>?_;obtain⟨x,s,bd,bm,td,tm,rfl,S,q⟩:=h;obtain⟨dx,d,m,hx,D,M⟩:=S.ex;obtain⟨d1,f1,e1,l1⟩:=D.meth;obtain⟨d2,f2,e2,l2⟩:=M.meth;obtain⟨d4,p4,e4,T4⟩:=M.ex;have g:=S.gd;obtain⟨Pm0,Pm1,Pmd⟩:=Qy g.okm g.fwm;obtain⟨Pd0,Pd1,Pdd⟩:=Qy g.okd g.fwd;have M0:=Xw (base:=bm) g.okm g.fm Pm0;have MA:=qR (b:=bm) g.okm M.gd.b0 M.gd.b1 g.fwm (k:=PER tm) (K:=PER tm) (by lia) (by lia);refine⟨_,(Ab (Aj 1 (Cm Fp Aw (Bl (pv 0) (by rfl))))
  (Ab (Aj 2 (Dw Cz Aw (Bl (pv 0) (by rfl)) (Aa (pv 1) Ac)))
  (Ab (Aj 3 (Ag Ba (Cm Fp Aw (Bl (pv 0) (by rfl))) (Af Vz (Aa (Cm Fp Aw (Bl (pv 0) (by rfl))) (Aa (pv 2) Ac)))))
  (Ad (Al (BK (Aa (Ag CP (pv 1) (pv 3)) (Aa (Dw Cz Aw (Bl (pv 0) (by rfl)) (Aa (Ag CP (pv 2) (pv 3)) Ac)) Ac)))))))),?_⟩
 symm;exists⟨x,BV,dx,_,_,rfl,hx,CT,Dr,rfl,?_⟩;exists⟨m,d2,f2,rfl,e2,l2.2.2.2,?_⟩;exists⟨m,_,tm,rfl,M,?_⟩;exists⟨x,BV,dx,_,_,rfl,hx,CT,Dr,rfl,?_⟩;exists⟨m,d2,f2,rfl,e2,l2.2.2.1,?_⟩;refine⟨m,p4,d4,_,_,tm,_,rfl,e4,rfl,rfl,T4,M.gd.b0,M.gd.b1,CN (by lia) (by lia) (by decide),fun H1 s1=>?_⟩;have hx1:=s1 _ _ hx;have D1:=D.same s1;obtain⟨d5,f5,e5,l5⟩:=D1.meth;have eT:moT td bm tm=PER td/(Int.gcd (PER td) (UP bm tm (PER tm)):Int):=rfl;generalize hM:UP bm tm (PER tm)=MM at*
 symm;exists⟨x,BV,dx,_,_,rfl,hx1,CT,Ds,rfl,?_⟩;exists⟨d,d5,f5,rfl,e5,l5.2.2.2,?_⟩;exists⟨d,_,td,rfl,D1,?_⟩;exists⟨x,BV,dx,_,_,rfl,hx1,CT,Ds,rfl,?_⟩;exists⟨d,d5,f5,rfl,e5,l5.2.2.2,?_⟩;exists⟨d,_,td,rfl,D1,?_⟩;refine⟨_,_,rfl,CN (by lia) (by lia) (by decide),(bt_of (by lia) (by lia)).mono (by decide),fun H2 s2=>?_⟩;have g0:=Mr (b:=MM) Pd0;have g1:=bY (b:=MM) Pd0;symm;refine Du (Fi g0 (by lia)) ?_;rw[<-eT];have t0:0<=moT td bm tm:=by rw[eT];exact jf9 (by lia) (by lia)
 have t1:moT td bm tm<=PER td:=by rw[eT];exact je5 _ (by lia)
 generalize moT td bm tm=T at*
 have D2:=D1.same s2;have hx2:=s2 _ _ hx1;obtain⟨d6,f6,e6,l6⟩:=D2.meth;obtain⟨d7,p7,e7,T7⟩:=D2.ex;have bM:Bt 200 MM:=bt_of (by lia) (by lia);have bT:Bt 64 T:=CN (by lia) (by lia) (by decide);symm;exists Du ⟨64,64,CN (by lia) (by lia) (by decide),bT,by decide⟩ ?_;exists⟨x,BV,dx,_,_,rfl,hx2,CT,Ds,rfl,?_⟩;exists⟨d,d6,f6,rfl,e6,l6.2.2.1,?_⟩;refine Du ⟨200,64,bM,bT,by decide⟩ ?_;exists⟨d,p7,d7,_,_,td,_,rfl,e7,rfl,rfl,T7,D.gd.b0,D.gd.b1,(bM.mul bT).mono (by decide),fun H3 s3=>?_⟩;refine⟨two,fun c hc=>?_⟩;exact q _ _ ((s1.trans s2).trans (s3.trans (Ar hc _))) Ai
theorem Qd:C0 2 "refuse_wanted" ["month","day","step"] rN:=by
 refine co' ["month","day","step"] QJ (len:=by intro _ _ _ _ h;obtain⟨m,d,st,rfl,_⟩:=h;cases m<;>cases d<;>rfl) fun nd H vs Q E hr h=>?_;obtain⟨m,d,st,rfl,m0,d0,st1,q⟩:=h;refine⟨_,(Ab (Fe (Ay (Ak eF (pv 0) Ff (An _))
  (Ad (Bc (Af Ce (Aa (pv 0) Ac))))
  Aq))
  (Ab (Ay (Ak Bk (pv 1) Ae (An _))
   (Ad BX)
   Aq)
  (Ad (Bc (Af Ce (Aa (pv 2) Ac)))))),?_⟩
 symm;refine FP (fun Z' H'=>H'=H/\Z'=[some (oI m),some (oI d),some (.int st)]) ?_ ?_
 ·symm;exists⟨rfl,?_⟩;cases m with
  | none=>
   exists Dz ?_;exact⟨rfl,rfl⟩
  | some i=>
   exists Ek ?_;exact⟨i,rfl,m0 i rfl,⟨rfl,rfl⟩⟩
 rintro Z' H' ⟨rfl,rfl⟩;cases d with
 | none=>
  symm;exists CJ (fun e=>nomatch e) ?_;exact⟨st,rfl,st1,q⟩
 | some i=>
  symm;exists CJ (fun e=>d0 (yk some (V.int.inj e))) ?_;exact⟨st,rfl,st1,q⟩
theorem Qh:C0 1 "days_of_month" ["first","length","day"] sX:=by
 refine co' ["first","length","day","place"] QM (len:=by intro _ _ _ _ h;obtain⟨f,n,d,rfl,_⟩:=h;cases d<;>rfl) fun nd H vs Q E hr h=>?_;obtain⟨f,n,d,rfl,n0,n1,q⟩:=h;refine⟨_,(Ab (Ay (Ak Hk (pv 2) Ff (An _))
  (Ad (Al (aq rfl rfl Zx rfl Iw (Aa (pv 0) (Aa (Ag Be (pv 0) (pv 1)) Ac)))))
  Aq)
  (Ab (Fe (Aj 3 (Dh (Ak FW (pv 2) Ae (An _)) (Ag DW (pv 2) Ae) (Ag Be (pv 1) (pv 2)))))
  (Ab (Ay (PW.pt (Hi (Ak Eu (pv 3) Ae (An _)) (GQ (Ak nU (pv 3) (pv 1) (An _)))))
   (Ad (Al (Ef Ac)))
   Aq)
  (Ad (Al (Ef (Aa (Ag Be (pv 0) (pv 3)) Ac))))))),?_⟩
 cases d with
 | none=>
  symm;exists⟨rfl,?_⟩;exists Ek ?_;refine⟨f,f+n,rfl,by lia,by lia,fun l hl=>?_⟩;refine q l _ hl (Ar hl _) ?_;rw[Ai,show f+n-f=n by lia];unfold Xj;rw[ua];rfl
 | some i=>
  rw[show oI (some i)=V.int i from rfl];symm;exists⟨rfl,?_⟩;exists Dz ?_;refine FP (fun Z' H'=>H'=H/\Z'=[some (.int f),some (.int n),some (.int i),some (.int (plD n i))]) ?_ ?_
  ·symm;refine CK (fun h=>?_) (fun h=>?_)
   ·rw[show plD n i=i-1 from xh h];symm;exact⟨rfl,rfl⟩
   ·rw[show plD n i=n+i from xk h];symm;exact⟨rfl,rfl⟩
  rintro Z' H' ⟨rfl,rfl⟩;simp only[Xj] at q;generalize plD n i=pl at*
  symm;refine CK (fun h1=>Ek ?_) (fun h1=>?_)
  ·rw[xh (.inl h1)] at q;symm;refine⟨ve _,fun l hl=>?_⟩;exact q l _ hl (Ar hl _) Ai
  symm;refine CK (fun h2=>?_) (fun h2=>?_)
  ·rw[xh (.inr h2)] at q;symm;refine⟨ve _,fun l hl=>?_⟩;exact q l _ hl (Ar hl _) Ai
  ·rw[xk (fun z=>z.elim h1 h2)] at q;symm;refine⟨(by show 1<=sizeLine;decide),fun l hl=>?_⟩;exact q l _ hl (Ar hl _) Ai
theorem Tc:C0 4 "days_of_year" ["calendar","year","month","day"] (sV K Bf BV Am):=by
 refine co' ["calendar","year","month","day","told","first","number","length"] RX (len:=by intro _ _ _ _ h;obtain⟨x,d,y,m,i,rfl,_⟩:=h;cases m<;>cases i<;>rfl) fun nd H vs Q E hr h=>?_;obtain⟨x,d,y,m,i,rfl,S,by',q⟩:=h;have g:=Et.good S;have ln:=Bu.len g y;have lm:=Bu.mem g y;have nn:∀n∈d.L y,0<=n:=fun n hn=>(lm n hn).1;refine⟨_,(Ab (Aj 4 (Ef Ac))
  (Ab (Aj 5 (Ru (k:=3) (Hu.cons CZ Ov (by decide) (Hu.cons CT M6 (by decide) Hu.nil)) (hr.mono (by decide)) (pv 0) (Aa (pv 1) Ac)))
  (Ab (Aj 6 Ae)
  (Ab (JG PassesOwn.never rfl (Gj (Ru (k:=3) (Hu.cons CZ Uz (by decide) (Hu.cons CT Tq (by decide) Hu.nil)) (hr.mono (by decide)) (pv 0) (Aa (pv 1) Ac))) (Cg (i:=7) nd rfl (by walk_at"o"))
   (Ab (Fe (Ay (PW.pt (Hi (Ak Hk (pv 2) Ff (An _)) (GQ (Ak Bk (pv 2) (pv 6) (An _)))))
   (Ad (Bc (Gn kz jd0 jd1 Il (pv 4) (Aa (Af Qh (Aa (pv 5) (Aa (pv 7) (Aa (pv 3) Ac)))) Ac))))
   Aq))
  (Ab (Aj 5 (Ag Be (pv 5) (pv 7)))
  (Ad (Aj 6 (Ag Be (pv 6) Ae))))))
  (Ad (Al (pv 4))))))),?_⟩
 symm;refine⟨ve _,fun t0 ht0=>?_⟩;have s1:=Ar ht0 (.lst []);have e1:upd H t0 (.lst []) t0=some (.lst []):=Ai;have S1:=Et.same S s1;generalize upd H t0 (.lst [])=H1 at s1 e1 S1 ⊢;symm;obtain⟨C,dx,fs,sp,mem,e,lk,use⟩:=S1.ys;exists⟨x,C,dx,fs,sp,mem,rfl,e,lk,?_⟩;refine use S1 by' fun H2 s2=>?_
 have S2:=Et.same S1 s2;have e2:=s2 _ _ e1;have s12:=s1.trans s2;symm;exists N8 (Jr ?_);obtain⟨C',dx',fs',sp',mem',e',lk',use'⟩:=S2.le;exists⟨x,C',dx',fs',sp',mem',rfl,e',lk',?_⟩;refine use' S2 by' fun l H3 hl s3 t3=>?_
 have e3:=s3 _ _ e2;have s13:=s12.trans s3;have lt:l≠t0:=fun z=>by rw[z,e2] at hl;cases hl
 generalize d.L y=L at*
 generalize d.Y y=Y0 at*
 refine⟨l,rfl,⟨_,SqL.of t3⟩,J4 (xs:=L.map V.int) (fun k Z' H'=>An4 (Az H H') (H' l=some (.lst (L.map V.int))) (k<=L.length) (∃(v:Option V),H' t0=some (.lst ((yrL (L.take k) Y0 1 m i).map V.int))/\Z'=[some (.ref x),some (.int y),some (oI m),some (oI i),some (.ref t0),some (.int (Y0+PS L k)),some (.int (1+(k:Int))),v])) ⟨s13,t3,ve _,none,e3,by rw[vp,jc9];rfl⟩ ?_ ?_ ?_⟩
 ·rintro k Z' H' hk ⟨_,t,_⟩;exact SqL.of t
 ·rintro k v0 Z' H' hv ⟨sH,tl,k1,v,td,rfl⟩;rw[xo] at hv;obtain⟨n,hn,rfl⟩:=kr.mp hv;have kl:k<L.length:=(qv.mp hn).1;have hnm:=lm n (zh hn);have e5:=j5 hn Y0 m i;have eP:PS L (k+1)=PS L k+n:=by
   rw[gD kl,ja2,hn];rfl
  have l1:=Zy (L.take k) Y0 1 m i fun n hn=>nn n (List.mem_of_mem_take hn);have l2:=WP (M:=1006) lm;have l3:=fO (f:=Y0+PS L k) hnm.1 i;have l4:(L.take k).sum<=L.sum:=by
   have:=gF nn (show k<=L.length by lia) (ze _)
   rwa [AAr] at this
  generalize yrL (L.take k) Y0 1 m i=ds at*
  symm;refine FP (fun Z' H'=>An4 (Az H H') (H' l=some (.lst (L.map V.int))) (H' t0=some (.lst ((yrL (L.take (k+1)) Y0 1 m i).map V.int))) (Z'=[some (.ref x),some (.int y),some (oI m),some (oI i),some (.ref t0),some (.int (Y0+PS L k)),some (.int (1+(k:Int))),some (.int n)])) ?_ ?_
  ·have ext:(m=none\/m=some (1+(k:Int)))->∀(l5:Addr) (H5:Hp) (s5:Az H' H5) (t5:H5 l5=some (.lst ((Xj (Y0+PS L k) n i).map V.int))) {Q2:VK},(∀(H4:Hp),Az H H4->H4 l=some (.lst (L.map V.int))->H4 t0=some (.lst ((yrL (L.take (k+1)) Y0 1 m i).map V.int))->Q2 .non H4)->Qx (.ref t0) [.ref l5] H5 Q2:=fun hm l5 H5 s5 t5 {Q2} hQ=>by
    have td5:=s5 _ _ td;have tl5:=s5 _ _ tl;refine⟨t0,l5,_,_,rfl,rfl,td5,t5,?_,?_⟩
    ·rw[js,js,sizeLine_eq];lia
    ·rw[<-kx];refine hQ _ (fun r o ho=>?_) ?_ ?_
     ·rw[Ax fun z=>by rw[z,ht0] at ho;cases ho];exact s5 _ _ (sH _ _ ho)
     ·rw[Ax lt];exact tl5
     ·rw[Ai,e5,xh hm]
   have skip:¬(m=none\/m=some (1+(k:Int)))->Az H H'/\H' l=some (.lst (L.map V.int))/\H' t0=some (.lst ((yrL (L.take (k+1)) Y0 1 m i).map V.int)):=fun hm=>⟨sH,tl,by rw[e5,xk hm,xz];exact td⟩;cases m with
   | none=>
    symm;exists⟨rfl,?_⟩;exists Ek (Ek ?_);exists OD rfl td ?_;refine⟨_,n,i,rfl,hnm.1,by lia,fun l5 H5 h5 s5 t5=>?_⟩;refine Ft ?_;refine ext (.inl rfl) l5 H5 s5 t5 fun H4 a1 a2 a3=>?_;exact⟨a1,a2,a3,rfl⟩
   | some j=>
    symm;exists⟨rfl,?_⟩;exists Dz ?_;refine CK (fun z=>?_) (fun z=>?_)
    ·have z':some j=some (1+(k:Int)):=yk some (V.int.inj z);symm;exists OD rfl td ?_;refine⟨_,n,i,rfl,hnm.1,by lia,fun l5 H5 h5 s5 t5=>?_⟩;refine Ft ?_;refine ext (.inr z') l5 H5 s5 t5 fun H4 a1 a2 a3=>?_;exact⟨a1,a2,a3,rfl⟩
    ·symm;obtain⟨a1,a2,a3⟩:=skip (fun w=>by rcases w with w | w;cases w;exact z (yk V.int (uu w)));exact⟨a1,a2,a3,rfl⟩
  rintro Z' H4 ⟨sH,tl,td,rfl⟩;symm;refine⟨sH,tl,by lia,some (.int n),td,?_⟩;rw[show (1:Int)+((k+1:Nat):Int)=1+(k:Int)+1 by lia,eP,<-Int.add_assoc]<;>rfl
 rintro Z' H' ⟨sH,tl,k1,v,td,rfl⟩;symm;rw[js,jc1] at td;exact q t0 _ ht0 sH td
theorem mJ:Cu ["calendar","month","day","step","rest","cycle","years","size","days","year"] ["calendar","month","day","step","rest"] (BP Wv):=by walk_at"s"
theorem nj{ds:Array Value}(F:KZ K "dated" "dated" Wv f fd ds):F0 5 f fd ["calendar","month","day","step","rest"] (YT K Bf BV Am):=by
 refine F.ok (k:=4) mJ (fun h=>?_) fun nd H vs Q E hr h=>?_
 ·obtain⟨x,g,m,i,rfl,_⟩:=h;cases m<;>cases i<;>rfl
 obtain⟨x,g,m,i,rfl,S,sm,m0,i0,q⟩:=h;have gd:=Et.good S;have Y0:=sm.y0;have Y1:=sm.y1;have D0:=sm.d0;have D1:=sm.d1;refine⟨_,(Ab (Bc (Af Qd (Aa (pv 1) (Aa (pv 2) (Aa (pv 3) Ac)))))
  (Ab (Aj 5 (Bv (k:=3) (Hu.cons CZ Zr (by decide) (Hu.cons CT Xq (by decide) Hu.nil)) (pv 0)))
  (Ab (Aj 6 (Af Td (Aa (pxT 5) (Aa (pv 3) Ac))))
  (Ab (Aj 7 (Ag CP (Ag Ba (pv 6) (pxT 5)) (pxT 5)))
  (Ab (Bc (Af Eb (Aa (pv 7) Ac)))
  (Ab (Aj 8 (Ef Ac))
  (Ab (JG PassesOwn.never rfl (VN rfl Iw (Aa (Ag Bs (pv 4) (pv 3)) (Aa (pv 6) (Aa (pv 3) Ac)))) (Cg (i:=9) nd rfl (by walk_at"o"))
   (Ad (Bc (Gn kz jd0 jd1 Il (pv 8) (Aa (Af Tc (Aa (pv 0) (Aa (pv 9) (Aa (pv 1) (Aa (pv 2) Ac))))) Ac)))))
  (Ad (Al (Af JQ (Aa (pv 7) (Aa (pv 8) Ac)))))))))))),?_⟩
 symm;exists⟨m,i,1,rfl,m0,i0,by decide,?_⟩;obtain⟨C,dx,fs,sp,mem,e,lk,use⟩:=S.cyc;refine⟨x,C,dx,fs,sp,mem,rfl,e,lk,?_⟩;refine use S fun c H1 s1 t1=>?_;clear C dx fs sp mem e lk use;have S1:=Et.same S s1;generalize hY:g.cy.1=Y at*
 generalize hD:g.cy.2=D at*
 symm;exists Av (SqT.of t1) at0 ?_;refine⟨_,_,rfl,by lia,by lia,CN (by lia) (by lia) (by decide),CN (by lia) (by lia) (by decide),fun H2 s2=>?_⟩;have lc:Bx Y 1=Y:=by rw[Vf (by lia) (by decide)];exact Xa (by decide) (by lia) (Int.one_dvd Y)
 rw[lc];symm;exists Av (SqT.of (s2 _ _ t1)) at0 ?_;exists Du (Fi (by lia) (by lia)) ?_;exists Av (SqT.of (s2 _ _ t1)) at1 ?_;rw[Int.ediv_self (by lia)];exists IV ?_;rw[jf5];exists⟨_,rfl,by lia,?_⟩;refine⟨ve _,fun l hl=>?_⟩;have hlH:H l=none:=(s1.trans s2).free hl;refine fresh hl fun H3 s3 t3=>?_;have S3:=Et.same (Et.same S1 s2) s3;symm;exists N8 (dZ ?_);obtain⟨n,hn⟩:∃n:Nat,(n:Int)=Y:=⟨Y.toNat,by lia⟩;refine⟨0,Y,1,rfl,by lia,by lia,K5 (by lia) (by lia) (by lia) (by lia) (by lia) (by lia),n,by rw[JD (by decide),xh (by lia)];lia,Sd (fun k Z' H'=>An3 (Az H H') (k<=n) (∃(v:Option V),An4 ((dtL g m i k).length<=30000*k) (H' l=some (.lst ((dtL g m i k).map V.int))) (Et K Bf BV Am H' x g) (Z'=[some (.ref x),some (oI m),some (oI i),some (.int 1),some (.int 0),some (.ref c),some (.int Y),some (.int D),some (.ref l),v]))) ⟨s1.trans (s2.trans s3),by lia,none,ze _,t3,S3,rfl⟩ ?_ ?_⟩
 ·rintro k Z' H' hk ⟨sH,k1,v,dl,tl,SH,rfl⟩;have ek:(0:Int)+(k:Int)*1=(k:Int):=by lia
  have ln:=Bu.len gd (k:Int);have lm:=Bu.mem gd (k:Int);have le:=Zy (g.L (k:Int)) (g.Y (k:Int)) 1 m i fun n hn=>(lm n hn).1;have l2:=WP (M:=1006) lm;have lN:(dtL g m i (k+1)).length<=30000*(k+1):=by
   show(dtL g m i k++_).length<=_;rw[zk];lia
  symm;exists OD rfl tl ?_;rw[ek];refine⟨x,g,_,m,i,rfl,SH,CN (by lia) (by lia) (by decide),fun l5 H5 h5 s5 t5=>?_⟩;refine Ft ?_;have tl5:=s5 _ _ tl;refine⟨l,l5,_,_,rfl,rfl,tl5,t5,?_,?_⟩
  ·rw[js,js,sizeLine_eq,<-zk];exact zv lN (by lia)
  ·rw[<-kx];refine⟨fun u o ho=>?_,by lia,_,lN,Ai,Et.but (Et.same SH s5) tl5 But.upd,rfl⟩;rw[Ax fun z=>by rw[z,hlH] at ho;cases ho];exact s5 _ _ (sH _ _ ho)
 ·rintro Z' H' ⟨sH,_,v,dl,tl,SH,rfl⟩;symm;refine⟨l,_,D,rfl,SqL.of tl,by lia,by lia,fun p b H6 s6 t6 B=>?_⟩;exact q p b H6 (sH.trans s6) t6 (by rw[show Y.toNat=n by lia];exact B)
theorem vR:C0 5 "dated" ["calendar","month","day","step","rest"] (YT K Bf BV Am):=vN (st:=Wv) (ds:= #[.none,.none,(.int 1 YF),(.int 0 YD)]) gX gG (by walk_at"dg") (fun _ _ _ _ _ _ _ us hl=>by obtain⟨_,_,_,_,_,rfl⟩:=zZ hl;exact⟨_,rfl,rfl⟩) nj
theorem ABj:Cu ["turn","day"] ["turn","day"] (BP yj):=by walk_at"s"
theorem ACI(F:Fun K "on" "on" yj f fd):F0 1 f fd ["turn","day"] (ABX K):=by
 refine F.ok (k:=0) ABj (fun h=>?_) fun nd H vs Q E hr h=>?_
 ·obtain⟨a,n,d,b,rfl,_⟩:=h;rfl
 obtain⟨a,n,d,b,rfl,hS,h0,q⟩:=h;exists⟨_,(Ad (Al (DP Bk (Ag Ia (Ag Oe (pxT 0) (Ag Bs (pv 1) (pxT 0))) Ae) Ae (An _)))),?_⟩;exists Av hS at1 ?_;refine Av hS at0 ?_;exists Du h0 ?_;exists Du (show (0:Int)<=d%n from qk d (by lia)) ?_;rw[vd];exact q
theorem Zk:C0 1 "on_rounds" ["turn","day"] (ABX K):=co (st:=yj) (by walk_at"g") (by walk_at"b") fun F=>ACI F
theorem Nm:Cu ["self","kept","made_of","words"] ["self","kept","made_of","words"] (BP HF):=by walk_at"s"
theorem Oi{ds:Array Value}(F:KZ K "__init__" "Rule.__init__" HF f fd ds):F0 1 f fd ["self","kept","made_of","words"] (dJ K BR):=by
 refine F.ok (k:=0) Nm (fun h=>?_) fun nd H vs Q E hr h=>?_
 ·obtain⟨x,p,pm,pw,C,dx,rfl,_⟩:=h;rfl
 obtain⟨x,p,pm,pw,C,dx,rfl,hx,R,q⟩:=h;refine⟨_,(Ab (Ex (pv 0) (Dh (Ak Hk (pv 1) Ff (An _)) (BK (Aa Ae (Aa Ae Ac))) (pv 1)) (by rfl))
  (Ab (Ex (pv 0) (Dh (Ak Hk (pv 2) Ff (An _)) (BK Ac) (pv 2)) (by rfl))
  (Ad (Ex (pv 0) (Dh (Ak Hk (pv 3) Ff (An _)) (BK (Aa Ah Ac)) (pv 3)) (by rfl))))),?_⟩
 symm;symm;exists⟨rfl,dj (CJ (fun e=>nomatch e) ?_)⟩;exists⟨x,C,dx,[],rfl,hx,R.cl,R.k,by decide,?_⟩;symm;exists⟨rfl,dj (CJ (fun e=>nomatch e) ?_)⟩;exists⟨x,C,dx,_,rfl,Ai,R.cl,R.m,(show 1<1000 by decide),?_⟩;symm;exists⟨rfl,dj (CJ (fun e=>nomatch e) ?_)⟩;exists⟨x,C,dx,_,rfl,Ai,R.cl,R.w,(show 2<1000 by decide),?_⟩;refine q _ (fun y o ne e=>?_) Ai;rw[Ax ne,Ax ne,Ax ne];exact e
theorem Bg:AAv P w K mg base 1 "Rule" ["self","kept","made_of","words"] (dJ K BR):=pW (st:=HF) (ds:= #[.none,.none,.none]) gX gG (by walk_at"k") (by walk_at"k") (by walk_at"k") (by walk_at"db") (fun _ _ _ _ _ _ _ us hl=>by obtain⟨_,_,_,_,rfl⟩:=ACS hl;exact⟨_,rfl,rfl⟩) Oi
theorem Wm:Cu ["self"] ["self"] (BP Jp):=by walk_at"s"
theorem XJ{k d:Nat}(F:Fun K "turn" "Rule.turn" Jp f fd)(cr:Hu P w K mg base CX0 k "turn" ["self"] (CL.map fun C=>(C,(spR (Qu K BR CL)) d)))(hk:1<=k):F0 (k+1) f fd ["self"] ((spR (Qu K BR CL)) (d+1)):=by
 refine F.ok (k:=k) Wm (fun h=>?_) fun nd H vs Q E hr h=>?_
 ·obtain⟨_,x,n,b,rfl,_⟩:=h;rfl
 obtain⟨_,x,n,b,rfl,R,q⟩:=h;obtain⟨C,dx,p,pm,pw,hC,rc,hx,hp⟩:=R.ex;exists⟨_,(Ad (Al (Bl (pv 0) (by rfl)))),?_⟩;exact⟨x,C,dx,_,_,rfl,hx,rc.cl,rc.k,rfl,q p hp⟩
theorem Br:Hu P w K mg base CX0 2 "turn" ["self"] (CL.map fun C=>(C,(spR (Qu K BR CL)) 1)):=Rk (k0:=1) (Cs:=CL) (sp:=(spR (Qu K BR CL))) (st:=Jp) (all_cons ⟨Vt,by walk_at"h"⟩ (all_cons ⟨ZM,by walk_at"h"⟩ (all_cons ⟨Sx,by walk_at"h"⟩ (all_cons ⟨Pg,by walk_at"h"⟩ (all_cons ⟨Vq,by walk_at"h"⟩ (all_cons ⟨Sy,by walk_at"h"⟩ (all_cons ⟨Mt,by walk_at"h"⟩ (all_cons ⟨Vs,by walk_at"h"⟩ (all_cons ⟨Ms,by walk_at"h"⟩ (all_cons ⟨Pa,by walk_at"h"⟩ (all_cons ⟨Su,by walk_at"h"⟩ (all_cons ⟨PX,by walk_at"h"⟩ (all_cons ⟨Sw,by walk_at"h"⟩ (all_cons ⟨Sv,by walk_at"h"⟩ (all_cons ⟨Vr,by walk_at"h"⟩ (all_cons ⟨Pb,by walk_at"h"⟩ all_nil)))))))))))))))) (by walk_at"b") (fun _ _ _ _ h=>YL h) (fun d _ _ CL F=>XJ F CL (vj _ _)) 1
theorem aF:Cu ["self","day"] ["self","day"] (BP Nu):=by walk_at"s"
theorem bG{k d:Nat}(F:Fun K "on" "Rule.on" Nu f fd)(cr:Hu P w K mg base CX0 k "on" ["self","day"] (CL.map fun C=>(C,(spR (dM K BR CL)) d)))(hk:2<=k):F0 (k+1) f fd ["self","day"] ((spR (dM K BR CL)) (d+1)):=by
 refine F.ok (k:=k) aF (fun h=>?_) fun nd H vs Q E hr h=>?_
 ·obtain⟨_,x,n,d,b,rfl,_⟩:=h;rfl
 obtain⟨_,x,n,d,b,rfl,R,q⟩:=h;obtain⟨C,dx,p,pm,pw,hC,rc,hx,hp⟩:=R.ex;exists⟨_,(Ad (Al (Af Zk (Aa (Bl (pv 0) (by rfl)) (Aa (pv 1) Ac))))),?_⟩;exists⟨x,C,dx,_,_,rfl,hx,rc.cl,rc.k,rfl,?_⟩;exact⟨p,n,d,b,rfl,SqT.of hp,R.n0,q⟩
theorem pY:Hu P w K mg base CX0 3 "on" ["self","day"] (CL.map fun C=>(C,(spR (dM K BR CL)) 1)):=Rk (k0:=2) (Cs:=CL) (sp:=(spR (dM K BR CL))) (st:=Nu) (all_cons ⟨Vt,by walk_at"h"⟩ (all_cons ⟨ZM,by walk_at"h"⟩ (all_cons ⟨Sx,by walk_at"h"⟩ (all_cons ⟨Pg,by walk_at"h"⟩ (all_cons ⟨Vq,by walk_at"h"⟩ (all_cons ⟨Sy,by walk_at"h"⟩ (all_cons ⟨Mt,by walk_at"h"⟩ (all_cons ⟨Vs,by walk_at"h"⟩ (all_cons ⟨Ms,by walk_at"h"⟩ (all_cons ⟨Pa,by walk_at"h"⟩ (all_cons ⟨Su,by walk_at"h"⟩ (all_cons ⟨PX,by walk_at"h"⟩ (all_cons ⟨Sw,by walk_at"h"⟩ (all_cons ⟨Sv,by walk_at"h"⟩ (all_cons ⟨Vr,by walk_at"h"⟩ (all_cons ⟨Pb,by walk_at"h"⟩ all_nil)))))))))))))))) (by walk_at"b") (fun _ _ _ _ h=>YL h) (fun d _ _ CL F=>bG F CL (vj _ _)) 1
theorem Tw:CI0 3 "All" V3 ["self"] (ABf K BR CL V3 1):=by
 refine ci' ["self"] Ri fun nd H vs Q E hr h=>?_;obtain⟨x,rfl,⟨dx,hx⟩,q⟩:=h;exists⟨_,(Ad (Bc (DY Bg (Aa (pv 0) (Aa (BK (Aa Ae (Aa Ae Ac))) (Aa (BK Ac) (Aa (BK (Aa Ah Ac)) Ac))))))),?_⟩;refine⟨HQ,fun p hp=>?_⟩;refine fresh hp fun H1 s1 t1=>?_;have t1:H1 p=some (.tup [.int 1,.int ((1:Nat):Int)]):=t1;symm;refine⟨(by show 0<=sizeLine;decide),fun pm hpm=>?_⟩;exists fresh hpm fun H2 s2 t2=>?_;refine⟨(by show 1<=sizeLine;decide),fun pw hpw=>?_⟩;refine fresh hpw fun H3 s3 t3=>?_;have s3:=s2.trans s3;have hx3:=(s1.trans s3) _ _ hx;symm;exact⟨x,p,pm,pw,V3,dx,rfl,hx3,Vp,fun H' k e=>q _ H' (k.pre (s1.trans s3)) (Fo (zh (i:=0) rfl) Vp hx3 (s3 _ _ t1) k e (by decide) (by decide) (by decide)) rfl⟩
theorem U0:CI0 3 "No" jm ["self"] (ABf K BR CL jm 0):=by
 refine ci' ["self"] Ut fun nd H vs Q E hr h=>?_;obtain⟨x,rfl,⟨dx,hx⟩,q⟩:=h;exists⟨_,(Ad (Bc (DY Bg (Aa (pv 0) (Aa (BK (Aa Ae (Aa Ae Ac))) (Aa (BK Ac) (Aa (BK (Aa Ah Ac)) Ac))))))),?_⟩;refine⟨HQ,fun p hp=>?_⟩;refine fresh hp fun H1 s1 t1=>?_;have t1:H1 p=some (.tup [.int 1,.int ((0:Nat):Int)]):=t1;symm;refine⟨(by show 0<=sizeLine;decide),fun pm hpm=>?_⟩;exists fresh hpm fun H2 s2 t2=>?_;refine⟨(by show 1<=sizeLine;decide),fun pw hpw=>?_⟩;refine fresh hpw fun H3 s3 t3=>?_;have s3:=s2.trans s3;have hx3:=(s1.trans s3) _ _ hx;symm;exact⟨x,p,pm,pw,jm,dx,rfl,hx3,ZL,fun H' k e=>q _ H' (k.pre (s1.trans s3)) (Fo (zh (i:=1) rfl) ZL hx3 (s3 _ _ t1) k e (by decide) (by decide) (by decide)) rfl⟩
theorem Pj:C0 1 "each_text" ["step","rest"] ABg:=by
 refine co' ["step","rest","least_rest"] Yq fun nd H vs Q E hr h=>?_;obtain⟨n,r,rfl,n0,n1,q⟩:=h;refine⟨_,(Ab (Aj 2 (Ag Bs (pv 1) (pv 0)))
  (Ad (Al (MK (Em Ah (Em (Ob hr.toN (pv 0)) (Em Ah (Em (Ob hr.toN (pv 2)) Ro)))))))),?_⟩
 symm;have m0:=qk r (show n≠0 by lia);have m1:=qg r (show 0<n by lia);have g1:n.natAbs.log2<1920:=zY (by lia) (by lia);have g2:(r%n).natAbs.log2<1920:=zY (by lia) (by lia);refine Kq 0 (by decide) (by decide) fun l1=>VH _ l1 (by decide) rfl g1 fun l2=>Kq _ l2 (by decide) fun l3=>VH _ l3 (by decide) rfl g2 fun l4=>Lz (fits l4 (by decide)) ?_;refine q _ ?_;rw[Jy,Jy,Jy,Jy];have e0:Str.empty.length=0:=by ac_rfl
 have e1:(Str.ofString "each ").length=5:=by ac_rfl
 have e2:(Str.ofString " from ").length=6:=by ac_rfl
 have e3:=J2 g1;have e4:=J2 g2;lia
theorem Qn:CI0 3 "Each" Oz ["self","size","rest"] (ABd K BR CL Oz):=by
 refine ci' ["self","size","rest","kept"] QV fun nd H vs Q E hr h=>?_;obtain⟨x,n,r,rfl,n0,n1,⟨dx,hx⟩,q⟩:=h;refine⟨_,(Ab (Aj 3 (Af JQ (Aa (pv 1) (Aa (Ef (Aa (pv 2) Ac)) Ac))))
  (Ad (Bc (DY Bg (Aa (pv 0) (Aa (pv 3) (Aa (BK Ac) (Aa (BK (Aa (Af Pj (Aa (pv 1) (Aa (pv 2) Ac))) Ac)) Ac)))))))),?_⟩
 symm;refine⟨(by show 1<=sizeLine;decide),fun l hl=>?_⟩;refine fresh hl fun H0 s0 t0=>?_;have t0:H0 l=some (.lst ([r].map V.int)):=t0;symm;refine⟨l,[r],n,rfl,SqL.of t0,by lia,by lia,fun p b H1 s1 t1 B=>?_⟩;have s1:=s0.trans s1;symm;refine⟨(by show 0<=sizeLine;decide),fun pm hpm=>?_⟩;exists fresh hpm fun H2 s2 t2=>?_;exists⟨n,r,rfl,n0,n1,fun z hz=>?_⟩;refine⟨(by show 1<=sizeLine;decide),fun pw hpw=>?_⟩;refine fresh hpw fun H3 s3 t3=>?_;have s3:=s2.trans s3;have hx3:=(s1.trans s3) _ _ hx;symm;exact⟨x,p,pm,pw,Oz,dx,rfl,hx3,Sq,fun H' k e=>q _ H' (k.pre (s1.trans s3)) (Fo (zh (i:=2) rfl) Sq hx3 (s3 _ _ t1) k e (by lia) (by lia) B.lt) B⟩
theorem Ku:C0 1 "wanted_text" ["number"] ABT:=by
 refine co' ["number"] Ue fun nd H vs Q E hr h=>?_;obtain⟨m,rfl,hm,q⟩:=h;refine⟨_,(Ad (Al (Dh (Ak Hk (pv 0) Ff (An _)) Ah (BW BJ rfl Df qr (Aa (pv 0) Ac))))),?_⟩;cases m with
 | none=>
  symm
  try refine N7 ?_
  symm;exists⟨rfl,?_⟩;exists Ek ?_;exact q _ (by ac_rfl)
 | some j=>
  rw[show oI (some j)=V.int j from rfl];symm
  try refine N7 ?_
  symm;exists⟨rfl,?_⟩;exists Dz ?_;exact⟨_,rfl,hm j rfl,q _ (J2 (hm j rfl))⟩
theorem Xp:C0 2 "dated_text" ["name","month","day","step","rest"] ABh:=by
 refine co' ["name","month","day","step","rest","words"] Wu (len:=by intro _ _ _ _ h;obtain⟨z,m,d,rfl,_⟩:=h;cases m<;>cases d<;>rfl) fun nd H vs Q E hr h=>?_;obtain⟨z,m,d,rfl,tzl,hm,hd,q⟩:=h;refine⟨_,(Ab (Aj 5 (Ef (Aa Ah (Aa (pv 0) (Aa (Af Ku (Aa (pv 1) Ac)) (Aa (Af Ku (Aa (pv 2) Ac)) Ac))))))
  (Ab (Fe (Ay (Ak FW (pv 3) Ae (An _))
   (Ad (Bc (Gn kz PySem.F.slot_list_append PySem.F.type_list_append Vd (pv 5) (Aa (Af Pj (Aa (pv 3) (Aa (pv 4) Ac))) Ac))))
   Aq))
  (Ad (Al (Gn vt PySem.F.slot_str_join PySem.F.type_str_join eO Ah (Aa (pv 5) Ac)))))),?_⟩
 symm;exists⟨m,rfl,hm,fun z1 t1l=>?_⟩;exists⟨d,rfl,hd,fun z2 t2l=>?_⟩;refine⟨four,fun l hl=>?_⟩;refine fresh hl fun H1 s1 e1=>?_;have e1:H1 l=some (.lst (([Str.ofString "date",z,z1,z2]:List Str).map V.str)):=e1;symm;have eb:(Str.ofString " ").length=1:=by ac_rfl
 have e4:(Str.ofString "date").length=4:=by ac_rfl
 refine FP (fun Z' H'=>H'=H1/\Ex5 fun(w0 w1 w2 w3 w4:V)=>Z'=[some w0,some w1,some w2,some w3,some w4,some (.ref l)]) ?_ ?_
 ·symm;exists CJ (by decide) ?_;exact⟨rfl,_,_,_,_,_,rfl⟩
 rintro Z' H2 ⟨rfl,w0,w1,w2,w3,w4,rfl⟩;symm;exists Js ?_;exists⟨rfl,?_⟩;refine⟨_,l,_,rfl,rfl,SqL.of e1,?_,q _ _ s1⟩;rw[eb];show((Str.ofString "date").length+(z.length+(z1.length+(z2.length+0))))+4*1<=_;lia
theorem Lp:Cu ["self","name","calendar","month","day","step","rest","kept"] ["self","name","calendar","month","day","step","rest"] (BP Gq):=by walk_at"s"
theorem Mi{ds:Array Value}(F:KZ K "__init__" "Dated.__init__" Gq f fd ds):F0 6 f fd ["self","name","calendar","month","day","step","rest"] (wV K BR CL JX Bf BV Am):=by
 refine F.ok (k:=5) Lp (fun h=>?_) fun nd H vs Q E hr h=>?_
 ·obtain⟨x,y,z,g,m,d,rfl,_⟩:=h;cases m<;>cases d<;>rfl
 obtain⟨x,y,z,g,m,d,rfl,tz,S,sm,m0,hm,d0,hd,⟨dx,hx⟩,q⟩:=h;refine⟨_,(Ab (Aj 7 (Af vR (Aa (pv 2) (Aa (pv 3) (Aa (pv 4) (Aa (pv 5) (Aa (pv 6) Ac)))))))
  (Ad (Bc (DY Bg (Aa (pv 0) (Aa (pv 7) (Aa (BK Ac) (Aa (BK (Aa (Af Xp (Aa (pv 1) (Aa (pv 3) (Aa (pv 4) (Aa (pv 5) (Aa (pv 6) Ac)))))) Ac)) Ac)))))))),?_⟩
 symm;exists⟨y,g,m,d,rfl,S,sm,m0,d0,fun p c H1 s1 t1 B=>?_⟩;refine⟨(by show 0<=sizeLine;decide),fun pm hpm=>?_⟩;exists fresh hpm fun H2 s2 t2=>?_;exists⟨z,m,d,rfl,tz,hm,hd,fun zt Hy sy=>?_⟩;refine⟨(by show 1<=sizeLine;decide),fun pw hpw=>?_⟩;refine fresh hpw fun H3 s3 t3=>?_;have s3:=sy.trans s3;have s3:=s2.trans s3;have hx3:=(s1.trans s3) _ _ hx;symm;exact⟨x,p,pm,pw,JX,dx,rfl,hx3,PQ,fun H' k e=>q _ H' (k.pre (s1.trans s3)) (Fo (zh (i:=3) rfl) PQ hx3 (s3 _ _ t1) k e (by have:=sm.d0;lia) (by have:=sm.d1;lia) B.lt) B⟩
theorem O1:CI0 6 "Dated" JX ["self","name","calendar","month","day","step","rest"] (wV K BR CL JX Bf BV Am):=TF (st:=Gq) (ds:= #[.none,.none,(.int 1 Jk),(.int 0 Jj)]) gX gG (by walk_at"k") (by walk_at"k") (by walk_at"k") (by walk_at"dm") (fun _ _ _ _ _ _ _ us hl=>by obtain⟨_,_,_,_,_,_,_,rfl⟩:=ACR hl;exact⟨_,rfl,rfl⟩) Mi
theorem Tn:CI0 3 "Not" V1 ["self","R"] (ABe K BR CL V1):=by
 refine ci' ["self","R"] Ra fun nd H vs Q E hr h=>?_;obtain⟨x,r,n,b,rfl,R,⟨dx,hx⟩,q⟩:=h;exists⟨_,(Ad (Bc (DY Bg (Aa (pv 0) (Aa (Af JS (Aa (Bv Br (pv 1)) Ac)) (Aa (BK (Aa (pv 1) Ac)) (Aa (BK (Aa Ah (Aa Ah Ac))) Ac))))))),?_⟩;obtain⟨C,dr,fs,m,hr,l1,_⟩:=R.mt;exists⟨r,C,dr,fs,_,m _,rfl,hr,l1,?_⟩;exists⟨jf7,r,n,b,rfl,R,fun p hp=>?_⟩;refine⟨p,n,b,rfl,SqT.of hp,R.n0,R.n1,R.lt,fun p2 c hp2 hc hbit=>?_⟩;exists fresh hp2 fun H1 s1 t1=>?_;refine⟨(by show 1<=sizeLine;decide),fun pm hpm=>?_⟩;exists fresh hpm fun H2 s2 t2=>?_;refine⟨HQ,fun pw hpw=>?_⟩;refine fresh hpw fun H3 s3 t3=>?_;have s3:=s2.trans s3;have hx3:=(s1.trans s3) _ _ hx;symm;exact⟨x,p2,pm,pw,V1,dx,rfl,hx3,Vn,fun H' k e=>q _ H' (k.pre (s1.trans s3)) (Fo (zh (i:=4) rfl) Vn hx3 (s3 _ _ t1) k e R.n0 R.n1 hc) ⟨hc,hbit⟩⟩
theorem Qp:CI0 6 "Both" Tv ["self","R","S"] (Lk K BR CL Tv (Bo and)):=by
 refine ci' ["self","R","S"] QX fun nd H vs Q E hr h=>?_;obtain⟨x,r,t,n1,n2,b1,b2,rfl,R1,R2,lz,⟨dx,hx⟩,q⟩:=h;refine⟨_,(Ad (Bc (DY Bg (Aa (pv 0) (Aa (Af KC (Aa (Bv Br (pv 1)) (Aa (Bv Br (pv 2)) Ac))) (Aa (BK (Aa (pv 1) (Aa (pv 2) Ac))) (Aa (BK (Aa Ah (Aa Ah (Aa Ah Ac)))) Ac))))))),?_⟩;have rc:=bw;revert R1 R2 lz hx q rc;walk_at"i2"
theorem M7:CI0 6 "Either" KJ ["self","R","S"] (Lk K BR CL KJ (Bo or)):=by
 refine ci' ["self","R","S"] Lx fun nd H vs Q E hr h=>?_;obtain⟨x,r,t,n1,n2,b1,b2,rfl,R1,R2,lz,⟨dx,hx⟩,q⟩:=h;refine⟨_,(Ad (Bc (DY Bg (Aa (pv 0) (Aa (Af TY (Aa (Bv Br (pv 1)) (Aa (Bv Br (pv 2)) Ac))) (Aa (BK (Aa (pv 1) (Aa (pv 2) Ac))) (Aa (BK (Aa Ah (Aa Ah (Aa Ah Ac)))) Ac))))))),?_⟩;have rc:=Xi;revert R1 R2 lz hx q rc;walk_at"i2"
theorem Tu:CI0 7 "But" Zt ["self","R","S"] (Lk K BR CL Zt (Bo bn)):=by
 refine ci' ["self","R","S"] Rh fun nd H vs Q E hr h=>?_;obtain⟨x,r,t,n1,n2,b1,b2,rfl,R1,R2,lz,⟨dx,hx⟩,q⟩:=h;refine⟨_,(Ad (Bc (DY Bg (Aa (pv 0) (Aa (Af Oq (Aa (Bv Br (pv 1)) (Aa (Bv Br (pv 2)) Ac))) (Aa (BK (Aa (pv 1) (Aa (pv 2) Ac))) (Aa (BK (Aa Ah (Aa Ah (Aa Ah Ac)))) Ac))))))),?_⟩;have rc:=jQ;revert R1 R2 lz hx q rc;walk_at"i2"
theorem My:CI0 6 "Unlike" KH ["self","R","S"] (Lk K BR CL KH (Bo xor)):=by
 refine ci' ["self","R","S"] Lr fun nd H vs Q E hr h=>?_;obtain⟨x,r,t,n1,n2,b1,b2,rfl,R1,R2,lz,⟨dx,hx⟩,q⟩:=h;refine⟨_,(Ad (Bc (DY Bg (Aa (pv 0) (Aa (Af Za (Aa (Bv Br (pv 1)) (Aa (Bv Br (pv 2)) Ac))) (Aa (BK (Aa (pv 1) (Aa (pv 2) Ac))) (Aa (BK (Aa Ah (Aa Ah (Aa Ah Ac)))) Ac))))))),?_⟩;have rc:=Xh;revert R1 R2 lz hx q rc;walk_at"i2"
theorem Qj:CI0 8 "Upon" Th ["self","R","S"] (Lk K BR CL Th (WR (UpJ 1))):=by
 refine ci' ["self","R","S"] QQ fun nd H vs Q E hr h=>?_;obtain⟨x,r,t,n1,n2,b1,b2,rfl,R1,R2,lz,⟨dx,hx⟩,q⟩:=h;refine⟨_,(Ad (Bc (DY Bg (Aa (pv 0) (Aa (Af cD (Aa (Bv Br (pv 1)) (Aa (Bv Br (pv 2)) Ac))) (Aa (BK (Aa (pv 1) (Aa (pv 2) Ac))) (Aa (BK (Aa Ah (Aa Ah (Aa Ah Ac)))) Ac))))))),?_⟩;have rc:=bc;revert R1 R2 lz hx q rc;walk_at"i2"
theorem Ou:CI0 8 "Until" Mx ["self","R","S"] (Lk K BR CL Mx (WR (UpJ (-1)))):=by
 refine ci' ["self","R","S"] Nq fun nd H vs Q E hr h=>?_;obtain⟨x,r,t,n1,n2,b1,b2,rfl,R1,R2,lz,⟨dx,hx⟩,q⟩:=h;refine⟨_,(Ad (Bc (DY Bg (Aa (pv 0) (Aa (Af Xm (Aa (Bv Br (pv 1)) (Aa (Bv Br (pv 2)) Ac))) (Aa (BK (Aa (pv 1) (Aa (pv 2) Ac))) (Aa (BK (Aa Ah (Aa Ah (Aa Ah Ac)))) Ac))))))),?_⟩;have rc:=ZK;revert R1 R2 lz hx q rc;walk_at"i2"
theorem Ql:CI0 10 "Near" Tp ["self","R","S"] (Lk K BR CL Tp (WR NrU)):=by
 refine ci' ["self","R","S"] QS fun nd H vs Q E hr h=>?_;obtain⟨x,r,t,n1,n2,b1,b2,rfl,R1,R2,lz,⟨dx,hx⟩,q⟩:=h;refine⟨_,(Ad (Bc (DY Bg (Aa (pv 0) (Aa (Af AAb (Aa (Bv Br (pv 1)) (Aa (Bv Br (pv 2)) Ac))) (Aa (BK (Aa (pv 1) (Aa (pv 2) Ac))) (Aa (BK (Aa Ah (Aa Ah (Aa Ah Ac)))) Ac))))))),?_⟩;have rc:=bj;revert R1 R2 lz hx q rc;walk_at"i2"
theorem Qk:CI0 8 "Till" Ti ["self","R","S"] (Lk K BR CL Ti (WR TiU)):=by
 refine ci' ["self","R","S"] QR fun nd H vs Q E hr h=>?_;obtain⟨x,r,t,n1,n2,b1,b2,rfl,R1,R2,lz,⟨dx,hx⟩,q⟩:=h;refine⟨_,(Ad (Bc (DY Bg (Aa (pv 0) (Aa (Af pX (Aa (Bv Br (pv 1)) (Aa (Bv Br (pv 2)) Ac))) (Aa (BK (Aa (pv 1) (Aa (pv 2) Ac))) (Aa (BK (Aa Ah (Aa Ah (Aa Ah Ac)))) Ac))))))),?_⟩;have rc:=bh;revert R1 R2 lz hx q rc;walk_at"i2"
theorem Ow:CI0 3 "Later" Kh ["self","number","R"] (ABb K BR CL Kh):=by
 refine ci' ["self","number","R"] Ny fun nd H vs Q E hr h=>?_;obtain⟨x,r,num,n,b,rfl,lg,R,⟨dx,hx⟩,q⟩:=h;exists⟨_,(Ad (Bc (DY Bg (Aa (pv 0) (Aa (Af Hz (Aa (Bv Br (pv 2)) (Aa (pv 1) Ac))) (Aa (BK (Aa (pv 2) Ac)) (Aa (BK (Aa (MK (Em Ah (Em (Ob hr.toN (pv 1)) (Em Ah Ro)))) (Aa Ah Ac))) Ac))))))),?_⟩;obtain⟨C,dr,fs,m,hr,l1,_⟩:=R.mt;exists⟨r,C,dr,fs,_,m _,rfl,hr,l1,?_⟩;exists⟨jf7,r,n,b,rfl,R,fun p hp=>?_⟩;refine⟨p,n,num,b,rfl,SqT.of hp,R.n0,R.n1,R.lt,fun p2 hp2=>?_⟩;exists fresh hp2 fun H1 s1 t1=>?_;refine⟨(by show 1<=sizeLine;decide),fun pm hpm=>?_⟩;exists fresh hpm fun H2 s2 t2=>?_;refine Kq 0 (by decide) (by decide) fun l1=>VH _ l1 (by decide) rfl lg fun l2=>Kq _ l2 (by decide) fun l3=>Lz (fits l3 (by decide)) ?_;generalize (Str.empty++Str.ofString "("++Cy num++Str.ofString " later ")=zt at*
 symm;refine⟨HQ,fun pw hpw=>?_⟩;refine fresh hpw fun H3 s3 t3=>?_;have s3:=s2.trans s3;have hx3:=(s1.trans s3) _ _ hx;symm;exact⟨x,p2,pm,pw,Kh,dx,rfl,hx3,PN,fun H' k e=>q _ H' (k.pre (s1.trans s3)) (Fo (zh (i:=9) rfl) PN hx3 (s3 _ _ t1) k e R.n0 R.n1 (J0 _ _ _)) rfl⟩
theorem Tr:CI0 9 "Kth" V2 ["self","number","R","S"] (ABc K BR CL V2):=by
 refine ci' ["self","number","R","S","kept"] Rg fun nd H vs Q E hr h=>?_;obtain⟨x,r,t,num,n1,n2,b1,b2,rfl,k0,lg,R1,R2,lz,⟨dx,hx⟩,q⟩:=h;have fl:=Bp R1.n0 R2.n0;refine⟨_,(Ab (Aj 4 (Af ACg (Aa (pv 1) (Aa (Bv Br (pv 2)) (Aa (Bv Br (pv 3)) Ac)))))
  (Ad (Bc (DY Bg (Aa (pv 0) (Aa (pv 4) (Aa (BK (Aa (pv 2) (Aa (pv 3) Ac))) (Aa (BK (Aa (MK (Em Ah (Em (Ob hr.toN (pv 1)) (Em Ah Ro)))) (Aa Ah (Aa Ah Ac)))) Ac)))))))),?_⟩
 symm;obtain⟨C,dr,fs,m,hr,l1,_⟩:=R1.mt;exists⟨r,C,dr,fs,_,m _,rfl,hr,l1,?_⟩;exists⟨jf7,r,n1,b1,rfl,R1,fun p hp=>?_⟩;obtain⟨C',dr',fs',m',hr',l1',_⟩:=R2.mt;exists⟨t,C',dr',fs',_,m' _,rfl,hr',l1',?_⟩;exists⟨jf7,t,n2,b2,rfl,R2,fun p' hp'=>?_⟩;exists⟨num,p,p',n1,n2,b1,b2,rfl,⟨SqT.of hp,SqT.of hp',R1.n0,R2.n0,R1.n1,R2.n1,R1.lt,R2.lt⟩,k0,lz,fun p2 c H1 s1 t1 lt Rr=>?_⟩;refine⟨HQ,fun pm hpm=>?_⟩;exists fresh hpm fun H2 s2 t2=>?_;refine Kq 0 (by decide) (by decide) fun l1=>VH _ l1 (by decide) rfl lg fun l2=>Kq _ l2 (by decide) fun l3=>Lz (fits l3 (by decide)) ?_;generalize (Str.empty++Str.ofString "("++Cy num++Str.ofString " of ")=zt at*
 symm;refine⟨(by show 3<=sizeLine;decide),fun pw hpw=>?_⟩;refine fresh hpw fun H3 s3 t3=>?_;have s3:=s2.trans s3;have hx3:=(s1.trans s3) _ _ hx;symm;exact⟨x,p2,pm,pw,V2,dx,rfl,hx3,Vo,fun H' k e=>q _ H' (k.pre (s1.trans s3)) (Fo (zh (i:=14) rfl) Vo hx3 (s3 _ _ t1) k e fl.1 lz lt) Rr⟩
theorem Ox:CI0 7 "Every" Kl ["self","number","R","day"] (ABa K BR CL Kl):=by
 refine ci' ["self","number","R","day","kept"] Nz fun nd H vs Q E hr h=>?_;obtain⟨x,r,num,d0,n,b,rfl,k0,k1,nk,bd,R,⟨dx,hx⟩,q⟩:=h;have z0:0<n*num:=jq1 R.n0 (by lia);have lg:num.natAbs.log2<1920:=zY (by lia) (by lia);have lh:d0.natAbs.log2<1920:=qG bd (by decide) (by decide);refine⟨_,(Ab (Aj 4 (Af vQ (Aa (pv 1) (Aa (Bv Br (pv 2)) (Aa (pv 3) Ac)))))
  (Ad (Bc (DY Bg (Aa (pv 0) (Aa (pv 4) (Aa (BK (Aa (pv 2) Ac)) (Aa (BK (Aa (MK (Em Ah (Em (Ob hr.toN (pv 1)) (Em Ah Ro)))) (Aa (MK (Em Ah (Em (Ob hr.toN (pv 3)) (Em Ah Ro)))) Ac))) Ac)))))))),?_⟩
 symm;obtain⟨C,dr,fs,m,hr,l1,_⟩:=R.mt;exists⟨r,C,dr,fs,_,m _,rfl,hr,l1,?_⟩;exists⟨jf7,r,n,b,rfl,R,fun p hp=>?_⟩;exists⟨num,d0,p,n,b,rfl,SqT.of hp,R.n0,R.n1,R.lt,bd.mono (by decide),CN (by lia) (by lia) (by decide),k0,nk,fun p2 c H1 s1 t1 lt B=>?_⟩;refine⟨(by show 1<=sizeLine;decide),fun pm hpm=>?_⟩;exists fresh hpm fun H2 s2 t2=>?_;refine Kq 0 (by decide) (by decide) fun l1=>VH _ l1 (by decide) rfl lg fun l2=>Kq _ l2 (by decide) fun l3=>Lz (fits l3 (by decide)) ?_;generalize (Str.empty++Str.ofString "(every "++Cy num++Str.ofString " of ")=zt at*
 symm;refine Kq 0 (by decide) (by decide) fun l1=>VH _ l1 (by decide) rfl lh fun l2=>Kq _ l2 (by decide) fun l3=>Lz (fits l3 (by decide)) ?_;generalize (Str.empty++Str.ofString " from "++Cy d0++Str.ofString ")")=zu at*
 symm;refine⟨HQ,fun pw hpw=>?_⟩;refine fresh hpw fun H3 s3 t3=>?_;have s3:=s2.trans s3;have hx3:=(s1.trans s3) _ _ hx;symm;exact⟨x,p2,pm,pw,Kl,dx,rfl,hx3,PP,fun H' k e=>q _ H' (k.pre (s1.trans s3)) (Fo (zh (i:=15) rfl) PP hx3 (s3 _ _ t1) k e z0 nk lt) B⟩
theorem M3:CI0 1 "Reader" BZ ["self","words"] (sS BZ):=by
 refine ci' ["self","words"] Ls fun nd H vs Q E hr h=>?_;obtain⟨x,dx,l,ws,rfl,hx,hl,wl,wo,q⟩:=h;have lx:l≠x:=HJ hl hx (by intro z;cases z);refine⟨_,(Ab (Ex (pv 0) (BW Ig rfl WM jl7 (Aa (pv 1) Ac)) (by rfl))
  (Ad (Ex (pv 0) Ae (by rfl)))),?_⟩
 symm;refine⟨l,_,rfl,.inl ⟨SqL.of hl,fun p hp=>?_⟩⟩;have px:x≠p:=Bm hx hp;exists fresh hp fun H1 s1 t1=>?_;refine⟨x,BZ,dx,[],rfl,s1 _ _ hx,Bd,GX,by decide,?_⟩;exists zG fun H2 k2 x2=>?_;refine⟨x,BZ,dx,_,rfl,x2,Bd,Dj,(by show 1<1000;decide),?_⟩;exists zG fun H3 k3 x3=>?_;exact q H3 (fun y o hy e=>k3 y o hy (k2 y o hy (s1 _ _ e))) ⟨p,ws,0,⟨⟨dx,x3⟩,k3 _ _ (Ne.symm px) (k2 _ _ (Ne.symm px) t1),wl,wo⟩,rfl⟩
theorem Fz:CM0 1 BZ "peek" ["self"] (yJ BZ):=by
 refine cm' ["self"] Us fun nd H vs Q E hr h=>?_;obtain⟨x,_,rfl,⟨p,ws,k,R,rfl⟩,q⟩:=h;obtain⟨dx,hx⟩:=R.ex;exists⟨_,(Ad (Al (Dh (Ak Eu (Bl (pv 0) (by rfl)) (BL Bj rfl Do xi (Aa (Bl (pv 0) (by rfl)) Ac)) (An _)) (Dp LQ (Bl (pv 0) (by rfl)) (Bl (pv 0) (by rfl)) (fun _ _=>rfl)) Ah))),?_⟩;exists⟨x,BZ,dx,_,_,rfl,hx,Bd,Dj,rfl,?_⟩;exists⟨x,BZ,dx,_,_,rfl,hx,Bd,GX,rfl,?_⟩;refine⟨p,_,rfl,.inr (SqT.of R.tp),?_⟩;rw[js];symm;refine CK (fun c=>?_) (fun c=>?_)
 ·symm;exists⟨x,BZ,dx,_,_,rfl,hx,Bd,GX,rfl,?_⟩;exists⟨x,BZ,dx,_,_,rfl,hx,Bd,Dj,rfl,?_⟩;have kl:k<ws.length:=by lia
  rw[ja6 kl] at q;exact Av (SqT.of R.tp) (Dm (by rw[xo,qm kl];rfl)) q
 ·rw[uj (by lia)] at q;symm;exact q
theorem Ci:CM0 2 BZ "take" ["self"] (yF BZ):=by
 refine cm' ["self","word"] Ur fun nd H vs Q E hr h=>?_;obtain⟨x,r,rfl,R,q⟩:=h;obtain⟨p,ws,k,S,e⟩:=id R;obtain⟨dx,hx⟩:=S.ex;refine⟨_,(Ab (Aj 1 (Cm Fz Bd (pv 0)))
  (Ab (Ex (pv 0) (Ag Be (Bl (pv 0) (by rfl)) Ae) (by rfl))
  (Ad (Al (pv 1))))),?_⟩
 symm;exists⟨x,dx,_,rfl,hx,rfl,?_⟩;exists⟨x,r,rfl,R,?_⟩;exists⟨x,BZ,dx,_,_,rfl,hx,Bd,Dj,rfl,?_⟩;refine⟨x,BZ,dx,_,rfl,hx,Bd,Dj,(by show 2<1000;decide),?_⟩;exists zG fun H2 k2 x2=>?_;exact q H2 k2 ⟨p,ws,k+1,⟨⟨dx,x2⟩,k2 _ _ (HJ S.tp hx (by intro z;cases z)) S.tp,S.ln,S.ok⟩,by rw[<-e,List.tail_drop]⟩
theorem Vy:C0 1 "is_name" ["text"] yS:=by
 refine co' ["text"] iI fun nd H vs Q E hr h=>?_;obtain⟨z,rfl,hz,q⟩:=h;refine⟨_,(Ad (Al (JK (MN Mh Mh Ae (BL EY rfl Do xi (Aa (pv 0) Ac)) (By rfl R8 (Cq _ _))) (IW (BL (S9 rfl) rfl j4 jn7 (Aa (FT rfl (GZ ["text"] rfl (by ac_rfl) rfl (by ac_rfl) rfl (by ac_rfl) (by ac_rfl)) (m8 (pv 0)) (fun _ _ _ _=>Ep) (fun _ _ _ _=>(DP VV (pv 0) (By rfl iz (dX _ _)) (by rfl)))) Ac)))))),?_⟩;have zl:(cpl z).length=z.length:=Eo _;symm;exists⟨z,rfl,hz.fit,?_⟩;have no:¬Ht (cpl z)->∀H',Az H H'->Q (.bl false) H':=fun n H' s'=>q false H' s' ⟨fun z=>(nomatch z),fun z=>absurd z n⟩;by_cases c1:1<=((z.length:Nat):Int)
 rotate_left
 ·refine CJ c1 ?_;refine⟨_,rfl,Dz ?_⟩;exact no (fun N=>by have:=N.lo;lia) _ (Az.refl _)
 exists Hn c1 ?_;by_cases c2:((z.length:Nat):Int)<=8
 rotate_left
 ·rw[decide_eq_false c2];refine Dz ?_;exact no (fun N=>by have:=N.hi;lia) _ (Az.refl _)
 rw[decide_eq_true c2];exists Ek ?_;exists GD (mW ?_);refine⟨_,rfl,hz.asc,?_⟩;refine Hx Zz ?_ (fun _ _ _=>trivial) (fun _=>true) (fun v=>match v with | .str y=>.bl (decide (97<=(cpl y).headD 0/\(cpl y).headD 0<=122)) | _=>.non) (fun x hx D ys Q' hD h=>h) (fun x hx _ D ys Q' hD h=>?_) (fun D hD=>?_)
 ·rw[js];exact Dq (by have:z.cps.toList.length=z.length:=zl;lia)
 ·obtain⟨c,hc,rfl⟩:=ya.mp hx;symm;refine⟨_,_,rfl,rfl,?_⟩;rw[AAG];exact h
 have e:((z.cps.toList.map VG).filter fun _=>true).map (fun v=>match v with | .str y=>V.bl (decide (97<=(cpl y).headD 0/\(cpl y).headD 0<=122)) | _=>.non)=((cpl z).map fun c=>decide (97<=c/\c<=122)).map V.bl:=by
  rw[jc6.mpr (fun _ _=>rfl),ua,ua];rfl
 rw[e];exists fresh hD fun H1 s1 t1=>?_;refine⟨D,_,rfl,SqL.of t1,?_⟩;refine q _ _ s1 ?_;rw[List.all_map,ja9];exact⟨fun h=>⟨by lia,by lia,fun c hc=>by simpa using h c hc⟩,fun N c hc=>by simpa using N.ch c hc⟩
theorem Ky:C0 1 "is_readable" ["text"] Wa:=by
 refine co' ["text"] Uo fun nd H vs Q E hr h=>?_;obtain⟨z,rfl,hz,zl,q⟩:=h;exists⟨_,(Ad (Al (JK (BL S8 rfl Iz ji2 (Aa (pv 0) (Aa (W8 rfl Df qr (aX _)) Ac))) (IW (DP Mh (BL EY rfl Do xi (Aa (pv 0) Ac)) (By rfl XS (Cq _ _)) (An _)))))),?_⟩;exists aZ (.txt z hz) ?_;exists Ek ?_;exists⟨z,rfl,hz.fit,?_⟩;have:decide ((z.length:Int)<=4000)=true:=by
  rw[decide_eq_true_eq];lia
 rw[this];exact q
theorem J8:C0 1 "is_number" ["text"] sO:=by
 refine co' ["text","figures"] Yo fun nd H vs Q E hr h=>?_;obtain⟨z,rfl,hz,q⟩:=h;refine⟨_,(Ab (Aj 1 (Dh (GR (Gn vt PySem.F.slot_str_startswith PySem.F.type_str_startswith Uw (pv 0) (Aa Ah Ac))) (Ck Wh (pv 0) (Cr Ae) El) (pv 0)))
  (Ab (Ay (PW.pt (Hi (Ak Eu (BL EY rfl Do xi (Aa (pv 1) Ac)) Ae (An _)) (GQ (Ak FW (BL EY rfl Do xi (Aa (pv 1) Ac)) (By rfl R9 (Cq _ _)) (An _)))))
   (Ad (Al VP))
   Aq)
  (Ab (Ay (Ak Bk (Dp oV (pv 1) Ae) Ah (An _))
   (Ad (Al (DP Bk (pv 0) Ah (An _))))
   Aq)
  (Ad (Al (BL (S9 rfl) rfl j4 jn7 (Aa (FT rfl (GZ ["text","figures"] rfl (by ac_rfl) rfl (by ac_rfl) rfl (by ac_rfl) (by ac_rfl)) (m8 (pv 1)) (fun _ _ _ _=>Ep) (fun _ _ _ _=>(DP VV (pv 0) (By rfl jA (dX _ _)) (by rfl)))) Ac))))))),?_⟩
 symm;exists⟨rfl,?_⟩;refine⟨z,_,rfl,rfl,?_⟩;rw[WW (.inr trivial)];symm;refine CK (fun hm=>?_) (fun hm=>?_)
 ·symm;have l1:1<=z.length:=by
   rw[<-Eo];cases h:cpl z with
   | nil=>rw[h] at hm;cases hm
   | cons a r=>simp
  refine⟨z,rfl,hz.fit,?_⟩;have hy:TOk (Txt.slice z (some 1) none):=hz.slice _ _;have ey:cpl (Txt.slice z (some 1) none)=G9 (cpl z):=by
   rw[O6 l1];unfold G9;rw[xh hm]
  generalize Txt.slice z (some 1) none=y at hy ey ⊢;symm;have fy:=hy.fit;have yl:(cpl y).length=y.length:=Eo _;exists⟨_,rfl,fy,?_⟩;refine CK (fun l1=>Ek ?_) (fun l1=>?_)
  ·symm;refine q _ _ (Az.refl _) ⟨(fun e=>nomatch e),fun N=>?_⟩;have:=N.lo;rw[<-ey] at this;lia
  symm;exists⟨_,rfl,fy,?_⟩;refine CK (fun l2=>?_) (fun l2=>?_)
  ·symm;refine q _ _ (Az.refl _) ⟨(fun e=>nomatch e),fun N=>?_⟩;have:=N.hi;rw[<-ey] at this;lia
  symm;obtain⟨c0,r0,ec⟩:∃c r,cpl y=c::r:=by
   cases h:cpl y with
   | nil=>rw[h] at yl;simp at yl;lia
   | cons c r=>exact⟨c,r,rfl⟩
  refine⟨_,0,c0,rfl,rfl,fy,by rw[show y.cps.toList=c0::r0 from ec];exact Dm (j:=0) rfl,?_⟩;symm;refine CK (fun e0=>?_) (fun e0=>?_)
  ·symm;have c48:c0=48:=by
    have e1:(⟨#[c0]⟩:Str)=Str.ofString "0":=V.str.inj e0;have e2:cpl (⟨#[c0]⟩:Str)=cpl (Str.ofString "0"):=yk cpl e1;have e3:cpl (Str.ofString "0")=[48]:=by ac_rfl
    rw[e3] at e2;injection e2
   refine q _ _ (Az.refl _) ?_;rw[decide_eq_true_eq];have e3:cpl (Str.ofString "0")=[48]:=by ac_rfl
   constructor
   ·intro e;have ez:cpl z=[48]:=by rw[V.str.inj e,e3]
    refine⟨?_,?_,?_,?_⟩<;>rw[ez]<;>simp[G9]
   ·intro N;have:=N.z0 (by rw[<-ey,ec,c48];rfl);exact yk V.str (Hv (by rw[this,e3]))
  symm;exists GD (mW ?_);refine⟨_,rfl,hy.asc,?_⟩;refine Hx Zz ?_ (fun _ _ _=>trivial) (fun _=>true) (fun v=>match v with | .str y=>.bl (decide (48<=(cpl y).headD 0/\(cpl y).headD 0<=57)) | _=>.non) (fun x hx D ys Q' hD h=>h) (fun x hx _ D ys Q' hD h=>?_) (fun D hD=>?_)
  ·rw[js];exact Dq (by have:y.cps.toList.length=y.length:=yl;lia)
  ·obtain⟨c,hc,rfl⟩:=ya.mp hx;symm;refine⟨_,_,rfl,rfl,?_⟩;rw[oZ];exact h
  have e:((y.cps.toList.map VG).filter fun _=>true).map (fun v=>match v with | .str y=>V.bl (decide (48<=(cpl y).headD 0/\(cpl y).headD 0<=57)) | _=>.non)=((cpl y).map fun c=>decide (48<=c/\c<=57)).map V.bl:=by
   rw[jc6.mpr (fun _ _=>rfl),ua,ua];rfl
  rw[e];symm;refine⟨D,_,rfl,SqL.of Ai,?_⟩;refine q _ _ (Ar hD _) ?_;rw[List.all_map,ja9];constructor
  ·intro h;refine⟨by rw[<-ey];lia,by rw[<-ey];lia,fun c hc=>?_,fun h0=>?_⟩
   ·rw[<-ey] at hc;simpa using h c hc
   ·rw[<-ey,ec] at h0;injection h0 with h0;subst h0;exact absurd (by congr) e0
  ·intro N c hc;have:=N.dg c (by rw[<-ey];exact hc);simpa using this
 ·symm;have hy:=hz;have ey:cpl z=G9 (cpl z):=by
   unfold G9;rw[xk hm]
  have fy:=hy.fit;have yl:(cpl z).length=z.length:=Eo _;exists⟨_,rfl,fy,?_⟩;refine CK (fun l1=>Ek ?_) (fun l1=>?_)
  ·symm;refine q _ _ (Az.refl _) ⟨(fun e=>nomatch e),fun N=>?_⟩;have:=N.lo;rw[<-ey] at this;lia
  symm;exists⟨_,rfl,fy,?_⟩;refine CK (fun l2=>?_) (fun l2=>?_)
  ·symm;refine q _ _ (Az.refl _) ⟨(fun e=>nomatch e),fun N=>?_⟩;have:=N.hi;rw[<-ey] at this;lia
  symm;obtain⟨c0,r0,ec⟩:∃c r,cpl z=c::r:=by
   cases h:cpl z with
   | nil=>rw[h] at yl;simp at yl;lia
   | cons c r=>exact⟨c,r,rfl⟩
  refine⟨_,0,c0,rfl,rfl,fy,by rw[show z.cps.toList=c0::r0 from ec];exact Dm (j:=0) rfl,?_⟩;symm;refine CK (fun e0=>?_) (fun e0=>?_)
  ·symm;have c48:c0=48:=by
    have e1:(⟨#[c0]⟩:Str)=Str.ofString "0":=V.str.inj e0;have e2:cpl (⟨#[c0]⟩:Str)=cpl (Str.ofString "0"):=yk cpl e1;have e3:cpl (Str.ofString "0")=[48]:=by ac_rfl
    rw[e3] at e2;injection e2
   refine q _ _ (Az.refl _) ?_;rw[decide_eq_true_eq];have e3:cpl (Str.ofString "0")=[48]:=by ac_rfl
   constructor
   ·intro e;have ez:cpl z=[48]:=by rw[V.str.inj e,e3]
    refine⟨?_,?_,?_,?_⟩<;>rw[ez]<;>simp[G9]
   ·intro N;have:=N.z0 (by rw[<-ey,ec,c48];rfl);exact yk V.str (Hv (by rw[this,e3]))
  symm;exists GD (mW ?_);refine⟨_,rfl,hy.asc,?_⟩;refine Hx Zz ?_ (fun _ _ _=>trivial) (fun _=>true) (fun v=>match v with | .str y=>.bl (decide (48<=(cpl y).headD 0/\(cpl y).headD 0<=57)) | _=>.non) (fun x hx D ys Q' hD h=>h) (fun x hx _ D ys Q' hD h=>?_) (fun D hD=>?_)
  ·rw[js];exact Dq (by have:z.cps.toList.length=z.length:=yl;lia)
  ·obtain⟨c,hc,rfl⟩:=ya.mp hx;symm;refine⟨_,_,rfl,rfl,?_⟩;rw[oZ];exact h
  have e:((z.cps.toList.map VG).filter fun _=>true).map (fun v=>match v with | .str y=>V.bl (decide (48<=(cpl y).headD 0/\(cpl y).headD 0<=57)) | _=>.non)=((cpl z).map fun c=>decide (48<=c/\c<=57)).map V.bl:=by
   rw[jc6.mpr (fun _ _=>rfl),ua,ua];rfl
  rw[e];symm;refine⟨D,_,rfl,SqL.of Ai,?_⟩;refine q _ _ (Ar hD _) ?_;rw[List.all_map,ja9];constructor
  ·intro h;refine⟨by rw[<-ey];lia,by rw[<-ey];lia,fun c hc=>?_,fun h0=>?_⟩
   ·rw[<-ey] at hc;simpa using h c hc
   ·rw[<-ey,ec] at h0;injection h0 with h0;subst h0;exact absurd (by congr) e0
  ·intro N c hc;have:=N.dg c (by rw[<-ey];exact hc);simpa using this
theorem HB:C0 3 "take_word" ["reader","word"] (yC BZ):=by
 refine co' ["reader","word"] YZ fun nd H vs Q E hr h=>?_;obtain⟨x,z,r,rfl,R,q⟩:=h;obtain⟨dx,fs,hx,l1,_⟩:=R.ob;refine⟨_,(Ad (Ay (Ak Gp (Cm Ci Bd (pv 0)) (pv 1) (An _))
  (Ad BX)
  Aq)),?_⟩
 symm;exists⟨x,dx,_,rfl,hx,l1,?_⟩;exists⟨x,_,rfl,R,fun H1 k1 R1=>?_⟩;exists Hm (yk V.str (Jq z)) ?_;exact q H1 k1 R1
theorem FN:C0 3 "take_number" ["reader"] (yL BZ):=by
 refine co' ["reader","word"] Uh fun nd H vs Q E hr h=>?_;obtain⟨x,n,r,rfl,R,sn,q⟩:=h;obtain⟨dx,fs,hx,l1,_⟩:=R.ob;have N:=JL sn;refine⟨_,(Ab (Aj 1 (Cm Ci Bd (pv 0)))
  (Ab (Ay (Hj (GR (Af J8 (Aa (pv 1) Ac))))
   (Ad BX)
   Aq)
  (Ad (Al (BW G4 rfl cU ji8 (Aa (pv 1) Ac)))))),?_⟩
 symm;exists⟨x,dx,_,rfl,hx,l1,?_⟩;exists⟨x,_,rfl,R,fun H1 k1 R1=>?_⟩;refine⟨_,rfl,R.tk,fun v H2 s2 iv=>?_⟩;obtain rfl:=iv.mpr (show NZ (cpl (sW (nW n))) by rw[Bh];exact N.1);symm;exists Dz ?_;refine⟨_,_,rfl,?_,Om (show NZ (cpl (sW (nW n))) by rw[Bh];exact N.1),?_⟩
 ·show(sW (nW n)).length<=_;rw[DR];have:=Fl sn;lia
 ·show Q (.int (Jt (cpl (sW (nW n))))) H2;rw[Bh,N.2];exact q H2 (k1.tr (.sm s2)) (R1.same s2)
theorem Kv:C0 4 "take_wanted" ["reader"] (rM BZ):=by
 refine co' ["reader"] Ug fun nd H vs Q E hr h=>?_;obtain⟨x,m,r,rfl,R,sm,q⟩:=h;obtain⟨dx,fs,hx,l1,l2⟩:=R.ob;refine⟨_,(Ab (Ay (Ak Bk (Cm Fz Bd (pv 0)) Ah (An _))
  (Ab (Bc (Cm Ci Bd (pv 0)))
  (Ad (Al Ff)))
   Aq)
  (Ad (Al (Af FN (Aa (pv 0) Ac))))),?_⟩
 symm;exists⟨x,dx,_,rfl,hx,l2,?_⟩;exists⟨x,_,rfl,R,?_⟩;cases m with
 | none=>
  walk_at"ew";exists⟨x,dx,_,rfl,hx,l1,?_⟩;exists⟨x,_,rfl,R,fun H1 k1 R1=>?_⟩;exact q H1 k1 R1
 | some n=>
  exists CJ (R0 (sm n rfl) ⟨_,_,rfl,by decide⟩) ?_;exact⟨x,n,r,rfl,R,sm n rfl,q⟩
theorem Ph:C0 4 "take_each" ["reader"] (sU BZ):=by
 refine co' ["reader","size"] Yb fun nd H vs Q E hr h=>?_;obtain⟨x,n,m,r,rfl,R,sn,sm,q⟩:=h;refine⟨_,(Ab (Aj 1 (Af FN (Aa (pv 0) Ac)))
  (Ab (Bc (Af HB (Aa (pv 0) (Aa Ah Ac))))
  (Ad (Al (BK (Aa (pv 1) (Aa (Af FN (Aa (pv 0) Ac)) Ac))))))),?_⟩
 symm;exists⟨x,n,_,rfl,R,sn,fun H1 k1 R1=>?_⟩;exists⟨x,_,_,rfl,R1,fun H2 k2 R2=>?_⟩;exists⟨x,m,r,rfl,R2,sm,fun H3 k3 R3=>?_⟩;refine⟨HQ,fun a ha=>?_⟩;refine fresh ha fun H4 s4 t4=>?_;exact q a H4 (((k1.tr k2).tr k3).tr (.sm s4)) (R3.same s4) t4
theorem Ze:C0 5 "take_date" ["reader"] (sY BZ):=by
 refine co' ["reader","name","month","day","years"] Yc fun nd H vs Q E hr h=>?_;obtain⟨x,nm,m,d,y,r,rfl,R,⟨on,om,od,oy,_⟩,hh,q⟩:=h;obtain⟨dx,fs,hx,l1,_⟩:=R.ob;refine⟨_,(Ab (Aj 1 (Cm Ci Bd (pv 0)))
  (Ab (Ay (Hj (GR (Af Vy (Aa (pv 1) Ac))))
   (Ad BX)
   Aq)
  (Ab (Aj 2 (Af Kv (Aa (pv 0) Ac)))
  (Ab (Aj 3 (Af Kv (Aa (pv 0) Ac)))
  (Ab (Aj 4 (BK (Aa Ae (Aa Ae Ac))))
  (Ab (Fe (Ay (Ak Bk (Cm Fz Bd (pv 0)) Ah (An _))
   (Ab (Bc (Cm Ci Bd (pv 0)))
  (Ad (Aj 4 (Af Ph (Aa (pv 0) Ac)))))
   Aq))
  (Ad (Al (BK (Aa Ah (Aa (pv 1) (Aa (pv 2) (Aa (pv 3) (Aa (pxT 4) (Aa (pxT 4) Ac))))))))))))))),?_⟩
 symm;exists⟨x,dx,_,rfl,hx,l1,?_⟩;exists⟨x,_,rfl,R,fun H1 k1 R1=>?_⟩;refine⟨_,rfl,R.tk,fun v H2 s2 iv=>?_⟩;obtain rfl:=iv.mpr (show Ht (cpl (sW nm)) by rw[Bh];exact on);have k2:=k1.tr (.sm s2);symm;exists Dz ?_;exists⟨x,m,_,rfl,R1.same s2,om,fun H3 k3 R3=>?_⟩;exists⟨x,d,_,rfl,R3,od,fun H4 k4 R4=>?_⟩;refine⟨HQ,fun q0 hq0=>?_⟩;refine fresh hq0 fun H5 s5 t5=>?_;have k5:=((k2.tr k3).tr k4).tr (.sm s5);have R5:=R4.same s5;symm;refine FP (fun Z' H'=>∃a:Addr,An4 (KB x H H') (Rd BZ H' x r) (H' a=some (.tup [.int (yr y).1,.int (yr y).2])) (Z'=[some (.ref x),some (.str (sW nm)),some (oI m),some (oI d),some (.ref a)])) ?_ ?_
 ·symm;obtain⟨dx,fs,hx,l1,l2⟩:=R5.ob;exists⟨x,dx,_,rfl,hx,l2,?_⟩;exists⟨x,_,rfl,R5,?_⟩;cases y with
  | none=>
   exists CJ (fun z=>hh (wX.mp (z.trans (HH "each").symm))) ?_;exact⟨q0,k5,R5,t5,rfl⟩
  | some y=>
   walk_at"ew";exists⟨x,dx,_,rfl,hx,l1,?_⟩;exists⟨x,_,rfl,R5,fun H6 k6 R6=>?_⟩;exists⟨x,y.1,y.2,r,rfl,R6,(oy y rfl).1,(oy y rfl).2.1,fun a H7 k7 R7 t7=>?_⟩;exact⟨a,(k5.tr k6).tr k7,R7,t7,rfl⟩
 rintro Z' H6 ⟨a,k6,R6,t6,rfl⟩;symm;exists Av (SqT.of t6) at0 ?_;exists Av (SqT.of t6) at1 ?_;refine⟨(by show 6<=sizeLine;decide),fun b hb=>?_⟩;refine fresh hb fun H7 s7 t7=>?_;exact q _ H7 (k6.tr (.sm s7)) (R6.same s7) ⟨b,rfl,t7⟩
theorem cC:C0 1 "words_of" ["text"] rJ:=by
 refine co' ["text","told","depth","whole","opened","word","opening","closing"] aG fun nd H vs Q E hr h=>?_;obtain⟨z,rfl,hz,zl,hc,ho,q⟩:=h;refine⟨_,(Ab (Aj 1 (Ef Ac))
  (Ab (Aj 2 Ae)
  (Ab (JG PassesOwn.never rfl (Gj (Gn vt je1 je2 Mp (pv 0) (Aa Ah Ac))) (Cg (i:=3) nd rfl (by walk_at"o"))
   (Ab (Aj 4 (Gn vt PySem.F.slot_str_lstrip PySem.F.type_str_lstrip ir (pv 3) (Aa Ah Ac)))
  (Ab (Aj 5 (Gn vt PySem.F.slot_str_rstrip PySem.F.type_str_rstrip ie (pv 4) (Aa Ah Ac)))
  (Ab (Ay (Ak Bk (pv 5) Ah (An _))
   (Ad BX)
   Aq)
  (Ab (Aj 6 (Ag DW (BL EY rfl Do xi (Aa (pv 3) Ac)) (BL EY rfl Do xi (Aa (pv 4) Ac))))
  (Ab (Aj 7 (Ag DW (BL EY rfl Do xi (Aa (pv 4) Ac)) (BL EY rfl Do xi (Aa (pv 5) Ac))))
  (Ab (Aj 2 (Ag Be (pv 2) (pv 6)))
  (Ab (Ay (Ak FW (pv 2) (By rfl QZ (Cq _ _)) (An _))
   (Ad BX)
   Aq)
  (Ab (Aj 2 (Ag DW (pv 2) (pv 7)))
  (Ad (Bc (Gn kz jd0 jd1 Il (pv 1) (Aa (Ag bF (Ag bF (Ag bD (Ef (Aa Ah Ac)) (pv 6)) (Ef (Aa (pv 5) Ac))) (Ag bD (Ef (Aa Ah Ac)) (pv 7))) Ac)))))))))))))
  (Ad (Al (pv 1)))))),?_⟩
 symm;refine⟨ve _,fun l hl=>?_⟩;exists fresh hl fun H1 s1 t1=>?_;exists N8 (Jr ?_);exists Js ?_;exists⟨rfl,?_⟩;refine⟨z,32,rfl,by rw[show Str.ofString " "=⟨#[32]⟩ from by ac_rfl],by decide,hz.len,fun l2 hl2=>?_⟩;exists fresh hl2 fun H2 s2 t2=>?_;have ll:l2≠l:=fun z=>by rw[z,t1] at hl2;cases hl2
 have wt:=lK 32 (cpl z);generalize hps:spl 32 (cpl z)=ps at*
 unfold tks at q;have t2:H2 l2=some (.lst (ps.map fun w=>V.str (sW w))):=by rw[t2,aB,hps,ua];rfl
 have fl:=ZJ ps;have plen:∀(i:Nat) (w:Wd),ps[i]?=some w->w.length<=4000/\i<ps.length:=fun i w hw=>by
  have h1:(w.length+1)<=(ps.map fun w=>w.length+1).sum:=eQ (ya.mpr ⟨w,zh hw,rfl⟩);exact⟨by lia,(qv.mp hw).1⟩
 refine⟨l2,rfl,⟨_,SqL.of t2⟩,J4 (xs:=ps.map fun w=>V.str (sW w)) (fun i Z' H'=>An3 (Az H H') (H' l2=some (.lst (ps.map fun w=>V.str (sW w)))) (Ex6 fun(d:Int) (v3 v4 v5 v6 v7:Option V)=>An3 (H' l=some (.lst (((ps.take i).flatMap HR).map fun w=>V.str (sW w)))) (Dok d (ps.drop i)) (Z'=[some (.str z),some (.ref l),some (.int d),v3,v4,v5,v6,v7]))) ⟨s1.trans s2,t2,0,none,none,none,none,none,s2 _ _ t1,by rw[jj6];exact ho,rfl⟩ ?_ ?_ ?_⟩
 ·rintro i Z' H' _ ⟨_,t,_⟩;exact SqL.of t
 ·rintro i x Z' H' hx ⟨sH,tp,d,v3,v4,v5,v6,v7,tl,ew,rfl⟩;rw[xo] at hx;obtain⟨w,hw,rfl⟩:=kr.mp hx;obtain⟨wl,il⟩:=plen i w hw;have ol:=Od w;have cl:=Q0 w;have ed:ps.drop i=w::ps.drop (i+1):=by
   rw[ja6 il]
   congr 1
   rw[qm il] at hw;injection hw
  rw[ed] at ew;obtain⟨ew,ew2⟩:=ew;unfold opn at ew ew2;unfold cls at ew2;have cw:=hc w (zh hw);have fit:w.length<=sizeLine:=zv wl (by decide);symm;exists Js ?_;exists⟨rfl,?_⟩;refine⟨sW w,_,rfl,rfl,by rw[DR];exact fit,?_⟩;rw[show (if stripSame (Str.ofString "(").cps.contains true false (sW w) then sW w else stripped (Str.ofString "(").cps.contains true false (sW w))=sW (opd w) from ACQ w];symm;exists Js ?_;exists⟨rfl,?_⟩;refine⟨sW (opd w),_,rfl,rfl,by rw[DR];lia,?_⟩;rw[show (if stripSame (Str.ofString ")").cps.contains false true (sW (opd w)) then sW (opd w) else stripped (Str.ofString ")").cps.contains false true (sW (opd w)))=sW (core w) from ABn w];symm;rw[mH];exists CJ (fun z=>cw (wX.mp z)) ?_;refine⟨_,rfl,by rw[DR];exact fit,?_⟩;symm;refine⟨_,rfl,by rw[DR];lia,?_⟩;symm;refine⟨_,rfl,by rw[DR];lia,?_⟩;symm;refine⟨_,rfl,by rw[DR];lia,?_⟩;rw[DR,DR,DR];symm;exists CJ (by lia) ?_;exists OD rfl tl ?_;have sz:∀n:Nat,n<=100000->n<=sizeLine:=fun n h=>zv h (by decide);refine⟨(by show 1<=sizeLine;decide),fun m1 hm1=>?_⟩;refine fresh hm1 fun H3 s3 t3=>?_;rw[ADR] at t3;symm;refine aY t3 (by lia) (by lia) (sz _ (by simp;lia)) fun m2 hm2=>?_;refine fresh hm2 fun H4 s4 t4=>?_;rw[Rj] at t4;symm;refine⟨(by show 1<=sizeLine;decide),fun m3 hm3=>?_⟩;exists fresh hm3 fun H5 s5 t5=>?_;refine⟨m2,m3,_,_,rfl,rfl,s5 _ _ t4,t5,sz _ (by simp;lia),fun m4 hm4=>?_⟩;exists fresh hm4 fun H6 s6 t6=>?_;refine⟨(by show 1<=sizeLine;decide),fun m5 hm5=>?_⟩;refine fresh hm5 fun H7 s7 t7=>?_;rw[ADQ] at t7;symm;refine aY t7 (by lia) (by lia) (sz _ (by simp;lia)) fun m6 hm6=>?_;refine fresh hm6 fun H8 s8 t8=>?_;rw[Rj] at t8;symm;refine⟨m4,m6,_,_,rfl,rfl,(s7.trans s8) _ _ t6,t8,sz _ (by simp;lia),fun m7 hm7=>?_⟩;refine fresh hm7 fun H9 s9 t9=>?_;have sA:=s3.trans (s4.trans (s5.trans (s6.trans (s7.trans (s8.trans s9)))));rw[show ((w.length:Int)-((opd w).length:Int)).toNat=w.length-(opd w).length by lia,show(((opd w).length:Int)-((core w).length:Int)).toNat=(opd w).length-(core w).length by lia,<-zH] at t9;have tk:(ps.take (i+1)).flatMap HR=(ps.take i).flatMap HR++HR w:=by
   rw[Qr,hw,jb7,jh1,jd6,List.flatMap_nil,xz]
  have tle:=rE (ps:=ps) i;have ple:=Yv w;refine Ft ?_;refine⟨l,m7,_,_,rfl,rfl,sA _ _ tl,t9,?_,?_⟩
  ·rw[js,js];have b1:((ps.take i).flatMap HR).length<=4001:=zv tle (zv fl (by rw[wt];lia));exact sz _ (zv (Nat.add_le_add b1 ple) (by lia))
  ·rw[<-kx,<-tk];refine⟨fun r o ho=>?_,?_,_,_,_,_,_,_,Ai,?_,rfl⟩
   ·rw[Ax fun z=>by rw[z,hl] at ho;cases ho];exact sA _ _ (sH _ _ ho)
   ·rw[Ax ll];exact sA _ _ tp
   ·rwa [show d+((w.length:Int)-((opd w).length:Int))-(((opd w).length:Int)-((core w).length:Int))=d+((w.length-(opd w).length:Nat):Int)-(((opd w).length-(core w).length:Nat):Int) by lia]
 ·rintro Z' H' ⟨sH,_,d,v3,v4,v5,v6,v7,tl,ew,rfl⟩;rw[js,jc1] at tl;symm;exact q l H' sH tl
theorem Nk:Cu ["reader","number","word","plan"] ["reader"] (BP HD):=by walk_at"s"
theorem Oh{k d:Nat}(F:Fun K "take_numbered" "take_numbered" HD f fd)(Cp:C0 k "take_plan" ["reader"] ((Jl BZ) d))(hk:8<=k):F0 (k+1) f fd ["reader"] ((Wc BZ) d):=by
 refine F.ok (k:=k+0) Nk (fun h=>?_) fun nd H vs Q E hr h=>?_
 ·obtain⟨x,p,r,rfl,_⟩:=h;rfl
 obtain⟨x,p,r,rfl,R,okp,cp,dp,hh,q⟩:=h;refine⟨_,(Ab (Aj 1 (Af FN (Aa (pv 0) Ac)))
  (Ab (Aj 2 (Cm Ci Bd (pv 0)))
  (Ab (Ay (Ak Bk (pv 2) Ah (An _))
   (Ad (Al (BK (Aa (pv 2) (Aa (pv 1) (Aa (Af Cp (Aa (pv 0) Ac)) Ac))))))
   Aq)
  (Ab (Ay (Ak Gp (pv 2) Ah (An _))
   (Ad BX)
   Aq)
  (Ab (Aj 3 (Af Cp (Aa (pv 0) Ac)))
  (Ab (Bc (Af HB (Aa (pv 0) (Aa Ah Ac))))
  (Ad (Al (BK (Aa (pv 2) (Aa (pv 1) (Aa (pv 3) (Aa (Af Cp (Aa (pv 0) Ac)) Ac))))))))))))),?_⟩
 cases p with
 | la n p=>
  symm;exists⟨x,n,_,rfl,R,okp.1,fun H1 k1 R1=>?_⟩;obtain⟨dx,fs,hx,l1,_⟩:=R1.ob;exists⟨x,dx,_,rfl,hx,l1,?_⟩;exists⟨x,_,rfl,R1,fun H2 k2 R2=>?_⟩;walk_at"ew";exists⟨x,p,r,rfl,R2,okp.2,trivial,jc3 dp,hh,fun v H3 k3 R3 P3=>?_⟩;refine⟨(by show 3<=sizeLine;decide),fun a ha=>?_⟩;refine fresh ha fun H4 s4 t4=>?_;exact q _ H4 (((k1.tr k2).tr k3).tr (.sm s4)) (R3.same s4) ⟨a,v,rfl,by rw[t4];exact yk (fun z=>some (HO.tup [z,_,_])) (HH _),P3.same s4⟩
 | nt n p p'=>
  have dp:max p.deep p'.deep+1<d+1:=dp;symm;exists⟨x,n,_,rfl,R,okp.1,fun H1 k1 R1=>?_⟩;obtain⟨dx,fs,hx,l1,_⟩:=R1.ob;exists⟨x,dx,_,rfl,hx,l1,?_⟩;exists⟨x,_,rfl,R1,fun H2 k2 R2=>?_⟩;walk_at"nw";exists Hm (HH _) ?_;exists⟨x,p,_,rfl,R2,okp.2.1,trivial,by lia,hdn (by ac_rfl),fun v H3 k3 R3 P3=>?_⟩;exists⟨x,_,_,rfl,R3,fun H4 k4 R4=>?_⟩;exists⟨x,p',r,rfl,R4,okp.2.2.1,trivial,by lia,hh,fun u H5 k5 R5 P5=>?_⟩;refine⟨(by show 4<=sizeLine;decide),fun a ha=>?_⟩;refine fresh ha fun H6 s6 t6=>?_;exact q _ H6 (((((k1.tr k2).tr k3).tr k4).tr k5).tr (.sm s6)) (R5.same s6) ⟨a,v,u,rfl,by rw[t6];exact yk (fun z=>some (HO.tup [z,_,_,_])) (HH _),(PlH.kb R4 k5 (PlH.kb R3 k4 P3)).same s6,P5.same s6⟩
 | _=>exact cp.elim
theorem Ud:Cu ["reader","number","plan"] ["reader"] (BP JC):=by walk_at"s"
theorem Uv{k d:Nat}(F:Fun K "take_every" "take_every" JC f fd)(Cp:C0 k "take_plan" ["reader"] ((Jl BZ) d))(hk:8<=k):F0 (k+1) f fd ["reader"] ((RK BZ) d):=by
 refine F.ok (k:=k+0) Ud (fun h=>?_) fun nd H vs Q E hr h=>?_
 ·obtain⟨x,p,r,rfl,_⟩:=h;rfl
 obtain⟨x,p,r,rfl,R,okp,cp,dp,hh,q⟩:=h;refine⟨_,(Ab (Aj 1 (Af FN (Aa (pv 0) Ac)))
  (Ab (Bc (Af HB (Aa (pv 0) (Aa Ah Ac))))
  (Ab (Aj 2 (Af Cp (Aa (pv 0) Ac)))
  (Ab (Bc (Af HB (Aa (pv 0) (Aa Ah Ac))))
  (Ad (Al (BK (Aa Ah (Aa (pv 1) (Aa (pv 2) (Aa (Af FN (Aa (pv 0) Ac)) Ac))))))))))),?_⟩
 cases p with
 | ev n p e=>
  symm;exists⟨x,n,_,rfl,R,okp.1,fun H1 k1 R1=>?_⟩;exists⟨x,_,_,rfl,R1,fun H2 k2 R2=>?_⟩;exists⟨x,p,_,rfl,R2,okp.2.2.1,trivial,jc3 dp,hdn (by ac_rfl),fun v H3 k3 R3 P3=>?_⟩;exists⟨x,_,_,rfl,R3,fun H4 k4 R4=>?_⟩;exists⟨x,e,r,rfl,R4,okp.2.1,fun H5 k5 R5=>?_⟩;refine⟨(by show 4<=sizeLine;decide),fun a ha=>?_⟩;refine fresh ha fun H6 s6 t6=>?_;exact q _ H6 (((((k1.tr k2).tr k3).tr k4).tr k5).tr (.sm s6)) (R5.same s6) ⟨a,v,rfl,t6,(PlH.kb R4 k5 (PlH.kb R3 k4 P3)).same s6⟩
 | _=>exact cp.elim
theorem Wj:Cu ["reader","plan","word"] ["reader"] (BP Jo):=by walk_at"s"
theorem XH{k d:Nat}(F:Fun K "take_pair" "take_pair" Jo f fd)(Cp:C0 k "take_plan" ["reader"] ((Jl BZ) d))(hk:8<=k):F0 (k+1) f fd ["reader"] ((Wb BZ) d):=by
 refine F.ok (k:=k+0) Wj (fun h=>?_) fun nd H vs Q E hr h=>?_
 ·obtain⟨x,p,r,rfl,_⟩:=h;rfl
 obtain⟨x,p,r,rfl,R,okp,cp,dp,hh,q⟩:=h;refine⟨_,(Ab (Aj 1 (Af Cp (Aa (pv 0) Ac)))
  (Ab (Aj 2 (Cm Ci Bd (pv 0)))
  (Ab (Ay (Ak XC (pv 2) (By rfl XQ (G3 _)) (by rfl))
   (Ad BX)
   Aq)
  (Ad (Al (BK (Aa (pv 2) (Aa (pv 1) (Aa (Af Cp (Aa (pv 0) Ac)) Ac))))))))),?_⟩
 cases p with
 | pr w p p'=>
  have dp:max p.deep p'.deep+1<d+1:=dp;symm;refine⟨x,p,_,rfl,R,okp.1,trivial,by lia,hdn (by cases w<;>ac_rfl),fun v H1 k1 R1 P1=>?_⟩;symm;obtain⟨dx,fs,hx,l1,_⟩:=R1.ob;exists⟨x,dx,_,rfl,hx,l1,?_⟩;exists⟨x,_,rfl,R1,fun H2 k2 R2=>?_⟩;refine⟨Gz,_,rfl,.inr (Ww _),rfl,rfl,?_⟩;have e:V.str (sW ((sg w.s::(p'.tok++r)).headD []))=V.str (Str.ofString w.s):=HH _;rw[e,ABy w];symm;exists Dz ?_;exists⟨x,p',r,rfl,R2,okp.2,trivial,by lia,hh,fun u H3 k3 R3 P3=>?_⟩;refine⟨(by show 3<=sizeLine;decide),fun a ha=>?_⟩;refine fresh ha fun H4 s4 t4=>?_;exact q _ H4 (((k1.tr k2).tr k3).tr (.sm s4)) (R3.same s4) ⟨a,v,u,rfl,t4,(PlH.kb R2 k3 (PlH.kb R1 k2 P1)).same s4,P3.same s4⟩
 | _=>exact cp.elim
theorem RM:Cu ["reader","word"] ["reader"] (BP IK):=by walk_at"s"
theorem Rz{k d:Nat}(F:Fun K "take_within" "take_within" IK f fd)(Cp:C0 k "take_plan" ["reader"] ((Jl BZ) d))(ab:C0 (k+1) "take_every" ["reader"] ((RK BZ) d))(ac:C0 (k+1) "take_numbered" ["reader"] ((Wc BZ) d))(ad:C0 (k+1) "take_pair" ["reader"] ((Wb BZ) d))(hk:8<=k):F0 (k+2) f fd ["reader"] ((RG BZ) d):=by
 refine F.ok (k:=k+1) RM (fun h=>?_) fun nd H vs Q E hr h=>?_
 ·obtain⟨x,p,r,rfl,_⟩:=h;rfl
 obtain⟨x,p,r,rfl,R,okp,cp,dp,hh,q⟩:=h;obtain⟨dx,fs,hx,l1,l2⟩:=R.ob;refine⟨_,(Ab (Aj 1 (Cm Fz Bd (pv 0)))
  (Ab (Ay (Ak Bk (pv 1) Ah (An _))
   (Ab (Bc (Cm Ci Bd (pv 0)))
  (Ad (Al (BK (Aa (pv 1) (Aa (Af Cp (Aa (pv 0) Ac)) Ac))))))
   Aq)
  (Ab (Ay (Ak Bk (pv 1) Ah (An _))
   (Ab (Bc (Cm Ci Bd (pv 0)))
  (Ad (Al (Af ab (Aa (pv 0) Ac)))))
   Aq)
  (Ab (Ay (GR (Af J8 (Aa (pv 1) Ac)))
   (Ad (Al (Af ac (Aa (pv 0) Ac))))
   Aq)
  (Ad (Al (Af ad (Aa (pv 0) Ac)))))))),?_⟩
 symm;exists⟨x,dx,_,rfl,hx,l2,?_⟩;exists⟨x,_,rfl,R,?_⟩;have num:∀n:Int,Sm n->(inn p r).headD []=nW n->cLN p->TOk (sW ((inn p r).headD [])):=fun n sn e _=>by
  rw[e];exact⟨Fq.mpr fun c hc=>by rw[Bh] at hc;have:=Ib sn c hc;lia,by rw[DR];have:=Fl sn;lia⟩
 cases p with
 | no p=>
  walk_at"ew";exists⟨x,dx,_,rfl,hx,l1,?_⟩;exists⟨x,_,rfl,R,fun H1 k1 R1=>?_⟩;exists⟨x,p,r,rfl,R1,okp,trivial,jc3 dp,hh,fun v H2 k2 R2 P2=>?_⟩;refine⟨HQ,fun a ha=>?_⟩;refine fresh ha fun H4 s4 t4=>?_;exact q _ H4 ((k1.tr k2).tr (.sm s4)) (R2.same s4) ⟨a,v,rfl,by rw[t4];exact yk (fun z=>some (HO.tup [z,_])) (HH _),P2.same s4⟩
 | ev n p e=>
  walk_at"nw";walk_at"ew";exists⟨x,dx,_,rfl,hx,l1,?_⟩;exists⟨x,_,rfl,R,fun H1 k1 R1=>?_⟩;exact⟨x,.ev n p e,r,rfl,R1,okp,trivial,dp,hh,q.on k1⟩
 | la n p=>
  exists CJ (R0 okp.1 ⟨_,_,rfl,by decide⟩) ?_;exists CJ (R0 okp.1 ⟨_,_,rfl,by decide⟩) ?_;refine⟨_,rfl,R.tk,fun v H2 s2 iv=>?_⟩;obtain rfl:=iv.mpr (show NZ (cpl (sW (nW n))) by rw[Bh];exact(JL okp.1).1);symm;exists Ek ?_;exact⟨x,.la n p,r,rfl,R.same s2,okp,trivial,dp,hh,q.on (.sm s2)⟩
 | nt n p p'=>
  exists CJ (R0 okp.1 ⟨_,_,rfl,by decide⟩) ?_;exists CJ (R0 okp.1 ⟨_,_,rfl,by decide⟩) ?_;refine⟨_,rfl,R.tk,fun v H2 s2 iv=>?_⟩;obtain rfl:=iv.mpr (show NZ (cpl (sW (nW n))) by rw[Bh];exact(JL okp.1).1);symm;exists Ek ?_;exact⟨x,.nt n p p',r,rfl,R.same s2,okp,trivial,dp,hh,q.on (.sm s2)⟩
 | pr w p p'=>
  obtain⟨z,t,e,hz⟩:=p.hd;have e1:inn (.pr w p p') r=z::(t++sg w.s::(p'.tok++r)):=by
   show p.tok++_=_;rw[e];rfl
  have R':=R;rw[e1] at R' ⊢;obtain⟨n1,n2,n3⟩:V.str (sW z)≠V.str (Str.ofString "not")/\V.str (sW z)≠V.str (Str.ofString "every")/\∃c u,z=c::u/\¬(c=45\/48<=c/\c<=57):=by
   have g:∀{y:String} {c:Nat} {u:Wd},z=sg y->sg y=c::u->¬(c=45\/48<=c/\c<=57)->Str.ofString y≠Str.ofString "not"->Str.ofString y≠Str.ofString "every"->V.str (sW z)≠V.str (Str.ofString "not")/\V.str (sW z)≠V.str (Str.ofString "every")/\∃c u,z=c::u/\¬(c=45\/48<=c/\c<=57):=fun a b c d e=>by
    rw[a];exact⟨X5 d,X5 e,_,_,b,c⟩
   rcases qq.mp hz with h | hz
   ·exact g h rfl (by decide) (by ac_rfl) (by ac_rfl)
   rcases qq.mp hz with h | hz
   ·exact g h rfl (by decide) (by ac_rfl) (by ac_rfl)
   rcases qq.mp hz with h | hz
   ·exact g h rfl (by decide) (by ac_rfl) (by ac_rfl)
   rcases qq.mp hz with h | hz
   ·exact g h rfl (by decide) (by ac_rfl) (by ac_rfl)
   ·exact g (y:="(") ((xc.mp hz).trans (by ac_rfl)) rfl (by decide) (by ac_rfl) (by ac_rfl)
  exists CJ n1 ?_;exists CJ n2 ?_;refine⟨_,rfl,R'.tk,fun v H2 s2 iv=>?_⟩;obtain rfl:v=false:=by
   cases v with
   | false=>rfl
   | true=>
    have:=iv.mp rfl;rw[show (z::(t++sg w.s::(p'.tok++r))).headD []=z from rfl,Bh] at this;obtain⟨c,u,rfl,n⟩:=n3;exact absurd (oX this) n
  symm;exists Dz ?_;exact⟨x,.pr w p p',r,rfl,R.same s2,okp,trivial,dp,hh,q.on (.sm s2)⟩
 | _=>exact(cp.elim id fun z=>z.elim id id).elim
theorem Wi:Cu ["reader","word","plan","numbers"] ["reader"] (BP Jm):=by walk_at"s"
theorem XF{k d:Nat}(F:Fun K "take_plan" "take_plan" Jm f fd)(ab:C0 (k+2) "take_within" ["reader"] ((RG BZ) d))(hk:8<=k):F0 (k+3) f fd ["reader"] ((Jl BZ) (d+1)):=by
 refine F.ok (k:=k+2) Wi (fun h=>?_) fun nd H vs Q E hr h=>?_
 ·obtain⟨x,p,r,rfl,_⟩:=h;rfl
 obtain⟨x,p,r,rfl,R,okp,_,dp,hh,q⟩:=h;obtain⟨dx,fs,hx,l1,_⟩:=R.ob;refine⟨_,(Ab (Aj 1 (Cm Ci Bd (pv 0)))
  (Ab (Ay (PW.pt (Hi (Ak Bk (pv 1) Ah (An _)) (GQ (Ak Bk (pv 1) Ah (An _)))))
   (Ad (Al (BK (Aa (pv 1) Ac))))
   Aq)
  (Ab (Ay (Ak Bk (pv 1) Ah (An _))
   (Ab (Aj 3 (Af Ph (Aa (pv 0) Ac)))
  (Ad (Al (BK (Aa (pv 1) (Aa (pxT 3) (Aa (pxT 3) Ac)))))))
   Aq)
  (Ab (Ay (Ak Bk (pv 1) Ah (An _))
   (Ad (Al (Af Ze (Aa (pv 0) Ac))))
   Aq)
  (Ab (Ay (Ak Gp (pv 1) Ah (An _))
   (Ad BX)
   Aq)
  (Ab (Aj 2 (Af ab (Aa (pv 0) Ac)))
  (Ab (Bc (Af HB (Aa (pv 0) (Aa Ah Ac))))
  (Ad (Al (pv 2)))))))))),?_⟩
 symm;exists⟨x,dx,_,rfl,hx,l1,?_⟩;exists⟨x,_,rfl,R,fun H1 k1 R1=>?_⟩;cases p with
 | lf b=>
  cases b with
  | true=>
   refine Hn (HH "all") ?_;exists Ek ?_;refine⟨(by show 1<=sizeLine;decide),fun a ha=>?_⟩;refine fresh ha fun H4 s4 t4=>?_;exact q _ H4 (k1.tr (.sm s4)) (R1.same s4) ⟨a,rfl,by rw[t4];exact yk (fun z=>some (HO.tup [z])) (HH "all")⟩
  | false=>
   walk_at"nw";exists Hn (HH "none") ?_;refine⟨(by show 1<=sizeLine;decide),fun a ha=>?_⟩;refine fresh ha fun H4 s4 t4=>?_;exact q _ H4 (k1.tr (.sm s4)) (R1.same s4) ⟨a,rfl,by rw[t4];exact yk (fun z=>some (HO.tup [z])) (HH "none")⟩
 | each n m=>
  walk_at"nw";walk_at"nw";walk_at"ew";exists⟨x,n,m,r,rfl,R1,okp.1,okp.2.1,fun a H2 k2 R2 t2=>?_⟩;exists Av (SqT.of t2) at0 ?_;exists Av (SqT.of t2) at1 ?_;refine⟨(by show 3<=sizeLine;decide),fun b hb=>?_⟩;refine fresh hb fun H4 s4 t4=>?_;exact q _ H4 ((k1.tr k2).tr (.sm s4)) (R2.same s4) ⟨b,rfl,by rw[t4];exact yk (fun z=>some (HO.tup [z,_,_])) (HH _)⟩
 | date nm m e y=>
  walk_at"nw";walk_at"nw";walk_at"nw";walk_at"ew";exact⟨x,nm,m,e,y,r,rfl,R1,okp,hh,q.on k1⟩
 | _=>
  walk_at"nw";walk_at"nw";walk_at"nw";walk_at"nw";refine Hm (by show V.str (sW kL)=_;rw[wy];exact HH _) ?_;symm;refine⟨x,_,kR::r,rfl,by simp only[PT.tok,jh7,jc5,jl5] at R1;exact R1,okp,by first | exact trivial | exact .inl trivial | exact .inr (.inl trivial) | exact .inr (.inr trivial),dp,(show kR≠sg "each" by ac_rfl),fun v H2 k2 R2 P2=>?_⟩
  symm;refine⟨x,_,r,rfl,by rw[show cpl (Str.ofString ")")=kR by ac_rfl];exact R2,fun H3 k3 R3=>?_⟩;symm;exact q _ H3 ((k1.tr k2).tr k3) R3 (PlH.kb R2 k3 P2)
theorem Cp:C0 131 "take_plan" ["reader"] ((Jl BZ) 41):=W0 (k0:=8) (J:=3) (sp:=(Jl BZ)) (st:=Jm) gX gG (by walk_at"g") (by walk_at"b") (fun _ _ _ _ h=>YM h) (fun d _ _ R F=>by
 have hk:8<=8+3*d:=vj _ _;have ab:C0 ((8+3*d)+1) "take_numbered" ["reader"] ((Wc BZ) d):=co (st:=HD) (by walk_at"g") (by walk_at"b") fun F=>Oh F R hk;have ac:C0 ((8+3*d)+1) "take_every" ["reader"] ((RK BZ) d):=co (st:=JC) (by walk_at"g") (by walk_at"b") fun F=>Uv F R hk;have ad:C0 ((8+3*d)+1) "take_pair" ["reader"] ((Wb BZ) d):=co (st:=Jo) (by walk_at"g") (by walk_at"b") fun F=>XH F R hk;have ae:C0 ((8+3*d)+2) "take_within" ["reader"] ((RG BZ) d):=co (st:=IK) (by walk_at"g") (by walk_at"b") fun F=>Rz F R ac ab ad hk;exact XF F ae hk) 41
theorem Zn:C0 8 "made_date" ["plan","calendars"] (sE K BR CL Bf BV Am):=by
 refine co' ["plan","calendars","name"] Yl fun nd H vs Q E hr h=>?_;obtain⟨v,a,m,d,g,rfl,⟨q0,rfl,hq⟩,ok,sm,⟨kv,z,hk,ez,C⟩,q⟩:=h;have dg:U5 H a (.str (sW (sg "c"))) (some (.ref z)):=.inl ⟨_,.inr (sW (sg "c")),.inl hk,rfl,ez.symm⟩;refine⟨_,(Ab (Aj 2 (pxT 0))
  (Ab (Ay (W4 (VR (fH hr) (pv 2) (pv 1)))
   (Ad BX)
   Aq)
  (Ad (Al (Fy O1 (Aa (pv 2) (Aa (d8 (fH hr) (pv 1) (pv 2) (fun _ _=>rfl)) (Aa (pxT 0) (Aa (pxT 0) (Aa (pxT 0) (Aa (pxT 0) Ac))))))))))),?_⟩
 symm;exists Av (SqT.of hq) Lb ?_;unfold WN;symm;refine⟨a,some (.ref z),rfl,dg,?_⟩;refine⟨_,rfl,?_⟩;exists Dz ?_;unfold lB;symm;exists⟨a,.ref z,rfl,dg,?_⟩;exists Av (SqT.of hq) Xu ?_;exists Av (SqT.of hq) vY ?_;exists Av (SqT.of hq) ADf ?_;exists Av (SqT.of hq) ADe ?_;exact fun x dx hx hdx ne=>⟨x,z,_,g,m,d,rfl,(by ac_rfl),Et.same C (HS hx hdx ne),sm,ok.2.2.2.2.1,fun i e=>Cj (ok.2.1 i e),ok.2.2.2.2.2,fun i e=>Cj (ok.2.2.1 i e),.go hx hdx ne fun b H' s N r=>⟨rfl,q.go s N r⟩⟩
theorem Zm:C0 12 "made_pair" ["word","one","other"] (rm K BR CL):=by
 refine co' ["word","one","other"] Yk fun nd H vs Q E hr h=>?_;obtain⟨w,x,y,n1,n2,b1,b2,rfl,R1,R2,lz,q⟩:=h;refine⟨_,(Ab (Ay (Ak Bk (pv 0) Ah (An _))
  (Ad (Al (Fy Qp (Aa (pv 1) (Aa (pv 2) Ac)))))
  Aq)
  (Ab (Ay (Ak Bk (pv 0) Ah (An _))
   (Ad (Al (Fy M7 (Aa (pv 1) (Aa (pv 2) Ac)))))
   Aq)
  (Ab (Ay (Ak Bk (pv 0) Ah (An _))
   (Ad (Al (Fy Tu (Aa (pv 1) (Aa (pv 2) Ac)))))
   Aq)
  (Ab (Ay (Ak Bk (pv 0) Ah (An _))
   (Ad (Al (Fy My (Aa (pv 1) (Aa (pv 2) Ac)))))
   Aq)
  (Ab (Ay (Ak Bk (pv 0) Ah (An _))
   (Ad (Al (Fy Qj (Aa (pv 1) (Aa (pv 2) Ac)))))
   Aq)
  (Ab (Ay (Ak Bk (pv 0) Ah (An _))
   (Ad (Al (Fy Ou (Aa (pv 1) (Aa (pv 2) Ac)))))
   Aq)
  (Ab (Ay (Ak Bk (pv 0) Ah (An _))
   (Ad (Al (Fy Ql (Aa (pv 1) (Aa (pv 2) Ac)))))
   Aq)
  (Ad (Al (Fy Qk (Aa (pv 1) (Aa (pv 2) Ac)))))))))))),?_⟩
 symm;cases w<;>(repeat walk_at"nw")<;>(try walk_at"ew")<;>exact fun y dy hy hdy ne=>ADW R1 R2 lz hy hdy ne fun b H' s N R=>⟨rfl,q _ b H' s N R⟩
theorem tH:Cu ["plan","calendars","word","one"] ["plan","calendars"] (BP aL):=by walk_at"s"
theorem uP{k d:Nat}(F:Fun K "made" "made" aL f fd)(JT:C0 k "made" ["plan","calendars"] ((RJ K BR CL Bf BV Am) d))(hk:12<=k):F0 (k+1) f fd ["plan","calendars"] ((RJ K BR CL Bf BV Am) (d+1)):=by
 refine F.ok (k:=k+0) tH (fun h=>?_) fun nd H vs Q E hr h=>?_
 ·obtain⟨v,a,p,g,rfl,_⟩:=h;rfl
 obtain⟨v,a,p,g,rfl,P,ok,kn,dp,D0,Di,lz,q⟩:=h;refine⟨_,(Ab (Aj 2 (pxT 0))
  (Ab (Ay (Ak Bk (pv 2) Ah (An _))
   (Ad (Al (ao Tw (hr.mono (by lia)) rfl)))
   Aq)
  (Ab (Ay (Ak Bk (pv 2) Ah (An _))
   (Ad (Al (ao U0 (hr.mono (by lia)) rfl)))
   Aq)
  (Ab (Ay (Ak Bk (pv 2) Ah (An _))
   (Ad (Al (Fy Qn (Aa (pxT 0) (Aa (pxT 0) Ac)))))
   Aq)
  (Ab (Ay (Ak Bk (pv 2) Ah (An _))
   (Ad (Al (Af Zn (Aa (pv 0) (Aa (pv 1) Ac)))))
   Aq)
  (Ab (Ay (Ak Bk (pv 2) Ah (An _))
   (Ad (Al (Fy Tn (Aa (Af JT (Aa (pxT 0) (Aa (pv 1) Ac))) Ac))))
   Aq)
  (Ab (Ay (Ak Bk (pv 2) Ah (An _))
   (Ad (Al (Fy Ow (Aa (pxT 0) (Aa (Af JT (Aa (pxT 0) (Aa (pv 1) Ac))) Ac)))))
   Aq)
  (Ab (Ay (Ak Bk (pv 2) Ah (An _))
   (Ad (Al (Fy Ox (Aa (pxT 0) (Aa (Af JT (Aa (pxT 0) (Aa (pv 1) Ac))) (Aa (pxT 0) Ac))))))
   Aq)
  (Ab (Ay (Ak Bk (pv 2) Ah (An _))
   (Ab (Aj 3 (Af JT (Aa (pxT 0) (Aa (pv 1) Ac))))
  (Ad (Al (Fy Tr (Aa (pxT 0) (Aa (pv 3) (Aa (Af JT (Aa (pxT 0) (Aa (pv 1) Ac))) Ac)))))))
   Aq)
  (Ab (Aj 3 (Af JT (Aa (pxT 0) (Aa (pv 1) Ac))))
  (Ad (Al (Af Zm (Aa (pv 2) (Aa (pv 3) (Aa (Af JT (Aa (pxT 0) (Aa (pv 1) Ac))) Ac)))))))))))))))),?_⟩
 cases p with
 | lf b=>
  obtain⟨q0,rfl,hq⟩:=P;symm;exists Av (SqT.of hq) GC ?_;cases b with
  | true=>
   walk_at"ew";exact fun x dx hx hdx ne=>⟨x,rfl,.go hx hdx ne fun b H' s N eb=>⟨rfl,q.go s N eb⟩⟩
  | false=>
   walk_at"nw";walk_at"ew";exact fun x dx hx hdx ne=>⟨x,rfl,.go hx hdx ne fun b H' s N eb=>⟨rfl,q.go s N eb⟩⟩
 | each n r=>
  obtain⟨q0,rfl,hq⟩:=P;symm;exists Av (SqT.of hq) GC ?_;walk_at"nw";walk_at"nw";walk_at"ew";exists Av (SqT.of hq) Lb ?_;exists Av (SqT.of hq) Xu ?_;exact fun x dx hx hdx ne=>⟨x,n,r,rfl,ok.2.2.1,by have:=ok.2.2.2;lia,.go hx hdx ne fun b H' s N B=>⟨rfl,q.go s N B⟩⟩
 | date nm m e y=>
  obtain⟨q0,rfl,hq⟩:=P;symm;exists Av (SqT.of hq) GC ?_;walk_at"nw";walk_at"nw";walk_at"nw";walk_at"ew";obtain⟨rfl,rfl⟩:=kn;exact⟨_,a,m,e,g,rfl,⟨q0,rfl,hq⟩,ok,D0,Di,q⟩
 | no p=>
  obtain⟨q0,u,rfl,hq,P⟩:=P;symm;exists Av (SqT.of hq) GC ?_;walk_at"nw";walk_at"nw";walk_at"nw";walk_at"nw";walk_at"ew";exists Av (SqT.of hq) Lb ?_;exists⟨u,a,p,g,rfl,P,ok,kn,jc3 dp,D0,Di,lz,fun t H1 s1 T F=>?_⟩;exact fun x dx hx hdx ne=>⟨x,t,_,_,rfl,T.same (HS hx hdx ne),.go hx hdx ne fun b H' s N r=>⟨rfl,q.go (s1.trans s) N r⟩⟩
 | la k p=>
  obtain⟨q0,u,rfl,hq,P⟩:=P;symm;exists Av (SqT.of hq) GC ?_;walk_at"nw";walk_at"nw";walk_at"nw";walk_at"nw";walk_at"nw";walk_at"ew";exists Av (SqT.of hq) Lb ?_;exists Av (SqT.of hq) Xu ?_;exists⟨u,a,p,g,rfl,P,ok.2,kn,jc3 dp,D0,Di,lz,fun t H1 s1 T F=>?_⟩;exact fun x dx hx hdx ne=>⟨x,t,k,_,_,rfl,Cj ok.1,T.same (HS hx hdx ne),.go hx hdx ne fun b H' s N r=>⟨rfl,q.go (s1.trans s) N r⟩⟩
 | ev k p e=>
  obtain⟨q0,u,rfl,hq,P⟩:=P;have sp:=PT.sz_pos D0 ok.2.2.1;have lz:p.sz g*k<=150000:=lz;have l1:=ug sp (show 0<k by have:=ok.2.2.2.1;lia);symm;exists Av (SqT.of hq) GC ?_;walk_at"nw";walk_at"nw";walk_at"nw";walk_at"nw";walk_at"nw";walk_at"nw";walk_at"ew";exists Av (SqT.of hq) Lb ?_;exists Av (SqT.of hq) Xu ?_;exists⟨u,a,p,g,rfl,P,ok.2.2.1,kn,jc3 dp,D0,Di,by lia,fun t H1 s1 T F=>?_⟩;exists Av (SqT.of (s1 _ _ hq)) vY ?_;exact fun x dx hx hdx ne=>⟨x,t,k,e,_,_,rfl,ok.2.2.2.1,by have:=ok.2.2.2.2;lia,lz,ACh ok.2.1,T.same (HS hx hdx ne),.go hx hdx ne fun b H' s N r=>⟨rfl,q.go (s1.trans s) N r⟩⟩
 | nt k p p'=>
  obtain⟨q0,u,u',rfl,hq,P,P'⟩:=P;have dp:max p.deep p'.deep+1<d+1:=dp;have lz:Bx (p.sz g) (p'.sz g)<=150000:=lz;have ll:=oH (PT.sz_pos D0 ok.2.1) (PT.sz_pos D0 ok.2.2.1);symm;exists Av (SqT.of hq) GC ?_;walk_at"nw";walk_at"nw";walk_at"nw";walk_at"nw";walk_at"nw";walk_at"nw";walk_at"nw";walk_at"ew";exists Av (SqT.of hq) Xu ?_;exists⟨u,a,p,g,rfl,P,ok.2.1,kn.1,by lia,D0,Di,by lia,fun t H1 s1 T F=>?_⟩;exists Av (SqT.of (s1 _ _ hq)) Lb ?_;exists Av (SqT.of (s1 _ _ hq)) vY ?_;exists⟨u',a,p',g,rfl,P'.same s1,ok.2.2.1,kn.2,by lia,D0,Di.same s1,by lia,fun t' H2 s2 T' F'=>?_⟩;exact fun x dx hx hdx ne=>⟨x,t,t',k,_,_,_,_,rfl,ok.2.2.2,Cj ok.1,(T.same s2).same (HS hx hdx ne),T'.same (HS hx hdx ne),lz,.go hx hdx ne fun b H' s N r=>⟨rfl,q.go ((s1.trans s2).trans s) N r⟩⟩
 | pr w p p'=>
  obtain⟨q0,u,u',rfl,hq,P,P'⟩:=P;have dp:max p.deep p'.deep+1<d+1:=dp;have lz:Bx (p.sz g) (p'.sz g)<=150000:=lz;have ll:=oH (PT.sz_pos D0 ok.1) (PT.sz_pos D0 ok.2);have no:∀{z:String},z∈["all","none","each","date","not","later","every","of"]->V.str (Str.ofString w.s)≠V.str (Str.ofString z):=fun h z=>ABx w _ h (V.str.inj z);symm;exists Av (SqT.of hq) GC ?_;exists CJ (no (by decide)) ?_;exists CJ (no (by decide)) ?_;exists CJ (no (by decide)) ?_;exists CJ (no (by decide)) ?_;exists CJ (no (by decide)) ?_;exists CJ (no (by decide)) ?_;exists CJ (no (by decide)) ?_;exists CJ (no (by decide)) ?_;exists Av (SqT.of hq) Lb ?_;exists⟨u,a,p,g,rfl,P,ok.1,kn.1,by lia,D0,Di,by lia,fun t H1 s1 T F=>?_⟩;exists Av (SqT.of (s1 _ _ hq)) Xu ?_;exists⟨u',a,p',g,rfl,P'.same s1,ok.2,kn.2,by lia,D0,Di.same s1,by lia,fun t' H2 s2 T' F'=>?_⟩;refine⟨w,t,t',_,_,_,_,rfl,T.same s2,T',lz,fun z b H' s N B=>q.go ((s1.trans s2).trans s) N B⟩
theorem JT:C0 53 "made" ["plan","calendars"] ((RJ K BR CL Bf BV Am) 41):=W0 (k0:=12) (J:=1) (sp:=(RJ K BR CL Bf BV Am)) (st:=aL) gX gG (by walk_at"g") (by walk_at"b") (fun _ _ _ _ h=>YQ h) (fun d _ _ R F=>by
 have hk:12<=12+1*d:=vj _ _;exact uP F R hk) 41
theorem Zg:C0 132 "read_rule" ["text","calendars"] (yI K BR CL Bf BV Am):=by
 refine co' ["text","calendars","reader","plan"] Yg fun nd H vs Q E hr h=>?_;obtain⟨a,p,g,rfl,ok,kn,tl,dl,mn,D0,Di,lz,q⟩:=h;obtain⟨es,tk,dk,co⟩:=PT.rdy ok tl dl;have W:=PT.wf ok;refine⟨_,(Ab (Ay (Hj (GR (Af Ky (Aa (pv 0) Ac))))
  (Ad BX)
  Aq)
  (Ab (Aj 2 (Fy M3 (Aa (Af cC (Aa (pv 0) Ac)) Ac)))
  (Ab (Aj 3 (Af Cp (Aa (pv 2) Ac)))
  (Ab (Ay (Ak Gp (Cm Fz Bd (pv 2)) Ah (An _))
   (Ad BX)
   Aq)
  (Ad (Al (Af JT (Aa (pv 3) (Aa (pv 1) Ac))))))))),?_⟩
 symm;refine⟨_,rfl,tk,by rw[DR];exact tl,?_⟩;symm;exists Dz ?_;refine⟨_,rfl,tk,by rw[Bh];exact tl,by rw[Bh,es];exact co,by rw[Bh,es];exact dk,fun l H1 s1 t1=>?_⟩;rw[Bh,es,W.tk] at t1;symm;refine fun x dx hx hdx ne=>⟨x,dx,l,p.tok,rfl,Ai,HS hx hdx ne _ _ t1,?_,PT.tok_ok ok,fun H2 k2 R2=>⟨rfl,?_⟩⟩
 ·have:=PT.tok_len p;lia
 have s2:=Ve hx hdx ne k2;have hxH:H x=none:=s1.free hx;have kbS:∀{H':Hp},KB x H2 H'->Az H H':=fun{H'} kb y o e=>kb y o (Bm e hxH) ((s1.trans s2) _ _ e);symm;refine⟨x,p,[],rfl,by show Rd _ _ _ (p.tok++[]);rw[xz];exact R2,ok,trivial,by lia,(by ac_rfl),fun v H3 k3 R3 P3=>?_⟩;symm;obtain⟨d3,fs,hx3,_,l3⟩:=R3.ob;exists⟨x,d3,_,rfl,hx3,l3,?_⟩;exists⟨x,_,rfl,R3,?_⟩;refine Hm (by rw[mH];rfl) ?_;symm;have s3:=kbS k3;exact⟨v,a,p,g,rfl,P3,ok,kn,by lia,D0,Di.same s3,lz,fun t H' s T F=>q t H' (s3.trans s) T F⟩
theorem cH:C0 3 "next_day" ["turn","day"] (yM K):=by
 refine co' ["turn","day","bits"] aK fun nd H vs Q E hr h=>?_;obtain⟨a,n,d,b,rfl,hS,h0,h1,hb,_,qN,q⟩:=h;refine⟨_,(Ab (Aj 2 (Dp LQ (Af Hz (Aa (pv 0) (Aa (Fx Ed (pv 1)) Ac))) Ae (fun _ _=>rfl)))
  (Ab (Ay (Ak Bk (pv 2) Ae (An _))
   (Ad (Al Ff))
   Aq)
  (Ad (Al (Ag DW (Ag Be (pv 1) (az jm1 jj0 jj1 XN (Ag Ia (pv 2) (Fx Ed (pv 2))))) Ae))))),?_⟩
 symm;refine⟨a,n,-d,b,rfl,hS,h0,h1,hb,fun p hp=>?_⟩;have s1:=Ar hp (.tup [.int n,.int ((lat n.toNat b ((-d)%n).toNat:Nat):Int)]);generalize hc:lat n.toNat b ((-d)%n).toNat=c at*
 have bit:∀i:Nat,i<n.toNat->c.testBit i=On n b ((i:Int)+d):=fun i hi=>by
  have:=Jz (num:= -d) (d:=(i:Int)) h0 hb;rw[hc] at this;rw[show (i:Int)+d=(i:Int)- -d by lia,<-this];unfold On;rw[jg0 (by lia) (by lia),xp]
 have cl:c<2^n.toNat:=by rw[<-hc];exact J0 _ _ _
 symm;exists Av (SqT.of Ai) at1 ?_;by_cases c0:c=0
 ·refine Hn (by rw[c0];rfl) ?_;symm;refine qN (fun e=>?_) _ s1;have e1:=qk (e-d) (show n≠0 by lia);have e2:=qg (e-d) h0;have:=bit ((e-d)%n).toNat (by lia);rw[c0,jd4,jh0 e1] at this;rw[this];unfold On
  congr 2
  rw[Int.emod_add_emod]
  congr 1
  lia
 refine CJ (fun z=>c0 (by injection z with z;lia)) ?_;symm;obtain⟨k,hk,hlow⟩:=zX c0;have kn:k<n.toNat:=by
  refine je6 fun z=>?_;rw[high cl z] at hk;cases hk
 have la:=eV k c hk hlow;have eb:Builtin.bitAnd (c:Int) (-(c:Int))=((2^k:Nat):Int):=by
  rw[cM c0];lia
 rw[eb,J3 (by have:=ki k;lia),oG];symm;refine q _ _ s1 (by lia) ?_ (fun e he1 he2=>?_)
 ·have:=bit k kn;rw[hk] at this;rw[this]
  congr 1
  lia
 ·have:=bit (e-d).toNat (by lia);rw[hlow (e-d).toNat (by lia),jh0 (by lia)] at this;rw[this]
  congr 1
  lia
theorem cI:C0 3 "last_day" ["turn","day"] (yP K):=by
 refine co' ["turn","day","bits"] aP fun nd H vs Q E hr h=>?_;obtain⟨a,n,d,b,rfl,hS,h0,h1,hb,_,qN,q⟩:=h;refine⟨_,(Ab (Aj 2 (Dp LQ (Af Hz (Aa (pv 0) (Aa (Ag DW (Fx Ed (pv 1)) Ae) Ac))) Ae (fun _ _=>rfl)))
  (Ab (Ay (Ak Bk (pv 2) Ae (An _))
   (Ad (Al Ff))
   Aq)
  (Ad (Al (Ag DW (Ag Be (pv 1) (az jm1 jj0 jj1 XN (pv 2))) (pxT 0)))))),?_⟩
 symm;refine⟨a,n,-d-1,b,rfl,hS,h0,h1,hb,fun p hp=>?_⟩;have s1:=Ar hp (.tup [.int n,.int ((lat n.toNat b ((-d-1)%n).toNat:Nat):Int)]);have hS1:=s1.tup hS;generalize hc:lat n.toNat b ((-d-1)%n).toNat=c at*
 have bit:∀i:Nat,i<n.toNat->c.testBit i=On n b ((i:Int)+d+1):=fun i hi=>by
  have:=Jz (num:= -d-1) (d:=(i:Int)) h0 hb;rw[hc] at this;rw[show (i:Int)+d+1=(i:Int)-(-d-1) by lia,<-this];unfold On;rw[jg0 (by lia) (by lia),xp]
 have cl:c<2^n.toNat:=by rw[<-hc];exact J0 _ _ _
 have per:∀e,On n b (e+n)=On n b e:=fun e=>by
  unfold On;rw[Int.add_emod_right]
 symm;exists Av (SqT.of Ai) at1 ?_;by_cases c0:c=0
 ·refine Hn (by rw[c0];rfl) ?_;symm;refine qN (fun e=>?_) _ s1;have e1:=qk (e-d-1) (show n≠0 by lia);have e2:=qg (e-d-1) h0;have:=bit ((e-d-1)%n).toNat (by lia);rw[c0,jd4,jh0 e1] at this;rw[this];unfold On
  congr 2
  rw[Int.add_assoc,Int.emod_add_emod]
  congr 1
  lia
 refine CJ (fun z=>c0 (by injection z with z;lia)) ?_;symm;obtain⟨hk,hhigh⟩:=o6 c0;have kn:c.log2<n.toNat:=by
  refine je6 fun z=>?_;rw[high cl z] at hk;cases hk
 rw[J3 c0];symm;exists Av hS1 at0 ?_;refine q _ _ s1 (by lia) ?_ (fun e he1 he2=>?_)
 ·have:=bit c.log2 kn;rw[hk] at this;rw[this,<-per]
  congr 1
  lia
 ·have:=bit (e-d-1+n).toNat (by lia);rw[hhigh (e-d-1+n).toNat (by lia),jh0 (by lia)] at this;rw[this,<-per]
  congr 1
  lia
theorem Eh:C0 2 "read_number" ["text"] lW:=by
 refine co' ["text"] Uj fun nd H vs Q E hr h=>?_;obtain⟨i,rfl,hi,q⟩:=h;have N:=JL hi;have tk:=uU hi;refine⟨_,(Ab (Ay (PW.pt (Hi (Hj (GR (BL S8 rfl Iz ji2 (Aa (pv 0) (Aa (W8 rfl Df qr (aX _)) Ac))))) (GQ (Hj (GR (Af J8 (Aa (pv 0) Ac)))))))
  (Ad BX)
  Aq)
  (Ad (Al (BW G4 rfl cU ji8 (Aa (pv 0) Ac))))),?_⟩
 symm;exists aZ (.txt _ tk) ?_;exists Dz ?_;refine⟨_,rfl,tk,fun b H1 s1 hb=>?_⟩;have eb:b=true:=hb.mpr (by rw[Bh];exact N.1);subst eb;symm;exists Dz ?_;have r:=Om (z:=sW (nW i)) (by rw[Bh];exact N.1);rw[Bh,N.2] at r;refine⟨_,_,rfl,?_,r,q _ s1⟩;have:=Fl hi;rw[DR];exact zv this (by decide)
theorem J7:C0 3 "read_numbers" ["word"] gY:=by
 refine co' ["word"] RQ fun nd H vs Q E hr h=>?_;obtain⟨ns,rfl,hn,nl,sm,q⟩:=h;have sp:=bH hn sm;have jl:=Ml sm;exists⟨_,(Ad (Al (FT rfl (GZ ["word"] rfl (by ac_rfl) rfl (by ac_rfl) rfl (by ac_rfl) (by ac_rfl)) (Gj (Gn vt je1 je2 Mp (pv 0) (Aa Ah Ac))) (fun _ _ _ _=>Ep) (fun _ _ _ _=>(Af Eh (Aa (pv 0) Ac)))))),?_⟩;exists GD (Jr ?_);exists Js ?_;exists⟨rfl,?_⟩;refine⟨_,44,rfl,by rw[show Str.ofString ","=⟨#[44]⟩ from by ac_rfl],by decide,by rw[DR];lia,fun l hl=>?_⟩;rw[sp];refine fresh hl fun H1 s1 t1=>?_;refine⟨l,rfl,⟨_,SqL.of t1⟩,?_⟩;refine Mu Ng (by rw[js];exact Dq (by lia)) (fun D i ys H2=>H2 D=some (.lst ys)/\Az H1 H2/\ys=(ns.take i).map V.int) (fun D hD=>⟨Ai,Ar hD _,rfl⟩)
  (fun D i ys H2 _ ⟨h1,h2,h3⟩=>⟨h1,by rw[h3,js];exact List.length_take_le _ _,SqL.of (h2 _ _ t1)⟩) (fun D i x ys H2 hD hx ⟨h1,h2,h3⟩=>?_) (fun D ys H2 hD ⟨h1,h2,h3⟩=>?_)
 ·rw[xo] at hx;obtain⟨n,hn,rfl⟩:=kr.mp hx;exists Kc (Ek ?_);refine⟨n,rfl,sm n (zh hn),fun H3 s3=>⟨s3 _ _ h1,Ai,G6 hD (h2.trans s3),?_⟩⟩;rw[Qr,hn,jb7,kx,h3];rfl
 ·rw[js,jc1] at h3;subst h3;exact q D H2 (s1.free hD) (s1.trans h2) h1
theorem Zf:C0 4 "read_term" ["word"] lV:=by
 refine co' ["word","numbers","sign"] Ye fun nd H vs Q E hr h=>?_;obtain⟨a,b,n,rfl,sm,q⟩:=h;have jl:=Ml sm;have tl:(tW (1,a,b,n)).length<=200:=by show(FJ 44 ([a,b,n].map nW)).length+1<=_;simp only[qo,jg3] at jl;lia
 have l0:1<=(sW (tW (1,a,b,n))).length:=by rw[DR];show 1<=_+1;lia
 have eP:Str.ofString "+"=sW [43]:=by ac_rfl
 have e1:Txt.slice (sW (tW (1,a,b,n))) none (some 1)=Str.ofString "+":=by rw[eP];exact Hv (by rw[gf,Bh,Bh];rfl)
 have e2:Txt.slice (sW (tW (1,a,b,n))) (some 1) none=sW (FJ 44 ([a,b,n].map nW)):=Hv (by rw[O6 l0,Bh,Bh];rfl);have fit:(sW (tW (1,a,b,n))).length<=sizeLine:=by rw[DR];exact zv tl (by decide)
 refine⟨_,(Ab (Ay (PW.pt (K7 (Ak Gp (Ck Wh (pv 0) El (Cr Ae)) Ah (An _)) (JF (Ak Gp (Ck Wh (pv 0) El (Cr Ae)) Ah (An _)))))
  (Ad BX)
  Aq)
  (Ab (Aj 1 (Af J7 (Aa (Ck Wh (pv 0) (Cr Ae) El) Ac)))
  (Ab (Ay (Ak Gp (BL Bj rfl Do xi (Aa (pv 1) Ac)) Ae (An _))
   (Ad BX)
   Aq)
  (Ab (Aj 2 (Dh (Ak Bk (Dp oV (pv 0) Ae) Ah (An _)) Ae (Fx Ed Ae)))
  (Ad (Al (BK (Aa (pv 2) (Aa (pxL 1) (Aa (pxL 1) (Aa (pxL 1) Ac))))))))))),?_⟩
 symm;refine⟨_,rfl,fit,?_⟩;rw[e1];symm;refine Hm rfl ?_;exists Dz ?_;refine⟨_,rfl,fit,?_⟩;rw[e2];refine Ft ?_;refine⟨[a,b,n],rfl,(fun z=>nomatch z),(by show 3<=3;decide),sm,fun l H1 hl u1 t1=>?_⟩;symm;exists⟨l,_,rfl,.inl (SqL.of t1),?_⟩;exists Hm rfl ?_
 try refine N7 ?_
 symm;refine⟨_,0,43,rfl,rfl,fit,(by show atI (cpl (sW (tW (1,a,b,n)))) 0=some 43;rw[Bh];exact Dm (j:=0) rfl),?_⟩;symm;refine Hn (by rw[eP];rfl) ?_;symm;exists Bq (SqL.of t1) GC ?_;exists Bq (SqL.of t1) Lb ?_;exists Bq (SqL.of t1) Xu ?_;refine⟨(by show 4<=sizeLine;decide),fun p hp=>?_⟩;exact q p _ (u1.trans (Ar hp _)) Ai
theorem JR:C0 5 "read_terms" ["words"] gW:=by
 refine co' ["words"] Wq fun nd H vs Q E hr h=>?_;obtain⟨l,a,b,n,rfl,hl,sm,q⟩:=h;exists⟨_,(Ad (Al (FT rfl (GZ ["words"] rfl (by ac_rfl) rfl (by ac_rfl) rfl (by ac_rfl) (by ac_rfl)) (Gj (pv 0)) (fun _ _ _ _=>Ep) (fun _ _ _ _=>(Af Zf (Aa (pv 0) Ac)))))),?_⟩;exists GD (Jr ?_);refine⟨l,rfl,⟨_,SqL.of hl⟩,?_⟩;refine Mu Ng (Dq (by show 1<=1000;decide)) (fun D i ys H2=>H2 D=some (.lst ys)/\Az H H2/\ys.length<=i/\(i=1->∃p,ys=[.ref p]/\H2 p=some (.tup (tmV (1,a,b,n))))) (fun D hD=>⟨Ai,Ar hD _,ze _,fun z=>nomatch z⟩)
  (fun D i ys H2 _ ⟨h1,h2,h3,_⟩=>⟨h1,h3,SqL.of (h2 _ _ hl)⟩) (fun D i x ys H2 hD hx ⟨h1,h2,h3,_⟩=>?_) (fun D ys H2 hD ⟨h1,h2,h3,h4⟩=>?_)
 ·obtain rfl:i=0:=by
   have:=(qv.mp hx).1;simpa [wvS] using this
  obtain rfl:V.str (sW (tW (1,a,b,n)))=x:=by simpa [wvS] using hx
  obtain rfl:ys=[]:=jb5.mp (Nat.le_zero.mp h3);exists Kc (Ek ?_);refine⟨a,b,n,rfl,sm,fun p H3 s3 hp=>⟨s3 _ _ h1,Ai,G6 hD (h2.trans s3),ze _,fun _=>⟨p,rfl,?_⟩⟩⟩;rw[Ax fun z=>by rw[z,s3 _ _ h1] at hp;cases hp];exact hp
 ·obtain⟨p,rfl,hp⟩:=h4 rfl;exact q D p H2 h2 h1 hp
theorem cF:C0 9 "read_sun" ["words"] (YK K Bf BV Am "sun"):=by
 refine co' ["words","start","lengths","leap"] aJ fun nd H vs Q E hr h=>?_;obtain⟨l,g,rfl,hl,hg,o,q⟩:=h;have gd:=o.good;have bs:=o.bs;cases o with
 | moon=>exact absurd hg (by show ¬"moon"="sun";decide)
 | sun hs l0 l1 hm p0 p1 o=>
 rename_i s' lp a b n ls
 have ms:∀n∈ls,Sm n:=fun n hn=>sm1 (by have:=hm n hn;lia) (by have:=hm n hn;lia);refine⟨_,(Ab (Ay (Ak Eu (BL Bj rfl Do xi (Aa (pv 0) Ac)) Ae (An _))
  (Ad BX)
  Aq)
  (Ab (Aj 1 (Af Eh (Aa (pxL 0) Ac)))
  (Ab (Aj 2 (Af J7 (Aa (pxL 0) Ac)))
  (Ab (Ay (Ak Bk (BL Bj rfl Do xi (Aa (pv 0) Ac)) Ae (An _))
   (Ad (Al (zO Mz (hr.mono (by decide)) rfl (Aa (pv 1) (Aa (pv 2) Ac)))))
   Aq)
  (Ab (Ay (PW.pt (Hi (Ak Gp (pxL 0) Ah (An _)) (GQ (Ak Eu (BL Bj rfl Do xi (Aa (pv 0) Ac)) Ae (An _)))))
   (Ad BX)
   Aq)
  (Ab (Aj 3 (Af Eh (Aa (pxL 0) Ac)))
  (Ad (Al (Fy Tj (Aa (pv 1) (Aa (pv 2) (Aa (pv 3) (Aa (Af JR (Aa (Ck Ew (pv 0) (Cr Ae) El) Ac)) Ac))))))))))))),?_⟩
 symm;exists⟨l,_,rfl,.inl (SqL.of hl),?_⟩;refine CJ (by show ¬(5:Int)<2;decide) ?_;symm;refine Bq (SqL.of hl) GC ?_;refine Ft ?_;refine⟨s',rfl,hs,fun H1 s1=>?_⟩;have h1:=s1 _ _ hl;symm;refine Bq (SqL.of h1) Lb ?_;refine Ft ?_;refine⟨ls,rfl,(fun z=>by rw[z] at l0;exact absurd l0 (by decide)),l1,ms,fun l2 H2 hl2 s2 t2=>?_⟩;have h2:=s2 _ _ h1;symm;exists⟨l,_,rfl,.inl (SqL.of h2),?_⟩;exists CJ (fun z=>nomatch V.int.inj z) ?_;exists Bq (SqL.of h2) Xu ?_;exists Hm (HH _) ?_;exists⟨l,_,rfl,.inl (SqL.of h2),?_⟩;refine CJ (by show ¬(5:Int)<5;decide) ?_;symm;refine Bq (SqL.of h2) vY ?_;refine Ft ?_;refine⟨lp,rfl,sm1 (by lia) (by lia),fun H3 s3=>?_⟩;have h3:=s3 _ _ h2;symm;refine GP (SqL.of h3) fun u hu=>?_;rw[show HW (wvS (wC (.sun s' ls lp [(1,a,b,n)]))) (some 4) none=wvS [tW (1,a,b,n)] from Gu _ 4];refine fresh hu fun H4 s4 t4=>?_;refine Ft ?_;exists⟨u,a,b,n,rfl,t4,o.sm,fun l5 p H5 s5 t5 hp=>?_⟩;refine fun x dx hx hdx ne=>oY hx hdx ne (s5 _ _ (s4 _ _ (s3 _ _ t2))) (.cons hp .nil) (.inr ⟨l5,rfl,t5⟩) gd bs fun H6 s6 S6=>⟨rfl,?_⟩;exact q x _ ((s1.trans s2).trans ((s3.trans s4).trans (s5.trans s6))) S6
theorem Zh:C0 7 "read_moon" ["words"] (YK K Bf BV Am "moon"):=by
 refine co' ["words","place","days","many","start","days_base","days_terms","many_base","many_terms"] Yh fun nd H vs Q E hr h=>?_;obtain⟨l,g,rfl,hl,hg,o,q⟩:=h;have gd:=o.good;have bs:=o.bs;cases o with
 | sun=>exact absurd hg (by show ¬"sun"="moon";decide)
 | moon hs d0 d1 o n2 m0 m1 o' y2=>
 rename_i s' bd a b n bm c e y
 have sbd:Sm bd:=sm1 (by lia) (by lia);have sbm:Sm bm:=sm1 (by lia) (by lia);have es:Str.ofString "/"=sW (sg "/"):=by ac_rfl
 have nn:∀{i:Int},Sm i->sW (nW i)≠Str.ofString "/":=fun{i} hi z=>by
  rw[es] at z;have z:=yk cpl z;rw[Bh,Bh] at z;have:=Ib hi 47 (by rw[z];ac_rfl);lia
 have nt:∀{t:Tm},sW (tW t)≠Str.ofString "/":=fun{t} z=>by
  rw[es] at z;have z:=yk cpl z;rw[Bh,Bh,show sg "/"=[47] by ac_rfl] at z;exact absurd (List.cons.inj z).1 (by decide)
 have eW:wvS (wC (.moon s' bd [(1,a,b,n)] bm [(1,c,e,y)]))=([sW (nW s'),sW (nW bd),sW (tW (1,a,b,n)),Str.ofString "/",sW (nW bm),sW (tW (1,c,e,y))]:List Str).map V.str:=by
  rw[es];rfl
 rw[eW] at hl;refine⟨_,(Ab (Ay (Ak Gp (Gn kz PySem.F.slot_list_count PySem.F.type_list_count iw (pv 0) (Aa Ah Ac)) Ae (An _))
  (Ad BX)
  Aq)
  (Ab (Aj 1 (Gn kz PySem.F.slot_list_index PySem.F.type_list_index iu (pv 0) (Aa Ah Ac)))
  (Ab (Aj 2 (Ck Ew (pv 0) (Cr Ae) (Cr (pv 1))))
  (Ab (Aj 3 (Ck Ew (pv 0) (Cr (Ag Be (pv 1) Ae)) El))
  (Ab (Ay (PW.pt (Hi (Ak Eu (BL Bj rfl Do xi (Aa (pv 2) Ac)) Ae (An _)) (GQ (Ak Eu (BL Bj rfl Do xi (Aa (pv 3) Ac)) Ae (An _)))))
   (Ad BX)
   Aq)
  (Ab (Aj 4 (Af Eh (Aa (pxL 0) Ac)))
  (Ab (Aj 5 (Af Eh (Aa (pxL 2) Ac)))
  (Ab (Aj 6 (Af JR (Aa (Ck Ew (pv 2) (Cr Ae) El) Ac)))
  (Ab (Aj 7 (Af Eh (Aa (pxL 3) Ac)))
  (Ab (Aj 8 (Af JR (Aa (Ck Ew (pv 3) (Cr Ae) El) Ac)))
  (Ad (Al (Fy Qm (Aa (pv 4) (Aa (Fy Gb (Aa (pv 5) (Aa (pv 6) Ac))) (Aa (Fy Gb (Aa (pv 7) (Aa (pv 8) Ac))) Ac)))))))))))))))),?_⟩
 symm;exists Js ?_;exists⟨.inl ⟨rfl,_,SqL.of hl⟩,?_⟩;refine⟨l,_,_,rfl,rfl,SqL.of hl,?_⟩;rw[je9 (nn hs),je9 (nn sbd),je9 nt,List.count_cons_self,je9 (nn sbm),je9 nt,List.count_nil];symm;exists Hm rfl ?_;exists Js ?_;exists⟨.inl ⟨rfl,_,SqL.of hl⟩,?_⟩;refine⟨l,_,Str.ofString "/",3,rfl,rfl,SqL.of hl,rfl,?_,?_⟩
 ·intro m hm z
  match m,hm,z with
  | 0,_,z=>exact nn hs (uu z)
  | 1,_,z=>exact nn sbd (uu z)
  | 2,_,z=>exact nt (uu z)
 symm;refine GP (SqL.of hl) fun u1 hu1=>?_;refine fresh hu1 fun H1 s1 t1=>?_;have t1:H1 u1=some (.lst (wvS [nW bd,tW (1,a,b,n)])):=t1;have l1:=s1 _ _ hl;symm;refine GP (SqL.of l1) fun u2 hu2=>?_;refine fresh hu2 fun H2 s2 t2=>?_;have t2:H2 u2=some (.lst (wvS [nW bm,tW (1,c,e,y)])):=t2;have l2:=s2 _ _ l1;have k2:=s2 _ _ t1;symm;exists⟨u1,_,rfl,.inl (SqL.of k2),?_⟩;refine CJ (by show ¬(2:Int)<1;decide) ?_;symm;exists⟨u2,_,rfl,.inl (SqL.of t2),?_⟩;refine CJ (by show ¬(2:Int)<1;decide) ?_;symm;refine Bq (SqL.of l2) GC ?_;refine Ft ?_;refine⟨s',rfl,hs,fun H3 s3=>?_⟩;have k3:=s3 _ _ k2;have t3:=s3 _ _ t2;symm;refine Bq (SqL.of k3) GC ?_;refine Ft ?_;refine⟨bd,rfl,sbd,fun H4 s4=>?_⟩;have k4:=s4 _ _ k3;have t4:=s4 _ _ t3;symm;refine GP (SqL.of k4) fun u5 hu5=>?_;rw[show HW (wvS [nW bd,tW (1,a,b,n)]) (some 1) none=wvS [tW (1,a,b,n)] from Gu _ 1];refine fresh hu5 fun H5 s5 t5=>?_;refine Ft ?_;refine⟨u5,a,b,n,rfl,t5,o.sm,fun ld pd H6 s6 D6 P6=>?_⟩;have t6:=s6 _ _ (s5 _ _ t4);symm;refine Bq (SqL.of t6) GC ?_;refine Ft ?_;refine⟨bm,rfl,sbm,fun H7 s7=>?_⟩;have t7:=s7 _ _ t6;symm;refine GP (SqL.of t7) fun u8 hu8=>?_;rw[show HW (wvS [nW bm,tW (1,c,e,y)]) (some 1) none=wvS [tW (1,c,e,y)] from Gu _ 1];refine fresh hu8 fun H8 s8 t8=>?_;refine Ft ?_;refine⟨u8,c,e,y,rfl,t8,o'.sm,fun lm pm H9 s9 M9 Q9=>?_⟩;have s69:=s7.trans (s8.trans s9);symm;refine fun y1 dy hy hdy ne=>Xd hy hdy ne (.cons (s69 _ _ P6) .nil) (.inr ⟨ld,rfl,s69 _ _ D6⟩) o.tm (by show 1<=6;decide) (o8 gd.fd gd.gd) (Xw o.tm gd.fd (by rw[ak o.n0];have:=o.n0;lia)) fun H10 s10 N10=>⟨rfl,?_⟩;clear hy hdy ne;symm;refine fun y2 dy hy hdy ne=>Xd hy hdy ne (.cons (s10 _ _ Q9) .nil) (.inr ⟨lm,rfl,s10 _ _ M9⟩) o'.tm (by show 1<=6;decide) (o8 gd.fm (by lia)) (Xw o'.tm gd.fm (by rw[ak o'.n0];have:=o'.n0;lia)) fun H11 s11 O11=>⟨rfl,?_⟩;have N11:=N10.same s11;clear hy hdy ne;symm;refine fun x dx hx hdx ne=>jJ hx hdx ne N11 O11 gd bs fun H12 s12 S12=>⟨rfl,?_⟩;exact q x _ (((s1.trans s2).trans (s3.trans s4)).trans (((s5.trans s6).trans s69).trans ((s10.trans s11).trans s12))) S12
theorem Qg:C0 10 "read_calendar" ["text"] (lX K Bf BV Am):=by
 refine co' ["text","words"] QL fun nd H vs Q E hr h=>?_;obtain⟨g,rfl,o,q⟩:=h;obtain⟨sp,tl,tk⟩:=o.tx;refine⟨_,(Ab (Ay (Hj (GR (Af Ky (Aa (pv 0) Ac))))
  (Ad BX)
  Aq)
  (Ab (Aj 1 (Gn vt je1 je2 Mp (pv 0) (Aa Ah Ac)))
  (Ab (Ay (Ak Bk (pxL 1) Ah (An _))
   (Ad (Al (Af cF (Aa (Ck Ew (pv 1) (Cr Ae) El) Ac))))
   Aq)
  (Ab (Ay (Ak Bk (pxL 1) Ah (An _))
   (Ad (Al (Af Zh (Aa (Ck Ew (pv 1) (Cr Ae) El) Ac))))
   Aq)
  (Ad BX))))),?_⟩
 symm;refine⟨_,rfl,tk,by rw[DR];lia,?_⟩;symm;exists Dz ?_;exists Js ?_;exists⟨rfl,?_⟩;refine⟨_,32,rfl,by rw[show Str.ofString " "=⟨#[32]⟩ from by ac_rfl],by decide,tk.len,fun l hl=>?_⟩;refine fresh hl fun H1 s1 t1=>?_;have t1:H1 l=some (.lst (wvS (wdC g))):=by rw[t1,aB,Bh,sp,ua];rfl
 symm;exists Bq (SqL.of t1) GC ?_;have ec:HW (wvS (wdC g)) (some 1) none=wvS (wC g):=Gu _ 1;cases hg:ACW g with
 | true=>
  have hh:hC g="sun":=by cases g with
   | sun=>rfl
   | moon=>cases hg
  rw[hh];exists Hn (HH _) ?_;refine GP (SqL.of t1) fun u hu=>?_;rw[ec];refine Ft ?_;exact⟨u,g,rfl,Ai,hh,o,fun x H3 s3 C=>q x _ ((s1.trans (Ar hu _)).trans s3) C⟩
 | false=>
  have hh:hC g="moon":=by cases g with
   | sun=>cases hg
   | moon=>rfl
  rw[hh];exists CJ (X5 (by ac_rfl)) ?_;exists Bq (SqL.of t1) GC ?_;rw[hh];exists Hn (HH _) ?_;refine GP (SqL.of t1) fun u hu=>?_;rw[ec];refine Ft ?_;exact⟨u,g,rfl,Ai,hh,o,fun x H3 s3 C=>q x _ ((s1.trans (Ar hu _)).trans s3) C⟩
theorem TQ:C0 1 "words_of_row" ["row"] yH:=by
 refine co' ["row","words","form","wanted"] RP fun nd H vs Q E hr h=>?_;obtain⟨R,rfl,ok,q⟩:=h;have tok:=R.tok ok;obtain⟨rs,eh⟩:=R.head;have e32:Str.ofString " "=⟨#[32]⟩:=by ac_rfl
 refine⟨_,(Ab (Ay (Hj (GR (BL S8 rfl Iz ji2 (Aa (pv 0) (Aa (W8 rfl Df qr (aX _)) Ac)))))
  (Ad BX)
  Aq)
  (Ab (Aj 1 (Gn vt je1 je2 Mp (pv 0) (Aa Ah Ac)))
  (Ab (Ay (W4 (bC (pxL 1) (By rfl GF.m (G3 _))))
   (Ad BX)
   Aq)
  (Ab (Aj 2 (Rv (By rfl GF.m (G3 _)) (pxL 1) (fun _ _=>rfl)))
  (Ab (Fe (Ay (Ak Bk (Dp LQ (pv 2) (Fx Ed Ae) (fun _ _=>rfl)) Ah (An _))
   (Ad (Aj 1 (Gn vt je1 je2 iZ (pv 0) (Aa Ah (Aa (BL Bj rfl Do xi (Aa (pv 2) Ac)) Ac)))))
   Aq))
  (Ab (Aj 3 (Ag Be (BL Bj rfl Do xi (Aa (pv 2) Ac)) Ae))
  (Ab (Ay (PW.pt (Hi (Ak Eu (BL Bj rfl Do xi (Aa (pv 1) Ac)) (pv 3) (An _)) (GQ (PW.pt (K7 (Ak FW (BL Bj rfl Do xi (Aa (pv 1) Ac)) (pv 3) (An _)) (JF (Ak Gp (pxL 1) Ah (An _))))))))
   (Ad BX)
   Aq)
  (Ad (Al (pv 1)))))))))),?_⟩
 symm;exists aZ (.txt _ tok) ?_;exists Dz ?_;exists Js ?_;exists⟨rfl,?_⟩;refine⟨_,32,rfl,by rw[e32],by decide,tok.len,fun l hl=>?_⟩;refine fresh hl fun H1 s1 t1=>?_;rw[aB,Bh,eh,zn,zn,Jq] at t1;symm;unfold dC;symm;exists Bq (SqL.of t1) GC ?_;refine⟨_,_,.inr R.hd,rfl,GF.d,rfl,?_⟩;rw[SX];exists⟨_,rfl,Dz ?_⟩;unfold aA;symm;exists Bq (SqL.of t1) GC ?_;exists⟨_,_,.inr R.hd,_,rfl,GF.d,rfl,SX _ R,?_⟩;refine FP (fun Z' H'=>Az H H'/\∃l',An3 (H l'=none) (Z'=[some (.str (sW R.T)),some (.ref l'),some (.ref (ZD R.fi)),none]) (H' l'=some (.lst (.str R.hd::wkV R.ws)))) ?_ ?_
 ·symm;rcases R.kind ok with ⟨nm,w,hn,ew⟩ | ⟨e1,z,hz,e2⟩
  ·have fs:=GF.s R;rw[ew] at fs;exists Av (fs _) (show _=some (V.str "TEXT") from rfl) ?_;exists Hn rfl ?_;exists Js ?_;exists⟨rfl,?_⟩;exists⟨_,_,rfl,.inr (fs _),?_⟩;refine⟨_,32,cpl R.hd,nm,w,rfl,by rw[e32];rfl,by decide,?_,fun y=>((Xf R).1 32 y).2 rfl,fun y=>by have:=(Ht.wc hn).2 32 y;unfold wch at this;lia,tok.len,fun l2 h2=>fresh h2 fun H2 s2 t2=>?_⟩
   ·show cpl (sW R.T)=_;rw[Bh];unfold Row.T;rw[ew];rfl
   symm;refine⟨s1.trans s2,l2,s1.free h2,rfl,?_⟩;rw[t2,ew];exact yk (fun z=>some (HO.lst (V.str z::_))) (Jq R.hd)
  ·exists Av (GF.s R _) e2 ?_;exists CJ (fun y=>hz (V.str.inj y)) ?_;refine⟨s1,l,hl,rfl,?_⟩;rw[eh] at e1;rw[t1,(List.cons.inj e1).2];unfold wkV;rw[ua,ua];rfl
 rintro Z' H2 ⟨s2,l',hl',rfl,t2⟩;have ln:((V.str R.hd::wkV R.ws).length:Int)=((R.ws.map fun w=>V.str w.k).length:Int)+1:=by unfold wkV;rw[qo,js,js];lia
 symm;exists⟨_,_,rfl,.inr (GF.s R _),?_⟩;exists⟨_,_,rfl,.inl (SqL.of t2),?_⟩;rw[ln];exists CJ (by lia) ?_;exists⟨_,_,rfl,.inl (SqL.of t2),?_⟩;rw[ln];refine CJ (by lia) ?_;exists Dz ?_;exact q l' H2 hl' s2 t2
theorem Vx:C0 1 "kept_by" ["kept","name"] yQ:=by
 refine co' ["kept","name"] iG fun nd H vs Q E hr h=>?_;obtain⟨a,kv,nm,v,rfl,ha,hv,q⟩:=h;have dg:U5 H a (.str (sW nm)) (some v):=by rw[<-hv];exact U5.k (k:=.inr (sW nm)) ha
 refine⟨_,(Ab (Ay (W4 (VR (fH hr) (pv 1) (pv 0)))
  (Ad BX)
  Aq)
  (Ad (Al (d8 (fH hr) (pv 0) (pv 1) (fun _ _=>rfl))))),?_⟩
 symm;unfold WN;symm;refine⟨a,_,rfl,dg,?_⟩;refine⟨_,rfl,?_⟩;exists Dz ?_;unfold lB;symm;exact⟨a,v,rfl,dg,q⟩
theorem Zi:C0 1 "read_date" ["text"] ABY:=co (st:=Yi) (by walk_at"g") (by walk_at"b") fun _=>⟨fun _ _ _ _ h=>h.elim,fun _ _ _ _ _ _ _ _ _ _ _ _ _ h=>h.elim⟩
theorem Zo:C0 3 "looked_up" ["desk","kind","word"] (yO Cv):=by
 refine co' ["desk","kind","word"] Ym fun nd H vs Q E hr h=>?_;obtain⟨x,kv,k,rfl,ok,⟨dx,a,r,hx,hr'⟩,hn,q⟩:=h;have ne:∀{a b:String},decide (Str.ofString a=Str.ofString b)=false->V.str (Str.ofString a)≠V.str (Str.ofString b):=fun h z=>of_decide_eq_false h (V.str.inj z);refine⟨_,(Ab (Ay (PW.pt (K7 (Ak Bk (pv 1) Ah (An _)) (JF (Hj (GR (Af Vy (Aa (pv 2) Ac)))))))
  (Ad BX)
  Aq)
  (Ab (Ay (Ak Bk (pv 1) Ah (An _))
   (Ad (Al (Af Vx (Aa (Bl (pv 0) (by rfl)) (Aa (pv 2) Ac)))))
   Aq)
  (Ab (Ay (Ak Bk (pv 1) Ah (An _))
   (Ad (Al (Af Vx (Aa (Bl (pv 0) (by rfl)) (Aa (pv 2) Ac)))))
   Aq)
  (Ab (Ay (Ak Bk (pv 1) Ah (An _))
   (Ad (Al (Af Eh (Aa (pv 2) Ac))))
   Aq)
  (Ab (Ay (Ak Bk (pv 1) Ah (An _))
   (Ad (Al (Af Zi (Aa (pv 2) Ac))))
   Aq)
  (Ad (Al (pv 2)))))))),?_⟩
 symm;cases k with
 | nm n=>
  exists Hn rfl ?_;refine⟨_,rfl,⟨Fq.mpr (by rw[Bh];exact(Wk.box ok).1),by rw[DR];have:=(Wk.box ok).2.1;lia⟩,fun v H1 s1 hv=>?_⟩;rw[hv.mpr (by rw[Bh];exact ok)];exists⟨_,rfl,Dz ?_⟩;exists CJ (ne (by ac_rfl)) ?_;exists CJ (ne (by ac_rfl)) ?_;exists CJ (ne (by ac_rfl)) ?_;exists CJ (ne (by ac_rfl)) ?_;exact q _ _ s1 rfl
 | tx d=>
  refine CJ (ne (by ac_rfl)) ?_;exists Dz ?_;exists CJ (ne (by ac_rfl)) ?_;exists CJ (ne (by ac_rfl)) ?_;exists CJ (ne (by ac_rfl)) ?_;exists CJ (ne (by ac_rfl)) ?_;exact q _ _ (Az.refl _) rfl
 | ru n=>
  obtain⟨v,hv⟩:=hn n rfl;refine CJ (ne (by ac_rfl)) ?_;exists Dz ?_;exists CJ (ne (by ac_rfl)) ?_;exists Hn rfl ?_;exists⟨x,Cv,dx,_,_,rfl,hx,DX,Gr,rfl,?_⟩;exact⟨r,kv,n,v,rfl,hr',hv,q v _ (Az.refl _) hv⟩
 | nu i=>
  refine CJ (ne (by ac_rfl)) ?_;exists Dz ?_;exists CJ (ne (by ac_rfl)) ?_;exists CJ (ne (by ac_rfl)) ?_;exists Hn rfl ?_;exact⟨i,rfl,ok,fun H1 s1=>q _ _ s1 rfl⟩
theorem Uy:C0 2 "named_rules" ["desk","names"] (rY Cv):=by
 refine co' ["desk","names"] Uk fun nd H vs Q E hr h=>?_;obtain⟨x,l,rfl,hl,q⟩:=h;exists⟨_,(Ad (Al (FT rfl (Ez ["desk","names"] ["desk","names"] rfl rfl (by with_unfolding_all rfl) (by ac_rfl) rfl (by ac_rfl) rfl (by ac_rfl) (by walk_at"fm") (by with_unfolding_all rfl) (by with_unfolding_all rfl)) (Gj (pv 1)) (fun _ _ _ _=>Ep) (fun _ _ _ _=>ABz)))),?_⟩;exists GD (Jr ?_);refine⟨l,rfl,⟨_,SqL.of hl⟩,?_⟩;refine Hx (Ng (xs:=[])) (by show 0<sizeLine;decide) ?_ (fun _=>true) (fun _=>V.non) (fun x hx=>nomatch hx) (fun x hx=>nomatch hx) (fun D hD=>?_)
 ·exact fun D ys hD=>SqL.of (by rw[Ax (Bm hl hD)];exact hl)
 ·refine fresh hD fun H1 s1 t1=>?_;exact q D H1 hD s1 t1
theorem ji:C0 20 "tell_on" ["given"] (ABU K BR CL):=by
 refine co' ["given"] gr fun nd H vs Q E hr h=>?_;obtain⟨l,y,n,d,b,rfl,hl,R,q⟩:=h;exists⟨_,(Ad (Al (Dh (GR (Ru pY (hr.mono (by decide)) (pxL 0) (Aa (pxL 0) Ac))) Ah Ah))),?_⟩
 try refine N7 ?_
 symm;exists Bq (SqL.of hl) GC ?_;obtain⟨C,dr,fs,m,hr,_,_,l3⟩:=R.mt;exists⟨y,C,dr,fs,_,m _,rfl,hr,l3,?_⟩;exists Bq (SqL.of hl) Lb ?_;exists⟨jf7,y,n,d,b,rfl,R,?_⟩;cases hb:On n b d with
 | true=>
  rw[hb] at q;exists Ek ?_;exact q
 | false=>
  rw[hb] at q;exists Dz ?_;exact q
theorem J9:C0 1 "day_or_never" ["day"] rW:=by
 refine co' ["day"] RZ (len:=by intro _ _ _ _ h;obtain⟨r,rfl,_⟩:=h;cases r<;>rfl) fun nd H vs Q E hr h=>?_;obtain⟨r,rfl,o,q⟩:=h;exists⟨_,(Ad (Al (Dh (Ak Hk (pv 0) Ff (An _)) Ah (BW BJ rfl Df qr (Aa (pv 0) Ac))))),?_⟩
 try refine N7 ?_
 symm;exists⟨rfl,?_⟩;cases r with
 | none=>
  exists Ek ?_;exact q
 | some i=>
  exists Dz ?_;refine⟨_,rfl,o i rfl,?_⟩;have q:Q (.str (sW (nW i))) H:=q
  rwa [show sW (nW i)=Cy i from Jq _] at q
theorem Zb:C0 20 "tell_next" ["given"] (lR K BR CL Ld):=by
 refine co' ["given"] YW fun nd H vs Q E hr h=>?_;obtain⟨l,y,n,d,b,rfl,hl,R,sd,g⟩:=h;have n1:=R.n1;exists⟨_,(Ad (Al (Af J9 (Aa (Af cH (Aa (Bv Br (pxL 0)) (Aa (pxL 0) Ac))) Ac)))),?_⟩;exists Bq (SqL.of hl) GC ?_;obtain⟨C,dr,fs,m,hr,l1,_⟩:=R.mt;exists⟨y,C,dr,fs,_,m _,rfl,hr,l1,?_⟩;exists⟨jf7,y,n,b,rfl,R,fun p hp=>?_⟩;exists Bq (SqL.of hl) Lb ?_;refine⟨p,n,d,b,rfl,SqT.of hp,R.n0,R.n1,R.lt,dU sd,fun no H1 s1=>?_,fun r H1 s1 r1 r2 r3=>?_⟩
 ·symm;exact⟨none,rfl,(fun _ z=>nomatch z),g.1 no H1 s1⟩
 ·have N:Ld (On n b) d r:=⟨r1,r2,r3⟩;have:=Vb R.n0 N;symm;exact⟨some r,rfl,fun _ z=>by cases z;exact eX sd (by lia) (by lia),g.2 r H1 s1 N⟩
theorem Zc:C0 20 "tell_last" ["given"] (lR K BR CL Jc):=by
 refine co' ["given"] YX fun nd H vs Q E hr h=>?_;obtain⟨l,y,n,d,b,rfl,hl,R,sd,g⟩:=h;have n1:=R.n1;exists⟨_,(Ad (Al (Af J9 (Aa (Af cI (Aa (Bv Br (pxL 0)) (Aa (pxL 0) Ac))) Ac)))),?_⟩;exists Bq (SqL.of hl) GC ?_;obtain⟨C,dr,fs,m,hr,l1,_⟩:=R.mt;exists⟨y,C,dr,fs,_,m _,rfl,hr,l1,?_⟩;exists⟨jf7,y,n,b,rfl,R,fun p hp=>?_⟩;exists Bq (SqL.of hl) Lb ?_;refine⟨p,n,d,b,rfl,SqT.of hp,R.n0,R.n1,R.lt,dU sd,fun no H1 s1=>?_,fun r H1 s1 r1 r2 r3=>?_⟩
 ·symm;exact⟨none,rfl,(fun _ z=>nomatch z),g.1 no H1 s1⟩
 ·have N:Jc (On n b) d r:=⟨r1,r2,r3⟩;have:=Vc R.n0 N;symm;exact⟨some r,rfl,fun _ z=>by cases z;exact eX sd (by lia) (by lia),g.2 r H1 s1 N⟩
theorem Xn:C0 20 "tell_count" ["given"] (yG K BR CL):=by
 refine co' ["given"] Wn fun nd H vs Q E hr h=>?_;obtain⟨l,y,n,d,e,b,rfl,hl,R,sd,se,q⟩:=h;exists⟨_,(Ad (Al (BW BJ rfl Df qr (Aa (Af TX (Aa (Bv Br (pxL 0)) (Aa (pxL 0) (Aa (pxL 0) Ac)))) Ac)))),?_⟩;exists Bq (SqL.of hl) GC ?_;obtain⟨C,dr,fs,m,hr,l1,_⟩:=R.mt;exists⟨y,C,dr,fs,_,m _,rfl,hr,l1,?_⟩;exists⟨jf7,y,n,b,rfl,R,fun p hp=>?_⟩;exists Bq (SqL.of hl) Lb ?_;exists Bq (SqL.of hl) Xu ?_;exists⟨p,n,d,e,b,rfl,SqT.of hp,R.n0,R.n1,R.lt,(dU sd).mono (by decide),(dU se).mono (by decide),fun H1 s1=>?_⟩;refine⟨_,rfl,AAZ R.n0 sd se,?_⟩;have:=q H1 s1
 rwa [show sW (nW (CC n b e-CC n b d))=Cy (CC n b e-CC n b d) from Jq _] at this
theorem Qo:CI0 1 "Desk" Cv ["self"] (yW K ⟨Cv,Bf,BV,Am,BR,CL⟩):=by
 refine ci' ["self"] QW fun nd H vs Q E hr h=>?_;obtain⟨H0,x,dx,rfl,hx,hd,ne,rfl,q⟩:=h;refine⟨_,(Ab (Ex (pv 0) Yx (by rfl))
  (Ad (Ex (pv 0) Yx (by rfl)))),?_⟩
 symm;intro d1 n1;symm;have a1:d1≠x:=fun z=>by rw[z,Ai] at n1;cases n1
 have a2:d1≠dx:=fun z=>by rw[z,Ax ne,Ai] at n1;cases n1
 have n1':H0 d1=none:=by rw[Ax a1,Ax a2] at n1;exact n1
 refine⟨x,Cv,dx,[],rfl,by rw[Ax a1.symm];exact Ai,DX,Fg,by decide,?_⟩;symm;intro d2 n2;symm;have b1:d2≠x:=fun z=>by rw[z,Ai] at n2;cases n2
 have b2:d2≠d1:=fun z=>by rw[z,Ax a1,Ai] at n2;cases n2
 have b3:d2≠dx:=fun z=>by rw[z,Ax ne,Ax a2.symm,Ax ne,Ai] at n2;cases n2
 have n2':H0 d2=none:=by rw[Ax b1,Ax b2,Ax b1,Ax b3] at n2;exact n2
 refine⟨x,Cv,dx,_,rfl,by rw[Ax b1.symm];exact Ai,DX,Gr,(by show 1<1000;decide),?_⟩;refine q _ (fun y u e=>?_) ⟨dx,d1,d2,[],Ai,?_,?_,ze _,b2,fun _ _ _ z=>nomatch z⟩
 ·have c1:y≠x:=Bm e hx;rw[Ax c1,Ax (Bm e n2'),Ax c1,Ax (Bm e n1'),Ax c1,Ax (Bm e hd)];exact e
 ·show _=_;rw[Ax a1,Ax b2.symm,Ax a1];exact Ai
 ·rw[Ax b1];exact Ai
theorem M8:CI0 1 "Change" pZ ["self","old","new","day"] ABY:=ci (st:=Ly) (by walk_at"k") (by walk_at"k") (by walk_at"k") (by walk_at"h") (by walk_at"b") fun _=>⟨fun _ _ _ _ h=>h.elim,fun _ _ _ _ _ _ _ _ _ _ _ _ _ h=>h.elim⟩
theorem AAc:C0 133 "keep" ["desk","word","given"] (yR K ⟨Cv,Bf,BV,Am,BR,CL⟩):=by
 refine co' ["desk","word","given","name"] yo (len:=by intro _ _ _ _ h;obtain⟨x,l,c,j,m,D,lb,⟨g,rfl,_⟩ | ⟨nm,p,g,rfl,_⟩⟩:=h<;>rfl) fun nd H vs Q E hr h=>?_;obtain⟨x,l,c,j,m,DK,lb,h⟩:=h;obtain⟨dx,a,r,kv,hx,hc,hk,lk,na,hm⟩:=DK.ex;refine⟨_,(Ab (Aj 3 (pxL 2))
  (Ab (Fe (Ay (Ak Bk (pv 1) Ah (An _))
   (Ad (W5 (yv (jk2 (by decide:1<=64) _) hr.units) (Bl (pv 0) (by rfl)) (pv 3) (Af Qg (Aa (pxL 2) Ac)) rfl))
   (Ad (Fe (Ay (Ak Bk (pv 1) Ah (An _))
   (Ad (W5 (yv (jk2 (by decide:1<=64) _) hr.units) (Bl (pv 0) (by rfl)) (pv 3) (Fy M8 (Aa (pxL 2) (Aa (pxL 2) (Aa (pxL 2) Ac)))) rfl))
   (Ad (W5 (yv (jk2 (by decide:1<=64) _) hr.units) (Bl (pv 0) (by rfl)) (pv 3) (Af Zg (Aa (pxL 2) (Aa (Bl (pv 0) (by rfl)) Ac))) rfl)))))))
  (Ad (Al Ah)))),?_⟩
 rcases h with ⟨g,rfl,hl,o,rfl,q⟩ | ⟨nm,p,g,rfl,hl,rfl,D0,fi,q⟩
 ·symm;exists Bq (SqL.of hl) GC ?_;refine FP (fun _ H'=>Q (.str "ok") H') ?_ (fun Z' H' h=>by symm;exact h);symm;refine Hn rfl ?_;unfold mR;symm;exists Bq (SqL.of hl) Lb ?_;exists⟨g,rfl,o,fun y H1 s1 C1=>?_⟩;exists⟨x,Cv,dx,_,_,rfl,s1 _ _ hx,DX,Fg,rfl,?_⟩;have h0:=s1 _ _ hc;have kd:=Kd.put h0 (kv':=putK [] (.inr (sW (sg "c"))) (.ref y));refine⟨a,_,rfl,jt.k (k:=.inr (sW (sg "c"))) h0 (by decide),q _ ((Kd.of s1).trans kd) ⟨dx,a,r,kv,kd.ins (s1 _ _ hx),⟨_,y,Ai,rfl,Et.kd kd C1⟩,by rw[Ax na];exact s1 _ _ hk,lk,na,fun nm n b e=>?_⟩⟩;obtain⟨y',g1,g2⟩:=hm nm n b e;exact⟨y',g1,(g2.same s1).kd kd⟩
 ·symm;exists Bq (SqL.of hl) GC ?_;refine FP (fun _ H'=>Q (.str "ok") H') ?_ (fun Z' H' h=>by symm;exact h);symm;refine CJ (fun z=>absurd (V.str.inj z) (by ac_rfl)) ?_;exists FP (fun _ H'=>Q (.str "ok") H') ?_ (fun Z' H' h=>h);refine CJ (fun z=>absurd (V.str.inj z) (by ac_rfl)) ?_;unfold mR;symm;exists Bq (SqL.of hl) Lb ?_;exists⟨x,Cv,dx,_,_,rfl,hx,DX,Fg,rfl,?_⟩;exists⟨a,p,g,rfl,fi.ok,fi.kn,fi.tl,fi.dp,fi.mn,D0,hc,fi.sz,fun y H1 s1 R E=>?_⟩;exists⟨x,Cv,dx,_,_,rfl,s1 _ _ hx,DX,Gr,rfl,?_⟩;have h0:=s1 _ _ hk;have kd:=Kd.put h0 (kv':=putK kv (.inr (sW nm)) (.ref y));have sp:=PT.sz_pos D0 fi.ok;refine⟨r,_,rfl,jt.k (k:=.inr (sW nm)) h0 (yv lk (yv lb (by decide))),q _ ((Kd.of s1).trans kd) ⟨dx,a,r,_,kd.ins (s1 _ _ hx),?_,Ai,zv (Jx _ _ _) (by lia),na,fun k n b' e=>?_⟩ E⟩
  ·obtain⟨kv',y',e1,e2,e3⟩:=hc;exact⟨kv',y',by rw[Ax (Ne.symm na)];exact s1 _ _ e1,e2,Et.kd kd (Et.same e3 s1)⟩
  ·unfold setM at e;rw[j9];split at e
   ·rename_i z
    subst z;cases e;exact⟨y,xh rfl,by rw[jh0 (by lia)];exact R.kd kd⟩
   ·rename_i z
    obtain⟨y',g1,g2⟩:=hm k n b' e;exact⟨y',by rw[xk fun w=>z (by have:=yk cpl (Sum.inr.inj w);rwa [Bh,Bh] at this)];exact g1,(g2.same s1).kd kd⟩
theorem Gw:CM0 134 Cv "say" ["self","row"] (wR K ⟨Cv,Bf,BV,Am,BR,CL⟩):=by
 refine cm' ["self","row","words","form","given"] aW fun nd H vs Q E hr h=>?_;obtain⟨x,c,j,m,R,rfl,ok,DK,lb,SQ⟩:=h;obtain⟨dx,a,r,kv,hx,hc,hk,lk,na,hm⟩:=DK.ex;have nn:∀{nm n b},m nm=some (n,b)->∃v,Fv kv (.inr (sW nm))=some v:=fun e=>by
  obtain⟨y,h1,_⟩:=hm _ _ _ e;exact⟨_,h1⟩
 have en:∀n,.ru n∈R.ws->∃v,Fv kv (.inr (sW n))=some v:=fun n hn=>by
  cases R with
  | cal=>simp[Row.ws] at hn
  | rule=>simp[Row.ws] at hn
  | _=>
   obtain⟨_,_,e,_⟩:=SQ;simp[Row.ws] at hn;exact hn ▸ nn e
 have dk:DkH Cv H x kv:=⟨dx,a,r,hx,hk⟩;refine⟨_,(Ab (Aj 2 (Af TQ (Aa (pv 1) Ac)))
  (Ab (Aj 3 (Rv (By rfl GF.m (G3 _)) (pxL 2) (fun _ _=>rfl)))
  (Ab (O7 (i:=4) nd rfl (by walk_at"o") (xs:=["kind","word"]) rfl (Ie ["kind","word"] ["self","row","words","form","given"] ["self","row","words","form","given"] rfl rfl (by with_unfolding_all rfl) (by ac_rfl) rfl (by ac_rfl) (by ac_rfl) (by ac_rfl) (by walk_at"fm") (by with_unfolding_all rfl) (by with_unfolding_all rfl)) (uH rfl wD (Aa (pv 3) (Aa (Ck Ew (pv 2) (Cr Ae) El) Ac))) (fun _ _ _ _=>Ep) (fun _ _ _ _=>(Yw (n:=2) rfl (Dv (Cg (i:=0) (show (["kind","word","self","row","words","form","given"]:List Str).Nodup from by ac_rfl) rfl (by walk_at"o")) (Dv (Cg (i:=1) (show (["kind","word","self","row","words","form","given"]:List Str).Nodup from by ac_rfl) rfl (by walk_at"o")) JH)))) (fun _ _ _ _=>(Af Zo (Aa (pv 2) (Aa (pv 0) (Aa (pv 1) Ac))))))
  (Ab (Bc (Gn kz jd0 jd1 Il (pv 4) (Aa (Af Uy (Aa (pv 0) (Aa (Ck Ew (pv 2) (Cr (Ag Be (BL Bj rfl Do xi (Aa (pv 3) Ac)) Ae)) El) Ac))) Ac)))
  (Ab (Ay (W4 (uN (pxL 2) (By rfl Er.m (G3 _))))
   (Ad (Al (nH (k:=20) (Hr.cons ji (Hr.cons Zb (Hr.cons Zc (Hr.cons Xn Hr.nil)))) (hr.mono (by decide)) (Rv (By rfl Er.m (G3 _)) (pxL 2) (fun _ _=>rfl)) (Aa (pv 4) Ac))))
   Aq)
  (Ad (Al (Af AAc (Aa (pv 0) (Aa (pxL 2) (Aa (pv 4) Ac))))))))))),?_⟩
 symm;exists⟨R,rfl,ok,fun l H1 hl s1 t1=>?_⟩;unfold aA;symm;exists Bq (SqL.of t1) GC ?_;exists⟨_,_,.inr R.hd,_,rfl,GF.d,rfl,SX _ R,?_⟩;exists Yu (tV ?_);refine GP (SqL.of t1) fun u hu=>?_;rw[show HW (V.str R.hd::wkV R.ws) (some 1) none=wkV R.ws from Gu _ 1];exists fresh hu fun H2 s2 t2=>?_;have s02:=s1.trans s2;refine⟨_,u,rfl,⟨_,_,GF.s R _,SqL.of t2⟩,?_⟩;refine jZ (kv:=kv) (GF.s R) t2 (yv R.few.2 (by decide)) (fun k hk' H3 Q3 s3 q3=>?_) (fun D H3 vs hD s3 t3 g=>?_)
 ·symm;exact⟨x,kv,k,rfl,ok k hk',dk.same (s02.trans s3),fun n e=>en n (e ▸ hk'),q3⟩
 symm;have s03:=s02.trans s3;exists OD rfl t3 ?_;exists⟨_,_,rfl,.inr (GF.s R _),?_⟩;have t1':=s3 _ _ (s2 _ _ t1);refine GP (SqL.of t1') fun u5 hu5=>?_;have e5:HW (V.str R.hd::wkV R.ws) (some (((R.ws.map fun w=>V.str w.k).length:Int)+1)) none=[]:=by
  have:=Gu (V.str R.hd::wkV R.ws) ((R.ws.map fun w=>V.str w.k).length+1);rw[ke,Int.natCast_one] at this;rw[this,uj (by unfold wkV;simp)]
 rw[e5];exists fresh hu5 fun H5 s5 t5=>?_;have s05:=s03.trans s5;refine⟨x,u5,rfl,t5,fun l6 H6 hl6 s6 t6=>?_⟩;have s06:=s05.trans s6;have tD:=s6 _ _ (s5 _ _ t3);symm;refine⟨D,l6,vs,[],rfl,rfl,tD,t6,by rw[jg3,Nat.add_zero,g.1];exact zv R.few.2 (by decide),?_⟩;rw[xz,xX tD];have t16:=s6 _ _ (s5 _ _ t1');have DK6:=DK.same s06;have rl:∀{nm n b v},m nm=some (n,b)->Fv kv (.inr (sW nm))=some v->∃y,v=.ref y/\De K BR CL H6 y (n:Int) b:=fun e e'=>by
  obtain⟨y,h1,h2⟩:=hm _ _ _ e;exact⟨y,uu (e'.symm.trans h1),h2.same s06⟩
 symm;unfold dC;symm;exists Bq (SqL.of t16) GC ?_;refine⟨_,_,.inr R.hd,rfl,Er.d,rfl,?_⟩;cases R with
 | cal g'=>
  exists⟨_,rfl,Dz ?_⟩;exists Bq (SqL.of t16) GC ?_;obtain⟨v0,ws0,rfl,e0,g1⟩:=GV.cons g;obtain⟨v1,rfl,e1⟩:=GV.one g1;cases e0;cases e1;obtain⟨o,ec,q⟩:=SQ;exact⟨x,D,c,j,m,DK6,lb,.inl ⟨g',rfl,tD,o,ec,fun H' k d=>q H' ((Kd.of s06).trans k) d⟩⟩
 | rule nm p=>
  exists⟨_,rfl,Dz ?_⟩;exists Bq (SqL.of t16) GC ?_;obtain⟨v0,ws0,rfl,e0,g1⟩:=GV.cons g;obtain⟨v1,rfl,e1⟩:=GV.one g1;cases e0;cases e1;obtain⟨D',ec,D0,fi,q⟩:=SQ;exact⟨x,D,c,j,m,DK6,lb,.inr ⟨nm,p,D',rfl,tD,ec,D0,fi,fun H' k d=>q H' ((Kd.of s06).trans k) d⟩⟩
 | on nm d=>
  exists⟨_,rfl,Ek ?_⟩;unfold Li;dsimp only;symm;exists Bq (SqL.of t16) GC ?_;exists⟨_,_,.inr "on",_,rfl,Er.d,rfl,rfl,_,_,_,rfl,.head _,Er.g3,?_⟩;obtain⟨n,b,e,q⟩:=SQ;obtain⟨v0,ws0,rfl,e0,g1⟩:=GV.cons g;obtain⟨v1,rfl,e1⟩:=GV.one g1;cases e1;obtain⟨y,rfl,R⟩:=rl e e0;exact⟨D,y,n,d,b,rfl,tD,R,q H6 s06⟩
 | next nm d=>
  exists⟨_,rfl,Ek ?_⟩;unfold Li;dsimp only;symm;exists Bq (SqL.of t16) GC ?_;exists⟨_,_,.inr "next",_,rfl,Er.d,rfl,rfl,_,_,_,rfl,.tail _ (.head _),Er.g4,?_⟩;obtain⟨n,b,e,q⟩:=SQ;obtain⟨v0,ws0,rfl,e0,g1⟩:=GV.cons g;obtain⟨v1,rfl,e1⟩:=GV.one g1;cases e1;obtain⟨y,rfl,R⟩:=rl e e0;exact⟨D,y,n,d,b,rfl,tD,R,ok (.nu d) (.tail _ (.head _)),q.later s06⟩
 | last nm d=>
  exists⟨_,rfl,Ek ?_⟩;unfold Li;dsimp only;symm;exists Bq (SqL.of t16) GC ?_;exists⟨_,_,.inr "last",_,rfl,Er.d,rfl,rfl,_,_,_,rfl,.tail _ (.tail _ (.head _)),Er.g5,?_⟩;obtain⟨n,b,e,q⟩:=SQ;obtain⟨v0,ws0,rfl,e0,g1⟩:=GV.cons g;obtain⟨v1,rfl,e1⟩:=GV.one g1;cases e1;obtain⟨y,rfl,R⟩:=rl e e0;exact⟨D,y,n,d,b,rfl,tD,R,ok (.nu d) (.tail _ (.head _)),q.later s06⟩
 | count nm d d'=>
  exists⟨_,rfl,Ek ?_⟩;unfold Li;dsimp only;symm;exists Bq (SqL.of t16) GC ?_;exists⟨_,_,.inr "count",_,rfl,Er.d,rfl,rfl,_,_,_,rfl,.tail _ (.tail _ (.tail _ (.head _))),Er.g7,?_⟩;obtain⟨n,b,e,q⟩:=SQ;obtain⟨v0,ws0,rfl,e0,g1⟩:=GV.cons g;obtain⟨v1,ws1,rfl,e1,g2⟩:=GV.cons g1;obtain⟨v2,rfl,e2⟩:=GV.one g2;cases e1;cases e2;obtain⟨y,rfl,R⟩:=rl e e0;exact⟨D,y,n,d,d',b,rfl,tD,R,ok (.nu d) (.tail _ (.head _)),ok (.nu d') (.tail _ (.tail _ (.head _))),fun H' s'=>q H' (s06.trans s')⟩
theorem CW:C0 1 "_law_cell_at" ["_law_script","_law_k"] (mG K):=by
 refine co' ["_law_script","_law_k"] Ul fun nd H vs Q E hr h=>?_;obtain⟨a,ns,k,rfl,hS,h0,hl,q⟩:=h;refine⟨_,(Ab (Ay (Ak Eu (pv 1) (BL Bj rfl Do xi (Aa (pv 0) Ac)) (An _))
  (Ad (Al (Dp FZ (pv 0) (pv 1) (fun _ _=>rfl))))
  Aq)
  (Ad (Al Ae))),?_⟩
 symm;exists⟨a,_,rfl,.inl hS,?_⟩;rw[js];refine CK (fun c=>?_) (fun c=>?_)
 ·symm;refine Bq hS (vX h0 c) ?_;exact q
 ·symm;have e:ns.getD k.toNat 0=0:=by
   simp[List.getD,jn2 (show ns.length<=k.toNat by lia)]
  rw[e] at q;exact q
theorem Kz:C0 1 "_law_common" ["_law_one","_law_other"] yZ:=by
 refine co' ["_law_one","_law_other","_law_a","_law_b"] Ws fun nd H vs Q E hr h=>?_;obtain⟨x,y,rfl,x0,x1,y0,y1,q⟩:=h;refine⟨_,(Ab (Aj 2 (pv 0))
  (Ab (Aj 3 (pv 1))
  (Ab (Ik PassesOwn.never (Ak Gp (pv 3) Ae (An _))
   (Ad (zK (i:=2) (j:=3) rfl nd rfl rfl (by decide) rfl rfl (Aa (pv 3) (Aa (Ag Bs (pv 2) (pv 3)) Ac)) (by with_unfolding_all rfl))))
  (Ad (Al (Ag CP (Ag Ba (pv 0) (pv 2)) (pv 1))))))),?_⟩
 symm;refine⟨fun m Z' H'=>H'=H/\∃u v:Int,Z'=[some (.int x),some (.int y),some (.int u),some (.int v)]/\0<u/\0<=v/\Int.gcd u v=Int.gcd x y/\v.toNat=m,⟨_,rfl,x,y,rfl,by lia,by lia,rfl,rfl⟩,?_⟩;rintro m Z' H' ⟨rfl,u,v,rfl,u0,v0,hg,rfl⟩;symm;by_cases hv:v=0
 ·subst hv;refine Hm rfl ?_;rw[Int.gcd_zero_right] at hg;obtain rfl:((Int.gcd x y:Nat):Int)=u:=by lia
  have gl:=bY (b:=y) (show 0<x by lia);have d0:=jf9 (show 0<=x by lia) (Zl u0);have d1:=je5 (Int.gcd x y:Int) (show 0<=x by lia);symm;exists Du (Fi u0 (by lia)) ?_;exists IV ?_;exact q
 ·refine oW (fun z=>hv (V.int.inj z)) ?_;exists⟨_,fun Z' H' hh=>hh,?_⟩;refine⟨_,_,rfl,?_⟩;have m0:=qk u hv;have m1:=qg u (show 0<v by lia);refine⟨(u%v).toNat,by lia,rfl,v,u%v,rfl,by lia,m0,?_,rfl⟩;rw[<-hg];exact ADc u v
theorem Zq:C0 1 "_law_moon" ["_law_a","_law_start"] rZ:=by
 refine co' ["_law_a","_law_start","_law_n","_law_part","_law_years","_law_more","_law_base","_law_many","_law_months","_law_words"] aN fun nd H vs Q E hr h=>?_;obtain⟨a,s',rfl,ss,q⟩:=h;have n0:=qk a (show (2:Int)≠0 by decide);have n1:=qg a (show (0:Int)<2 by decide);have y0:=qk (a/6) (show (2:Int)≠0 by decide);have y1:=qg (a/6) (show (0:Int)<2 by decide);have d0:=qk (a/36) (show (3:Int)≠0 by decide);have d1:=qg (a/36) (show (0:Int)<3 by decide);have m0:=qk (a/108) (show (3:Int)≠0 by decide);have m1:=qg (a/108) (show (0:Int)<3 by decide);have p0:=qk (a/2) (show 1+a%2+1≠0 by lia);have p1:=qg (a/2) (show 0<1+a%2+1 by lia);have c0:=qk (a/12) (show 1+a/6%2+1≠0 by lia);have c1:=qg (a/12) (show 0<1+a/6%2+1 by lia);have b0:=qk (a/324) (show 1+a%2≠0 by lia);have b1:=qg (a/324) (show 0<1+a%2 by lia);refine⟨_,(Ab (Aj 2 (Ag Be Ae (Ag Bs (pv 0) Ae)))
  (Ab (Aj 3 (Ag Bs (Ag Ba (pv 0) Ae) (Ag Be (pv 2) Ae)))
  (Ab (Aj 4 (Ag Be Ae (Ag Bs (Ag Ba (pv 0) Ae) Ae)))
  (Ab (Aj 5 (Ag Bs (Ag Ba (pv 0) Ae) (Ag Be (pv 4) Ae)))
  (Ab (Aj 6 (Ag Be Ae (Ag Bs (Ag Ba (pv 0) Ae) Ae)))
  (Ab (Aj 7 (Ag Be Ae (Ag Bs (Ag Ba (pv 0) Ae) Ae)))
  (Ab (Aj 8 (Ag CP (Ag Be (Ag CP (pv 4) (pv 7)) (pv 5)) (pv 2)))
  (Ab (Aj 9 (Ag Ao (Ag Ao (Ag Ao (Ag Ao (Ag Ao Ah (BW BJ rfl Df qr (Aa (pv 1) Ac))) Ah) (BW BJ rfl Df qr (Aa (pv 6) Ac))) Ah) (BW BJ rfl Df qr (Aa (pv 3) Ac))))
  (Ab (Aj 9 (Ag Ao (Ag Ao (Ag Ao (Ag Ao (Ag Ao (Ag Ao (pv 9) Ah) (BW BJ rfl Df qr (Aa (Ag Bs (Ag Ba (pv 0) Ae) (pv 2)) Ac))) Ah) (BW BJ rfl Df qr (Aa (pv 2) Ac))) Ah) (BW BJ rfl Df qr (Aa (pv 7) Ac))))
  (Ab (Aj 9 (Ag Ao (Ag Ao (Ag Ao (Ag Ao (pv 9) Ah) (BW BJ rfl Df qr (Aa (pv 5) Ac))) Ah) (BW BJ rfl Df qr (Aa (pv 4) Ac))))
  (Ad (Al (BK (Aa (pv 9) (Aa (Ag Be (Ag CP (pv 6) (pv 8)) (Ag CP (pv 3) (Ag Ba (pv 8) (pv 2)))) Ac))))))))))))))),?_⟩
 symm;refine IV ?_;generalize hn:1+a%2=n at*
 generalize hp:a/2%(n+1)=p at*
 generalize hy:1+a/6%2=y at*
 generalize hc:a/12%(y+1)=c at*
 generalize hbd:1+a/36%3=bd at*
 generalize hbm:1+a/108%3=bm at*
 generalize hb:a/324%n=b at*
 have o:Ok1 p b n:=⟨by lia,by lia,by lia,by lia,by lia,by lia⟩;have o':Ok1 c 0 y:=⟨by lia,by lia,by lia,by lia,by lia,by lia⟩;have ok:OkC (.moon s' bd [(1,p,b,n)] bm [(1,c,0,y)]):=.moon ss (by lia) (by lia) o (by lia) (by lia) (by lia) o' (by lia);have h1:1*1<=y*bm:=vb (by lia) (by lia) (by decide) (by lia);have h2:y*bm<=2*3:=vb (by lia) (by lia) (by lia) (by decide);have sp:Sm p:=sm1 (by lia) (by lia);have sb:Sm b:=sm1 (by lia) (by lia);have sn:Sm n:=sm1 (by lia) (by lia);have sc:Sm c:=sm1 (by lia) (by lia);have sy:Sm y:=sm1 (by lia) (by lia);have sbd:Sm bd:=sm1 (by lia) (by lia);have sbm:Sm bm:=sm1 (by lia) (by lia);symm;exists IV ?_;refine⟨_,rfl,Cj ss,?_⟩;have Z:=(Lg.s "moon ").ap (.n ss);exists⟨_,_,rfl,rfl,Z.le,?_⟩;have Z:=Z.aps " ";exists⟨_,_,rfl,rfl,Z.le,?_⟩;refine⟨_,rfl,Cj sbd,?_⟩;have Z:=Z.ap (.n sbd);exists⟨_,_,rfl,rfl,Z.le,?_⟩;have Z:=Z.aps " +";exists⟨_,_,rfl,rfl,Z.le,?_⟩;refine⟨_,rfl,Cj sp,?_⟩;have Z:=Z.ap (.n sp);exists⟨_,_,rfl,rfl,Z.le,?_⟩;have Z:=Z.aps ",";exists⟨_,_,rfl,rfl,Z.le,?_⟩;rw[hb];refine⟨_,rfl,Cj sb,?_⟩;have Z:=Z.ap (.n sb);exists⟨_,_,rfl,rfl,Z.le,?_⟩;have Z:=Z.aps ",";exists⟨_,_,rfl,rfl,Z.le,?_⟩;refine⟨_,rfl,Cj sn,?_⟩;have Z:=Z.ap (.n sn);exists⟨_,_,rfl,rfl,Z.le,?_⟩;have Z:=Z.aps " / ";exists⟨_,_,rfl,rfl,Z.le,?_⟩;refine⟨_,rfl,Cj sbm,?_⟩;have Z:=Z.ap (.n sbm);exists⟨_,_,rfl,rfl,Z.le,?_⟩;have Z:=Z.aps " +";exists⟨_,_,rfl,rfl,Z.le,?_⟩;refine⟨_,rfl,Cj sc,?_⟩;have Z:=Z.ap (.n sc);exists⟨_,_,rfl,rfl,Z.le,?_⟩;have Z:=Z.aps ",0,";exists⟨_,_,rfl,rfl,Z.le,?_⟩;refine⟨_,rfl,Cj sy,?_⟩;have Z:=Z.ap (.n sy);refine⟨_,_,rfl,rfl,Z.le,?_⟩;have eR:=Z.eq (AAp s' bd p b n bm c y).symm;clear Z;have hM:(y*bm+c)*n/n=y*bm+c:=Int.mul_ediv_cancel _ (by lia);have h3:1*1<=(y*bm+c)*n:=vb (by lia) (by lia) (by decide) (by lia);have h4:(y*bm+c)*n<=8*2:=vb (by lia) (by lia) (by lia) (by decide);symm;exists IV ?_;refine Du (Fi (by lia) (by lia)) ?_;rw[hM];exists IV ?_;have e:dyC (.moon s' bd [(1,p,b,n)] bm [(1,c,0,y)])=bd*((y*bm+c)*n)+p*(y*bm+c):=by
  show(bm*(y+0)+(c+0))*(bd*(n+0)+(p+0))=_;simp only[jc9];rw[Zp,Zs bm y,Zs _ p,jm3]
 refine⟨HQ,fun t ht=>?_⟩;have:=q _ t (upd H t (.tup [.str (sW (Ir (.moon s' bd [(1,p,b,n)] bm [(1,c,0,y)]))),.int (dyC (.moon s' bd [(1,p,b,n)] bm [(1,c,0,y)]))])) (Ar ht _) ⟨ok,Ai⟩;rw[e,<-eR] at this;exact this
theorem Qi:C0 2 "_law_calendar" ["_law_script"] (yd K):=by
 refine co' ["_law_script","_law_a","_law_start","_law_n","_law_part","_law_months","_law_words"] RW fun nd H vs Q E hr h=>?_;obtain⟨a,ns,rfl,hS,h63,q⟩:=h;refine⟨_,(Ab (Aj 1 (Ag Ba (Af CW (Aa (pv 0) (Aa Ae Ac))) Ae))
  (Ab (Aj 2 (Ag DW (Ag Bs (Af CW (Aa (pv 0) (Aa Ae Ac))) (Ag Og Ae Ae)) (Ag Og Ae Ae)))
  (Ab (Ay (Ak Bk (Ag Bs (Af CW (Aa (pv 0) (Aa Ae Ac))) Ae) Ae (An _))
   (Ad (Al (Af Zq (Aa (pv 1) (Aa (pv 2) Ac)))))
   Aq)
  (Ab (Aj 3 (Ag Be Ae (Ag Bs (pv 1) Ae)))
  (Ab (Aj 4 (Ag Bs (Ag Ba (pv 1) Ae) (Ag Be (pv 3) Ae)))
  (Ab (Aj 5 (Ck Ew (Ef (Aa (Ag Be Ae (Ag Bs (Ag Ba (pv 1) Ae) Ae)) (Aa (Ag Be Ae (Ag Bs (Ag Ba (pv 1) Ae) Ae)) (Aa (Ag Be Ae (Ag Bs (Ag Ba (pv 1) Ae) Ae)) Ac)))) El (Cr (Ag Be Ae (Ag Bs (Ag Ba (pv 1) Ae) Ae)))))
  (Ab (Aj 6 (Ag Ao (Ag Ao (Ag Ao Ah (BW BJ rfl Df qr (Aa (pv 2) Ac))) Ah) (Gn vt PySem.F.slot_str_join PySem.F.type_str_join eO Ah (Aa (FT rfl (GZ ["_law_script","_law_a","_law_start","_law_n","_law_part","_law_months","_law_words"] rfl (by ac_rfl) rfl (by ac_rfl) rfl (by ac_rfl) (by ac_rfl)) (Gj (pv 5)) (fun _ _ _ _=>Ep) (fun _ _ _ _=>(BW BJ rfl Df qr (Aa (pv 0) Ac)))) Ac))))
  (Ab (Aj 6 (Ag Ao (Ag Ao (pv 6) Ah) (BW BJ rfl Df qr (Aa (Ag Be Ae (Ag Bs (Ag Ba (pv 1) Ae) Ae)) Ac))))
  (Ab (Aj 6 (Ag Ao (Ag Ao (Ag Ao (Ag Ao (Ag Ao (Ag Ao (pv 6) Ah) (BW BJ rfl Df qr (Aa (pv 4) Ac))) Ah) (BW BJ rfl Df qr (Aa (Ag Bs (Ag Ba (pv 1) Ae) (pv 3)) Ac))) Ah) (BW BJ rfl Df qr (Aa (pv 3) Ac))))
  (Ad (Al (BK (Aa (pv 6) (Aa (Ag Be (Ag CP (pv 3) (BL (Mv rfl) rfl cT ji9 (Aa (pv 5) Ac))) (pv 4)) Ac)))))))))))))),?_⟩
 symm;generalize ns.getD (1:Int).toNat 0=c1;generalize ns.getD (2:Int).toNat 0=c2;rw[p30,p29];have ss:Sm (c2%1000000000000000000000000000000-100000000000000000000000000000):=Ij (by lia) (by lia);generalize c2%1000000000000000000000000000000-100000000000000000000000000000=s' at ss ⊢;refine CK (fun c=>?_) (fun c=>?_)
 ·symm;exact⟨_,s',rfl,ss,q⟩
 generalize c1/3=x;obtain⟨n,p,b,lp,j,en,ep,hb,hlp,hj,o,lp0,lp1,j0,j1⟩:=ADH x;obtain⟨m1,e1,u1,u1'⟩:=zV (x/12);obtain⟨m2,e2,u2,u2'⟩:=zV (x/48);obtain⟨m3,e3,u3,u3'⟩:=zV (x/192);have n0:=o.n0;have n1:0<1+x%3+1:=by lia
 symm;rw[en,ep,e1,e2,e3];clear en ep e1 e2 e3 n1;refine⟨(by show 3<=sizeLine;decide),fun l hl=>?_⟩;refine fresh hl fun H1 s1 t1=>?_;have t1:H1 l=some (.lst ([m1,m2,m3].map V.int)):=t1;symm;rw[hj];refine GP (SqL.of t1) fun u hu=>?_;rw[jX [m1,m2,m3] (by show j<=3;lia)];refine fresh hu fun H2 s2 t2=>?_;have lo:2<=([m1,m2,m3].take j).length/\([m1,m2,m3].take j).length<=3:=by rw[jc0];show 2<=min j 3/\min j 3<=3;lia
 have lm:∀i∈[m1,m2,m3].take j,1<=i/\i<=4:=fun i hi=>by
  have:=List.mem_of_mem_take hi;simp only[qq,yi,or_false] at this;lia
 generalize [m1,m2,m3].take j=ls at*
 have ok:OkC (.sun s' ls lp [(1,p,b,n)]):=.sun ss lo.1 lo.2 lm lp0 lp1 o;have ms:∀i∈ls,Sm i:=fun i hi=>sm1 (by have:=lm i hi;lia) (by have:=lm i hi;lia);have sp:Sm p:=o.sm p (.head _);have sb:Sm b:=o.sm b (.tail _ (.head _));have sn:Sm n:=o.sm n (.tail _ (.tail _ (.head _)));have sl:Sm lp:=sm1 (by lia) (by lia);symm;refine⟨_,rfl,Cj ss,?_⟩;have Z:=(Lg.s "sun ").ap (.n ss);exists⟨_,_,rfl,rfl,Z.le,?_⟩;have Z:=Z.aps " ";exists⟨_,_,rfl,rfl,Z.le,?_⟩;exists Js ?_;exists⟨rfl,?_⟩;exists GD (Jr ?_);refine⟨u,rfl,⟨_,SqL.of t2⟩,?_⟩;refine Mu Ng (by rw[js];exact Dq (by lia)) (fun D i ys H3=>H3 D=some (.lst ys)/\Az H2 H3/\ys=((ls.take i).map Cy).map V.str) (fun D hD=>⟨Ai,Ar hD _,rfl⟩)
  (fun D i ys H3 _ ⟨h1,h2,h3⟩=>⟨h1,by rw[h3,js,js];exact List.length_take_le _ _,SqL.of (h2 _ _ t2)⟩) (fun D i v ys H3 hD hx ⟨h1,h2,h3⟩=>?_) (fun D ys H3 hD ⟨h1,h2,h3⟩=>?_)
 ·rw[xo] at hx;obtain⟨k,hk,rfl⟩:=kr.mp hx;exists Kc (Ek ?_);refine⟨_,rfl,Cj (ms k (zh hk)),?_⟩;refine⟨h1,Ai,G6 hD h2,?_⟩;rw[Qr,hk,jb7,kx,kx,h3];rfl
 rw[js,jc1] at h3;subst h3;have jl:=Ml ms;symm;refine⟨_,D,_,rfl,rfl,SqL.of h1,?_,?_⟩
 ·have h:((ls.map Cy).map (·.length)).sum<=(ls.map Cy).length*41:=dG fun w hw=>by
   obtain⟨i,hi,rfl⟩:=ya.mp hw;exact n8 (ms i hi)
  rw[js] at h;clear hj hlp hb Z;rw[show (Str.ofString ",").length=1 by ac_rfl,js];lia
 rw[jE];have Z:=Z.ap (.w (n:=126) (FJ 44 (ls.map nW)) (by lia));exists⟨_,_,rfl,rfl,Z.le,?_⟩;have Z:=Z.aps " leap ";exists⟨_,_,rfl,rfl,Z.le,?_⟩;rw[hlp];refine⟨_,rfl,Cj sl,?_⟩;have Z:=Z.ap (.n sl);exists⟨_,_,rfl,rfl,Z.le,?_⟩;have Z:=Z.aps " +";exists⟨_,_,rfl,rfl,Z.le,?_⟩;refine⟨_,rfl,Cj sp,?_⟩;have Z:=Z.ap (.n sp);exists⟨_,_,rfl,rfl,Z.le,?_⟩;have Z:=Z.aps ",";exists⟨_,_,rfl,rfl,Z.le,?_⟩;rw[hb];refine⟨_,rfl,Cj sb,?_⟩;have Z:=Z.ap (.n sb);exists⟨_,_,rfl,rfl,Z.le,?_⟩;have Z:=Z.aps ",";exists⟨_,_,rfl,rfl,Z.le,?_⟩;refine⟨_,rfl,Cj sn,?_⟩;have Z:=Z.ap (.n sn);refine⟨_,_,rfl,rfl,Z.le,?_⟩;have eR:=Z.eq (ACl s' lp p b n ls).symm;clear Z;have su:=lJ lm lo.2;have n3:=o.n1;symm;refine⟨u,ls,rfl,SqL.of (h2 _ _ t2),?_⟩;exists IV ?_;have e:dyC (.sun s' ls lp [(1,p,b,n)])=n*ls.sum+p:=by
  show ls.sum*(n+0)+(p+0)=_;rw[jc9,jc9,Zs]
 refine⟨HQ,fun t ht=>?_⟩;have:=q _ t (upd H3 t (.tup [.str (sW (Ir (.sun s' ls lp [(1,p,b,n)]))),.int (dyC (.sun s' ls lp [(1,p,b,n)]))])) ((s1.trans s2).trans (h2.trans (Ar ht _))) ⟨ok,Ai⟩;rw[e,<-eR] at this;exact this
theorem Pn:C0 1 "_law_leaf" ["_law_cell","_law_days"] sI:=by
 refine co' ["_law_cell","_law_days","_law_way","_law_month","_law_day_here","_law_size"] aO fun nd H vs Q E hr h=>?_;obtain⟨x,g,rfl,og,q⟩:=h;have lf:∀(b:Bool) (z:Str) (a:Addr),H a=none->z=sW (PT.tx (.lf b))->Q (.ref a) (upd H a (.tup [.str z,.int 1])):=fun b z a ha e=>q a (.lf b) 1 _ (Ar ha _) (by subst e;exact⟨Ai,trivial,trivial,(by cases b<;>ac_rfl),(by show 1+0<=1;decide),kq _,by decide,by decide⟩);obtain⟨sm,dv,d1,d64⟩:=og.cy;refine⟨_,(Ab (Aj 2 (Ag Bs (pv 0) Ae))
  (Ab (Ay (Ak Bk (pv 2) Ae (An _))
   (Ad (Al (BK (Aa Ah (Aa Ae Ac)))))
   Aq)
  (Ab (Ay (Ak Bk (pv 2) Ae (An _))
   (Ad (Al (BK (Aa Ah (Aa Ae Ac)))))
   Aq)
  (Ab (Ay (Ak Eu (pv 2) Ae (An _))
   (Ab (Aj 5 (Ag Be Ae (Ag Bs (Ag Ba (pv 0) Ae) Ae)))
  (Ad (Al (BK (Aa (Ag Ao (Ag Ao (Ag Ao Ah (BW BJ rfl Df qr (Aa (pv 5) Ac))) Ah) (BW BJ rfl Df qr (Aa (Ag DW (Ag Bs (Ag Ba (pv 0) Ae) Ae) Ae) Ac))) (Aa (pv 5) Ac))))))
   Aq)
  (Ab (Aj 3 (Dp FZ (W7 (ss:=["*","1","2","3","1","2"]) rfl) (Ag Bs (Ag Ba (pv 0) Ae) Ae) (fun _ _=>rfl)))
  (Ab (Aj 4 (Dp FZ (W7 (ss:=["*","1","2","3","4","-1","-2","-4"]) rfl) (Ag Bs (Ag Ba (pv 0) Ae) Ae) (fun _ _=>rfl)))
  (Ad (Al (BK (Aa (Ag Ao (Ag Ao (Ag Ao Ah (pv 3)) Ah) (pv 4)) (Aa (pv 1) Ac))))))))))),?_⟩
 symm;refine CK (fun c=>?_) (fun c=>?_)
 ·symm;exact⟨HQ,fun a ha=>lf true _ a ha xY.symm⟩
 symm;refine CK (fun c=>?_) (fun c=>?_)
 ·symm;exact⟨HQ,fun a ha=>lf false _ a ha q9.symm⟩
 symm;refine CK (fun c=>?_) (fun c=>?_)
 ·have s0:=qk (x/8) (show (6:Int)≠0 by decide);have s1:=qg (x/8) (show (0:Int)<6 by decide);have r0:=qk (x/48) (show (2003:Int)≠0 by decide);have r1:=qg (x/48) (show (0:Int)<2003 by decide);symm;have n0:1<=1+x/8%6:=by lia
  have n1:1+x/8%6<=6:=by lia
  generalize 1+x/8%6=n at n0 n1 ⊢;have sn:Sm n:=sm1 (by lia) (by lia);refine⟨_,rfl,Cj sn,?_⟩;have Z:=(Lg.s "each ").ap (.n sn);exists⟨_,_,rfl,rfl,Z.le,?_⟩;have Z:=Z.aps " from ";exists⟨_,_,rfl,rfl,Z.le,?_⟩;have sr:Sm (x/48%2003-1001):=Ij (by lia) (by lia);have rl:(nW (x/48%2003-1001)).length<=41:=Fl sr;generalize x/48%2003-1001=r at sr rl ⊢;refine⟨_,rfl,Cj sr,?_⟩;have Z:=Z.ap (.n sr);refine⟨_,_,rfl,rfl,Z.le,?_⟩;have e:=Z.eq (PT.tx_each n r).symm;have l1:(sg "each ").length=5:=by ac_rfl
  have l2:(sg " from ").length=6:=by ac_rfl
  have nl:(nW n).length<=2:=by
   obtain rfl | rfl | rfl | rfl | rfl | rfl:n=1\/n=2\/n=3\/n=4\/n=5\/n=6:=by lia
   all_goals ac_rfl
  symm;refine⟨HQ,fun a ha=>?_⟩;have:=q a (.each n r) n (upd H a (.tup [.str (sW (PT.tx (.each n r))),.int n])) (Ar ha _) ⟨Ai,⟨sn,sr,n0,by lia⟩,trivial,(by rw[PT.tx_each];unfold pJ;simp only[zk,PT.lv,PT.br];lia),(by show 1+0<=1;decide),kq _,n0,by lia⟩;rw[<-e] at this;exact this
 ·have m0:=qk (x/8) (show (6:Int)≠0 by decide);have m1:=qg (x/8) (show (0:Int)<6 by decide);have d0:=qk (x/48) (show (8:Int)≠0 by decide);have d1':=qg (x/48) (show (0:Int)<8 by decide);obtain⟨m,mm,em⟩:=qK (os:=moS) m0 m1;obtain⟨d,dm,ed⟩:=qK (os:=daS) d0 d1';obtain⟨mo,_,ml⟩:=nP (jb9 daS mm);obtain⟨do',dz,dl⟩:=nP (yy moS dm);symm;refine W2 ?_;refine⟨(by show 6<=sizeLine;decide),fun l1 hl1=>?_⟩;refine fresh hl1 fun H1 s1 t1=>?_;rw[show ([Str.ofString "*",Str.ofString "1",Str.ofString "2",Str.ofString "3",Str.ofString "1",Str.ofString "2"]:List Str)=moS.map (fun o=>sW (FQ o)) by ac_rfl,ua] at t1;symm;exists Bq (SqL.of t1) em ?_;refine W2 ?_;refine⟨(by show 8<=sizeLine;decide),fun l2 hl2=>?_⟩;refine fresh hl2 fun H2 s2 t2=>?_;rw[show ([Str.ofString "*",Str.ofString "1",Str.ofString "2",Str.ofString "3",Str.ofString "4",Str.ofString "-1",Str.ofString "-2",Str.ofString "-4"]:List Str)=daS.map (fun o=>sW (FQ o)) by ac_rfl,ua] at t2;symm;refine Bq (SqL.of t2) ed ?_;have Z:=(Lg.s "date c ").ap (.w (FQ m) ml);symm;exists⟨_,_,rfl,rfl,Z.le,?_⟩;have Z:=Z.aps " ";exists⟨_,_,rfl,rfl,Z.le,?_⟩;have Z:=Z.ap (.w (FQ d) dl);refine⟨_,_,rfl,rfl,Z.le,?_⟩;have e:=Z.eq (wF m d);have l1:(sg "date c ").length=7:=by ac_rfl
  have l2:(sg " ").length=1:=by ac_rfl
  symm;refine⟨HQ,fun a ha=>?_⟩;rw[e];exact q a (.date (sg "c") m d none) _ _ ((s1.trans s2).trans (Ar ha _)) ⟨Ai,⟨ACN,mo,do',(fun z hz=>nomatch hz),ACP mm,dz⟩,⟨rfl,rfl⟩,(by rw[<-wF];simp only[zk,PT.lv,PT.br];lia),(by show 1+0<=1;decide),dv,d1,by lia⟩
theorem Te:C0 1 "_law_two" ["_law_word","_law_number","_law_one","_law_other"] yE:=by
 refine co' ["_law_word","_law_number","_law_one","_law_other","_law_some"] iB fun nd H vs Q E hr h=>?_;obtain⟨i,k,p,r,rfl,W,pl,rl,q⟩:=h;have i1:=W.i1;have X:=Lg.w p.tx pl;have Y:=Lg.w r.tx rl;have K1:=Lg.n W.sk;have fin:∀{z:Str} {P:PT},Gg i k p r=P->z=sW P.tx->∀{H'},Az H H'->Q (.str z) H':=fun e f _ s=>by rw[f,<-e];exact q _ s
 refine AAg ⟨_,(KQ (bs (Ay (Ak Bk (pv 0) Ae (An _))
  (Ad (Al (Ag Ao (Ag Ao Ah (pv 2)) Ah)))
  Aq))
  (KQ (bs (Ay (Ak Bk (pv 0) Ae (An _))
   (Ad (Al (Ag Ao (Ag Ao (Ag Ao (Ag Ao Ah (BW BJ rfl Df qr (Aa (pv 1) Ac))) Ah) (pv 2)) Ah)))
   Aq))
  (KQ (bs (Ay (Ak Bk (pv 0) Ae (An _))
   (Ad (Al (Ag Ao (Ag Ao (Ag Ao (Ag Ao (Ag Ao (Ag Ao Ah (BW BJ rfl Df qr (Aa (pv 1) Ac))) Ah) (pv 2)) Ah) (pv 3)) Ah)))
   Aq))
  (KQ (bs (Ay (Ak Bk (pv 0) Ae (An _))
   (Ad (Al (Ag Ao (Ag Ao (Ag Ao (Ag Ao (Ag Ao (Ag Ao Ah (BW BJ rfl Df qr (Aa (BL J6 rfl X4 jf1 (Aa (pv 1) Ac)) Ac))) Ah) (pv 2)) Ah) (BW BJ rfl Df qr (Aa (pv 1) Ac))) Ah)))
   Aq))
  (KQ (AAh (i:=4) nd rfl (by walk_at"o") (vV (ss:=["","and","or","but","unlike","","upon","until","near","till"]) (by rfl)))
  (vU (bs (Al (Ag Ao (Ag Ao (Ag Ao (Ag Ao (Ag Ao (Ag Ao Ah (pv 2)) Ah) (Dp FZ (pv 4) (pv 0) (fun _ _=>rfl))) Ah) (pv 3)) Ah))))))))),?_⟩
 symm;refine CK (fun c=>?_) (fun c=>?_)
 ·obtain rfl:i=0:=by have:=V.int.inj c;lia
  symm;have Z:=(Lg.s "(not ").ap X;exists⟨_,_,rfl,rfl,Z.le,?_⟩;have Z:=Z.aps ")";refine⟨_,_,rfl,rfl,Z.le,?_⟩;exact fin rfl (Z.eq (PT.tx_no _).symm) (Az.refl _)
 symm;refine CK (fun c5=>?_) (fun c5=>?_)
 ·obtain rfl:i=5:=by have:=V.int.inj c5;lia
  symm;refine⟨_,rfl,Cj W.sk,?_⟩;have Z:=(Lg.s "(").ap K1;exists⟨_,_,rfl,rfl,Z.le,?_⟩;have Z:=Z.aps " later ";exists⟨_,_,rfl,rfl,Z.le,?_⟩;have Z:=Z.ap X;exists⟨_,_,rfl,rfl,Z.le,?_⟩;have Z:=Z.aps ")";refine⟨_,_,rfl,rfl,Z.le,?_⟩;exact fin rfl (Z.eq (PT.tx_la _ _).symm) (Az.refl _)
 symm;refine CK (fun c10=>?_) (fun c10=>?_)
 ·obtain rfl:i=10:=by have:=V.int.inj c10;lia
  symm;refine⟨_,rfl,Cj W.sk,?_⟩;have Z:=(Lg.s "(").ap K1;exists⟨_,_,rfl,rfl,Z.le,?_⟩;have Z:=Z.aps " of ";exists⟨_,_,rfl,rfl,Z.le,?_⟩;have Z:=Z.ap X;exists⟨_,_,rfl,rfl,Z.le,?_⟩;have Z:=Z.aps " from ";exists⟨_,_,rfl,rfl,Z.le,?_⟩;have Z:=Z.ap Y;exists⟨_,_,rfl,rfl,Z.le,?_⟩;have Z:=Z.aps ")";refine⟨_,_,rfl,rfl,Z.le,?_⟩;exact fin rfl (Z.eq (PT.tx_nt _ _ _).symm) (Az.refl _)
 symm;refine CK (fun c11=>?_) (fun c11=>?_)
 ·obtain rfl:i=11:=by have:=V.int.inj c11;lia
  have k3:=W.k3 (by decide) (by decide);have sk:Sm (k.natAbs:Int):=Ij (by lia) (by lia);symm;refine⟨_,rfl,?_⟩;rw[show (if k<0 then -k else k)=(k.natAbs:Int) by split<;>lia];symm;refine⟨_,rfl,Cj sk,?_⟩;have Z:=(Lg.s "(every ").ap (.n sk);exists⟨_,_,rfl,rfl,Z.le,?_⟩;have Z:=Z.aps " of ";exists⟨_,_,rfl,rfl,Z.le,?_⟩;have Z:=Z.ap X;exists⟨_,_,rfl,rfl,Z.le,?_⟩;have Z:=Z.aps " from ";exists⟨_,_,rfl,rfl,Z.le,?_⟩;refine⟨_,rfl,Cj W.sk,?_⟩;have Z:=Z.ap K1;exists⟨_,_,rfl,rfl,Z.le,?_⟩;have Z:=Z.aps ")";refine⟨_,_,rfl,rfl,Z.le,?_⟩;exact fin rfl (Z.eq (kW _ _ _).symm) (Az.refl _)
 obtain⟨eP,ea⟩:=ABw (k:=k) (p:=p) (q:=r) i1 (fun z=>c (by rw[z];rfl)) (fun z=>c5 (by rw[z];rfl)) (fun z=>c10 (by rw[z];rfl)) (fun z=>c11 (by rw[z];rfl));have wl:(sg (pkI i).s).length<=30:=by cases pkI i<;>ac_rfl
 symm;refine W2 ?_;refine⟨(by show 10<=sizeLine;decide),fun l hl=>?_⟩;refine fresh hl fun H1 s1 t1=>?_;have t1:H1 l=some (.lst (soS.map V.str)):=t1;symm;have Z:=(Lg.s "(").ap X;exists⟨_,_,rfl,rfl,Z.le,?_⟩;have Z:=Z.aps " ";exists⟨_,_,rfl,rfl,Z.le,?_⟩;refine Bq (SqL.of t1) ea ?_;have Z:=Z.aps (pkI i).s wl;exists⟨_,_,rfl,rfl,Z.le,?_⟩;have Z:=Z.aps " ";exists⟨_,_,rfl,rfl,Z.le,?_⟩;have Z:=Z.ap Y;exists⟨_,_,rfl,rfl,Z.le,?_⟩;have Z:=Z.aps ")";refine⟨_,_,rfl,rfl,Z.le,?_⟩;exact fin eP (Z.eq (kO _ _ _).symm) s1
theorem Pk:C0 2 "_law_rule" ["_law_cells","_law_days"] (rP K):=by
 refine co' ["_law_cells","_law_days","_law_found","_law_size","_law_cell","_law_word","_law_number","_law_other","_law_more","_law_whole"] aM fun nd H vs Q E hr h=>?_;obtain⟨l,cs,g,rfl,hl,cl,og,q⟩:=h;obtain⟨sm,dv,d1,d64⟩:=og.cy;refine⟨_,(Ab (Ay (Ak (nZ hr.units) (pv 0) (Ef Ac) (An _))
  (Ad (Al (BK (Aa Ah (Aa Ae Ac)))))
  Aq)
  (Ab (K8 (Af Pn (Aa (pxL 0) (Aa (pv 1) Ac))) (Oa rfl (Dv (Cg (i:=2) nd rfl (by walk_at"o")) (Dv (Cg (i:=3) nd rfl (by walk_at"o")) JH))))
  (Ab (JG PassesOwn.never rfl (Gj (Ck Ew (pv 0) (Cr Ae) El)) (Cg (i:=4) nd rfl (by walk_at"o"))
   (Ab (Aj 5 (Ag Bs (pv 4) Ae))
  (Ab (Aj 6 (Dp FZ (Ef (Aa (Fx Ed Ae) (Aa (Fx Ed Ae) (Aa (Fx Ed Ae) (Aa Ae (Aa Ae (Aa Ae Ac))))))) (Ag Bs (Ag Ba (pv 4) Ae) Ae) (fun _ _=>rfl)))
  (Ab (K8 (Af Pn (Aa (Ag Ba (pv 4) Ae) (Aa (pv 1) Ac))) (Oa rfl (Dv (Cg (i:=7) nd rfl (by walk_at"o")) (Dv (Cg (i:=8) nd rfl (by walk_at"o")) JH))))
  (Ab (Aj 9 (Af Kz (Aa (pv 3) (Aa (pv 8) Ac))))
  (Ab (Fe (Ay (Ak Bk (pv 5) Ae (An _))
   (Ad (Aj 9 (Ag CP (pv 3) (BL J6 rfl X4 jf1 (Aa (pv 6) Ac)))))
   Aq))
  (Ad (Fe (Ay (Ak Mh (pv 9) Ae (An _))
   (Ab (Aj 2 (Af Te (Aa (pv 5) (Aa (pv 6) (Aa (pv 2) (Aa (pv 7) Ac))))))
  (Ad (Aj 3 (pv 9))))
   Aq)))))))))
  (Ad (Al (BK (Aa (pv 2) (Aa (pv 3) Ac)))))))),?_⟩
 symm;refine⟨(by show 0<=sizeLine;decide),fun e he=>?_⟩;refine fresh he fun H1 s1 t1=>?_;exists⟨l,e,_,rfl,rfl,s1.seq hl,SqL.of t1,?_⟩;cases cs with
 | nil=>
  exists Ek ?_;refine⟨HQ,fun a ha=>?_⟩;have:=q a (.each 2 1) 2 (upd H1 a (.tup [.str (sW (PT.tx (.each 2 1))),.int 2])) (s1.trans (Ar ha _)) ⟨Ai,⟨sm1 (by decide) (by decide),sm1 (by decide) (by decide),by decide,by decide⟩,trivial,by ac_rfl,(by show 1+0<=7;decide),kq _,by decide,by decide⟩;rw[show sW (PT.tx (.each 2 1))=Str.ofString "each 2 from 1" by ac_rfl] at this;exact this
 | cons c0 cs=>
 exists Dz ?_;exists Bq (s1.seq hl) GC ?_;refine⟨c0,g,rfl,og,fun a p z H2 s2 N=>?_⟩;exists MF (SqT.of N.1) rfl ?_;exists N8 (Jr ?_);refine GP ((s1.trans s2).seq hl) fun u hu=>?_;rw[show HW ((c0::cs).map V.int) (some 1) none=cs.map V.int from Gu _ 1];refine fresh hu fun H3 s3 t3=>?_;refine⟨u,rfl,⟨_,SqL.of t3⟩,J4 (xs:=cs.map V.int) (fun i Z' H'=>An3 (Az H3 H') (i<=cs.length) (Ex8 fun(p:PT) (z:Int) (v4 v5 v6 v7 v8 v9:Option V)=>NP g p z (1+2*i)/\Z'=[some (.ref l),some (.int (dyC g)),some (.str (sW p.tx)),some (.int z),v4,v5,v6,v7,v8,v9])) ⟨Az.refl _,ve _,p,z,_,_,_,_,_,_,N.2,rfl⟩ ?_ ?_ ?_⟩
 ·rintro i Z' H' _ ⟨s,_⟩;exact SqL.of (s _ _ t3)
 ·rintro i v Z' H' hv ⟨sH,il,p,z,v4,v5,v6,v7,v8,v9,N,rfl⟩;rw[xo] at hv;obtain⟨c,hc,rfl⟩:=kr.mp hv;have ilt:=(qv.mp hc).1;have w0:=qk c (show (12:Int)≠0 by decide);have w1:=qg c (show (0:Int)<12 by decide);obtain⟨k,k3,ek⟩:=qL (c/12);symm;obtain⟨w,hw⟩:∃w:Nat,c%12=(w:Int):=⟨(c%12).toNat,by lia⟩;rw[hw];refine⟨(by show 6<=sizeLine;decide),fun ll hll=>?_⟩;refine fresh hll fun H4 s4 t4=>?_;have t4:H4 ll=some (.lst (k6.map V.int)):=t4;symm;exists Bq (SqL.of t4) ek ?_;refine⟨c/72,g,rfl,og,fun a' p' z' H5 s5 N'=>?_⟩;refine MF (SqT.of N'.1) rfl ?_;have M':=N'.2;have sk:Sm k:=Ij (by lia) (by lia);have W:WdK w k:=⟨by lia,sk,fun _ _=>k3⟩;have zb:=N.z1;have s45:=s4.trans s5;symm;exists⟨z,z',rfl,N.z0,N.z1,M'.z0,M'.z1,?_⟩;refine FP (fun Z' H'=>H'=H5/\∃y:Int,An3 (w≠11->y=Bx z z') (w=11->y=z*(k.natAbs:Int)) (Z'=[some (.ref l),some (.int (dyC g)),some (.str (sW p.tx)),some (.int z),some (.int c),some (.int (w:Int)),some (.int k),some (.str (sW p'.tx)),some (.int z'),some (.int y)])) ?_ ?_
  ·symm;refine CK (fun e=>?_) (fun e=>?_)
   ·symm;refine⟨_,rfl,?_⟩;rw[show (if k<0 then -k else k)=(k.natAbs:Int) by split<;>lia];have z0:=N.z0;exists IV ?_;exact⟨rfl,_,fun z=>absurd (by have:=V.int.inj e;lia) z,fun _=>rfl,rfl⟩
   ·symm;exact⟨rfl,_,fun _=>rfl,fun z=>absurd (by rw[z];rfl) e,rfl⟩
  rintro Z' H6 ⟨rfl,y,y1,y2,rfl⟩;have next:Az H3 H6:=sH.trans s45
  symm;exists FP (fun Z' H'=>An3 (Az H3 H') (i+1<=cs.length) (Ex8 fun(p:PT) (z:Int) (v4 v5 v6 v7 v8 v9:Option V)=>NP g p z (1+2*(i+1))/\Z'=[some (.ref l),some (.int (dyC g)),some (.str (sW p.tx)),some (.int z),v4,v5,v6,v7,v8,v9])) ?_ (fun _ _ h=>h);refine CK (fun e=>?_) (fun e=>?_)
  ·symm;have t1':=N.tl;have t2':=M'.tl;have m1':=N.mn;have m2':=M'.mn;have cl':cs.length+1<=4:=cl;exists⟨w,k,p,p',rfl,W,by lia,by lia,fun H7 s7=>?_⟩;refine⟨next.trans s7,by lia,_,y,_,_,_,_,_,_,?_,rfl⟩
   have:=NP.two sm N M' W y1 y2 e
   rwa [show 1+2*i+1+1=1+2*(i+1) by lia] at this
  ·symm;exact⟨next,by lia,p,z,_,_,_,_,_,_,⟨N.ok,N.kn,N.tl,zv N.mn (by lia),N.sz,N.z0,N.z1⟩,rfl⟩
 ·rintro Z' H' ⟨sH,_,p,z,v4,v5,v6,v7,v8,v9,N,rfl⟩;symm;refine⟨HQ,fun a ha=>q a p z _ ((s1.trans s2).trans ((s3.trans sH).trans (Ar ha _))) ⟨Ai,N.ok,N.kn,N.tl,zv N.mn ?_,N.sz,N.z0,N.z1⟩⟩;have cl':cs.length+1<=4:=cl;rw[js];lia
theorem Kg:C0 135 "_law_on" ["_law_desk","_law_name","_law_day_here"] (ABW K ⟨Cv,Bf,BV,Am,BR,CL⟩):=by
 refine co' ["_law_desk","_law_name","_law_day_here"] mL fun nd H vs Q E hr h=>?_;obtain⟨x,y,d,n,b,rfl,A,sd,q⟩:=h;obtain⟨⟨c,j,m,dk,jl,em⟩,hn,_,_⟩:=id A;obtain⟨dx,_,_,_,hx,_⟩:=id dk.ex;exists⟨_,(Ad (Al (DP Bk (Dw Gw DX (pv 0) (Aa (Ag Ao (Ag Ao (Ag Ao Ah (pv 1)) Ah) (BW BJ rfl Df qr (Aa (pv 2) Ac))) Ac)) Ah (An _)))),?_⟩;exists⟨x,dx,_,rfl,hx,rfl,?_⟩;have Z:=(Lg.s "on ").ap ⟨rfl,hn.hi⟩;exists⟨_,_,rfl,rfl,Z.le,?_⟩;have Z:=Z.aps " ";exists⟨_,_,rfl,rfl,Z.le,?_⟩;refine⟨_,rfl,Cj sd,?_⟩;have Z:=Z.ap (.n sd);refine⟨_,_,rfl,rfl,Z.le,?_⟩;have e:=Z.eq (ADp (cpl y) d).symm;clear Z;symm;exists⟨x,c,j,m,_,yk (fun z=>[V.ref x,V.str z]) e,Qw hn sd,dk,jl,n,b,em,fun H1 s1=>?_⟩;cases hb:On (n:Int) b d with
 | true=>
  rw[hb] at q;exact q _ s1
 | false=>
  rw[hb] at q;exact q _ s1
theorem Ga:C0 135 "_law_day" ["_law_desk","_law_word","_law_name","_law_day_here"] (yX K ⟨Cv,Bf,BV,Am,BR,CL⟩):=by
 refine co' ["_law_desk","_law_word","_law_name","_law_day_here","_law_found"] iD fun nd H vs Q E hr h=>?_;obtain⟨x,w',y,d,n,b,rfl,A,zd,q⟩:=h;obtain⟨⟨c,j,m,dk,jl,em⟩,hn,n0,n1⟩:=id A;obtain⟨dx,_,_,_,hx,_⟩:=id dk.ex;have sd:Sm d:=zd.sm (by lia) (by lia);refine⟨_,(Ab (Aj 4 (Dw Gw DX (pv 0) (Aa (Ag Ao (Ag Ao (Ag Ao (Ag Ao (pv 1) Ah) (pv 2)) Ah) (BW BJ rfl Df qr (Aa (pv 3) Ac))) Ac)))
  (Ab (Ay (Ak Bk (pv 4) Ah (An _))
   (Ad (Al Ff))
   Aq)
  (Ad (Al (BW G4 rfl cU ji8 (Aa (pv 4) Ac)))))),?_⟩
 symm;exists⟨x,dx,_,rfl,hx,rfl,?_⟩;have wl:(sg (dS w')).length<=30:=by cases w'<;>ac_rfl
 have Z:=(Lg.s (dS w') wl).aps " ";exists⟨_,_,rfl,rfl,Z.le,?_⟩;have Z:=Z.ap ⟨rfl,hn.hi⟩;exists⟨_,_,rfl,rfl,Z.le,?_⟩;have Z:=Z.aps " ";exists⟨_,_,rfl,rfl,Z.le,?_⟩;refine⟨_,rfl,Cj sd,?_⟩;have Z:=Z.ap (.n sd);refine⟨_,_,rfl,rfl,Z.le,?_⟩;have e:=Z.eq (ACm w' (cpl y) d).symm;clear Z;symm;have go:∀{vs:List V} {Q':VK} {E':XK},vs=[V.ref x,V.str (sW (Row.T (vJ w' (cpl y) d)))]->GDy (dR w') (n:Int) b d H Q'->wR K ⟨Cv,Bf,BV,Am,BR,CL⟩ vs H Q' E':=fun ev g=>by
  cases w'
  ·exact⟨x,c,j,m,.last (cpl y) d,ev,Qw hn sd,dk,jl,n,b,em,g⟩
  ·exact⟨x,c,j,m,.next (cpl y) d,ev,Qw hn sd,dk,jl,n,b,em,g⟩
 have nr:∀r,dR w' (On (n:Int) b) d r->d-400<r/\r<d+400:=fun r hr'=>by
  cases w'
  ·have:=Vc (by lia) hr';have:=hr'.1;lia
  ·have:=Vb (by lia) hr';have:=hr'.1;lia
 refine go (yk (fun z=>[V.ref x,V.str z]) e) ⟨fun no H1 s1=>?_,fun r H1 s1 R=>?_⟩
 ·symm;exists Hn rfl ?_;exact q none _ s1 no (fun _ z=>nomatch z)
 ·have b:=nr r R;have sr:Sm r:=zd.sm (by lia) (by lia);symm;exists CJ (fun z=>uY sr (V.str.inj z)) ?_;exact⟨_,_,rfl,(fG sr).1,(fG sr).2,q (some r) _ s1 R fun _ z=>by cases z;exact b⟩
theorem HX:C0 135 "_law_count" ["_law_desk","_law_name","_law_first","_law_end"] (yc K ⟨Cv,Bf,BV,Am,BR,CL⟩):=by
 refine co' ["_law_desk","_law_name","_law_first","_law_end"] Yn fun nd H vs Q E hr h=>?_;obtain⟨x,y,d,e,n,b,rfl,A,sd,se,sx,q⟩:=h;obtain⟨⟨c,j,m,dk,jl,em⟩,hn,n0,_⟩:=id A;obtain⟨dx,_,_,_,hx,_⟩:=id dk.ex;have sc:Sm (CC (n:Int) b e-CC (n:Int) b d):=yv (qp (by lia) d e) sx;exists⟨_,(Ad (Al (BW G4 rfl cU ji8 (Aa (Dw Gw DX (pv 0) (Aa (Ag Ao (Ag Ao (Ag Ao (Ag Ao (Ag Ao Ah (pv 1)) Ah) (BW BJ rfl Df qr (Aa (pv 2) Ac))) Ah) (BW BJ rfl Df qr (Aa (pv 3) Ac))) Ac)) Ac)))),?_⟩;exists⟨x,dx,_,rfl,hx,rfl,?_⟩;have Z:=(Lg.s "count ").ap ⟨rfl,hn.hi⟩;exists⟨_,_,rfl,rfl,Z.le,?_⟩;have Z:=Z.aps " ";exists⟨_,_,rfl,rfl,Z.le,?_⟩;refine⟨_,rfl,Cj sd,?_⟩;have Z:=Z.ap (.n sd);exists⟨_,_,rfl,rfl,Z.le,?_⟩;have Z:=Z.aps " ";exists⟨_,_,rfl,rfl,Z.le,?_⟩;refine⟨_,rfl,Cj se,?_⟩;have Z:=Z.ap (.n se);refine⟨_,_,rfl,rfl,Z.le,?_⟩;have ev:=Z.eq (ACn (cpl y) d e).symm;clear Z;symm;exists⟨x,c,j,m,_,yk (fun z=>[V.ref x,V.str z]) ev,tR hn sd se,dk,jl,n,b,em,fun H1 s1=>?_⟩;exact⟨_,_,rfl,(fG sc).1,(fG sc).2,q _ s1⟩
theorem Tg:C0 136 "_law_by_days" ["_law_desk","_law_word","_law_day_here"] (ABi K ⟨Cv,Bf,BV,Am,BR,CL⟩):=by
 refine co' ["_law_desk","_law_word","_law_day_here","_law_before","_law_coming","_law_passed","_law_behind","_law_began"] Um fun nd H vs Q E hr h=>?_;obtain⟨x,i,d,n1,b1,n2,b2,rfl,i6,i9,A,B,zd,zm,zp,q⟩:=h;have p1:=A.n0;have p2:=B.n0;refine⟨_,(Ab (Aj 3 (Af Ga (Aa (pv 0) (Aa Ah (Aa Ah (Aa (Ag DW (pv 2) Ae) Ac))))))
  (Ab (Aj 4 (Af Ga (Aa (pv 0) (Aa Ah (Aa Ah (Aa (Ag Be (pv 2) Ae) Ac))))))
  (Ab (Aj 5 (Af Ga (Aa (pv 0) (Aa Ah (Aa Ah (Aa (pv 2) Ac))))))
  (Ab (Aj 6 (Af Ga (Aa (pv 0) (Aa Ah (Aa Ah (Aa (pv 2) Ac))))))
  (Ab (Ay (Ak Bk (pv 1) Ae (An _))
   (Ab (Aj 7 (Af Ga (Aa (pv 0) (Aa Ah (Aa Ah (Aa (pv 2) Ac))))))
  (Ad (Al (JK (DP eF (pv 7) Ff (An _)) (IW (wk (DP Hk (pv 5) Ff (An _)) (IW (DP nU (pv 7) (pv 5) (An _)))))))))
   Aq)
  (Ab (Ay (PW.pt (Hi (Hj (GR (Af Kg (Aa (pv 0) (Aa Ah (Aa (pv 2) Ac)))))) (GQ (Ak Hk (pv 5) Ff (An _)))))
   (Ad (Al VP))
   Aq)
  (Ab (Ay (Ak Bk (pv 1) Ae (An _))
   (Ad (Al (DP FW (pv 5) (pv 3) (An _))))
   Aq)
  (Ab (Ay (Ak Bk (pv 1) Ae (An _))
   (Ad (Al (DP Eu (pv 6) (pv 4) (An _))))
   Aq)
  (Ad (Al (DP FW (Af HX (Aa (pv 0) (Aa Ah (Aa (Ag Be (Ag Ba (Ag Be (pv 2) (pv 3)) Ae) Ae) (Aa (Ag Be (Ag Ba (Ag Be (pv 2) (pv 4)) Ae) Ae) Ac))))) Ae (An _)))))))))))),?_⟩
 symm;refine⟨x,false,Str.ofString "r",d-1,n1,b1,rfl,A,zm,fun ob H1 s1 hb lb=>?_⟩;have A:=A.same s1;have B:=B.same s1;symm;refine⟨x,true,Str.ofString "r",d+1,n1,b1,rfl,A,zp,fun oc H2 s2 hc lc=>?_⟩;have A:=A.same s2;have B:=B.same s2;symm;refine⟨x,false,Str.ofString "s",d,n2,b2,rfl,B,zd,fun op H3 s3 hp lp=>?_⟩;have A:=A.same s3;have B:=B.same s3;symm;refine⟨x,true,Str.ofString "s",d,n2,b2,rfl,B,zd,fun oh H4 s4 hh lh=>?_⟩;have A:=A.same s4;have B:=B.same s4;have s14:=(s1.trans s2).trans (s3.trans s4);symm;refine CK (fun c9=>?_) (fun c9=>?_)
 ·obtain rfl:i=9:=by have:=V.int.inj c9;lia
  symm;refine⟨x,false,Str.ofString "r",d,n1,b1,rfl,A,zd,fun og H5 s5 hg lg=>?_⟩;have s5:=s14.trans s5;symm;exists⟨rfl,?_⟩;cases og with
  | none=>
   have hg:∀e,On (n1:Int) b1 e=false:=hg;refine Dz ?_;exact q false _ s5 ⟨(fun z=>nomatch z),fun⟨r,hr,_⟩=>absurd hr (by rw[hg r];decide)⟩
  | some rg=>
   have hg:Jc (On (n1:Int) b1) d rg:=hg;exists Ek ?_;exists⟨rfl,?_⟩;cases op with
   | none=>
    have hp:∀e,On (n2:Int) b2 e=false:=hp;refine Ek ?_;exact q true _ s5 ⟨fun _=>rD hg hp,fun _=>rfl⟩
   | some rp=>
    have hp:Jc (On (n2:Int) b2) d rp:=hp;exists Dz ?_;exact⟨_,_,rfl,rfl,q (decide (rp<=rg)) _ s5 (decide_eq_true_iff.trans (rC hg hp).symm)⟩
 ·symm;exists⟨x,Str.ofString "r",d,n1,b1,rfl,A,zd.sm (by lia) (by lia),fun H5 s5=>?_⟩;have i3:i=6\/i=7\/i=8:=by
   have:i≠9:=fun z=>c9 (by rw[z];rfl);lia
  have s15:=s14.trans s5;cases hon:On (n1:Int) b1 d with
  | false=>
   exists Ek ?_;refine q false _ s15 ⟨(fun z=>nomatch z),fun z=>?_⟩;rcases i3 with rfl | rfl | rfl<;>(have:=z.1;rw[hon] at this;cases this)
  | true=>
   exists Dz ?_;exists⟨rfl,?_⟩;cases op with
   | none=>
    have hp:∀e,On (n2:Int) b2 e=false:=hp;exists Ek ?_;refine q false _ s15 ⟨(fun z=>nomatch z),fun z=>?_⟩;rcases i3 with rfl | rfl | rfl<;>(obtain ⟨_,s',hs,_⟩:=z;rw[hp s'] at hs;cases hs)
   | some rp=>
    have hp:Jc (On (n2:Int) b2) d rp:=hp;refine Dz ?_;obtain⟨rb,rfl⟩:∃rb,ob=some rb:=by
     cases ob with
     | none=>exact absurd hon (by rw[(show ∀e,On (n1:Int) b1 e=false from hb) d];decide)
     | some rb=>exact⟨rb,rfl⟩
    obtain⟨rc,rfl⟩:∃rc,oc=some rc:=by
     cases oc with
     | none=>exact absurd hon (by rw[(show ∀e,On (n1:Int) b1 e=false from hc) d];decide)
     | some rc=>exact⟨rc,rfl⟩
    obtain⟨rh,rfl⟩:∃rh,oh=some rh:=by
     cases oh with
     | none=>exact absurd hp.2.1 (by rw[(show ∀e,On (n2:Int) b2 e=false from hh) rp];decide)
     | some rh=>exact⟨rh,rfl⟩
    have hb:Jc (On (n1:Int) b1) (d-1) rb:=hb;have hc:Ld (On (n1:Int) b1) (d+1) rc:=hc;have hh:Ld (On (n2:Int) b2) d rh:=hh;have lb:=lb rb rfl;have lc:=lc rc rfl;symm;refine CK (fun c6=>?_) (fun c6=>?_)
    ·obtain rfl:i=6:=by have:=V.int.inj c6;lia
     symm;exact⟨_,_,rfl,rfl,q (decide (rb<rp)) _ s15 (decide_eq_true_iff.trans (qy hon hb hp).symm)⟩
    symm;refine CK (fun c7=>?_) (fun c7=>?_)
    ·obtain rfl:i=7:=by have:=V.int.inj c7;lia
     symm;exact⟨_,_,rfl,rfl,q (decide (rh<rc)) _ s15 (decide_eq_true_iff.trans (qz hon hc hh).symm)⟩
    obtain rfl:i=8:=by
     have:i≠6:=fun z=>c6 (by rw[z];rfl);have:i≠7:=fun z=>c7 (by rw[z];rfl);lia
    have b1':=hb.1;have c1':=hc.1;have f1:d-1000<=(d+rb)/2+1/\(d+rb)/2+1<=d+1000:=by lia
    have f2:d-1000<=(d+rc)/2+1/\(d+rc)/2+1<=d+1000:=by lia
    have f3:(d+rb)/2+1<=(d+rc)/2+1:=by lia
    rw[show oI (some rb)=V.int rb from rfl,show oI (some rc)=V.int rc from rfl];symm;exists⟨x,Str.ofString "s",(d+rb)/2+1,(d+rc)/2+1,n2,b2,rfl,B.same s5,zd.sm f1.1 f1.2,zd.sm f2.1 f2.2,Ij (by lia) (by lia),fun H6 s6=>?_⟩;refine q (decide (0<CC (n2:Int) b2 ((d+rc)/2+1)-CC (n2:Int) b2 ((d+rb)/2+1))) _ (s15.trans s6) (decide_eq_true_iff.trans ?_);rw[AAw (by lia) f3,Int.add_comm d rb];exact(uV hon hb hc).symm
theorem cL:C0 137 "_law_due" ["_law_desk","_law_word","_law_number","_law_day_here"] (yV K ⟨Cv,Bf,BV,Am,BR,CL⟩):=by
 refine co' ["_law_desk","_law_word","_law_number","_law_day_here","_law_here","_law_there","_law_passed"] iC fun nd H vs Q E hr h=>?_;obtain⟨x,i,k,d,n1,b1,n2,b2,rfl,W,k0,k1,A,B,zd,zm,zp,q⟩:=h;have p1:=A.n0;have p2:=B.n0;have i1:=W.i1;have sd:Sm d:=zd.sm (by lia) (by lia);refine⟨_,(Ab (Aj 4 (Af Kg (Aa (pv 0) (Aa Ah (Aa (pv 3) Ac)))))
  (Ab (Aj 5 (Af Kg (Aa (pv 0) (Aa Ah (Aa (pv 3) Ac)))))
  (Ab (Ay (Ak Eu (pv 1) Ae (An _))
   (Ad (Al (Dp FZ (Ef (Aa (nD (pv 4)) (Aa (JK (pv 4) (IW (pv 5))) (Aa (wk (pv 4) (IW (pv 5))) (Aa (JK (pv 4) (IW (nD (pv 5)))) (Aa (DP Gp (pv 4) (pv 5) (An _)) Ac)))))) (pv 1) (fun _ _=>rfl))))
   Aq)
  (Ab (Ay (Ak Bk (pv 1) Ae (An _))
   (Ad (Al (Af Kg (Aa (pv 0) (Aa Ah (Aa (Ag DW (pv 3) (pv 2)) Ac))))))
   Aq)
  (Ab (Ay (Ak Eu (pv 1) Ae (An _))
   (Ad (Al (Af Tg (Aa (pv 0) (Aa (pv 1) (Aa (pv 3) Ac))))))
   Aq)
  (Ab (Ay (Ak Bk (pv 1) Ae (An _))
   (Ad (Al (JK (pv 4) (IW (DP Bk (Ag Bs (Af HX (Aa (pv 0) (Aa Ah (Aa (pv 2) (Aa (pv 3) Ac))))) (BL J6 rfl X4 jf1 (Aa (pv 2) Ac))) Ae (An _))))))
   Aq)
  (Ab (Aj 6 (Af Ga (Aa (pv 0) (Aa Ah (Aa Ah (Aa (pv 3) Ac))))))
  (Ab (Ay (PW.pt (Hi (Hj (GR (pv 4))) (GQ (Ak Hk (pv 6) Ff (An _)))))
   (Ad (Al VP))
   Aq)
  (Ab (Ay (Ak FW (pv 2) Ae (An _))
   (Ad (Al (DP Bk (Af HX (Aa (pv 0) (Aa Ah (Aa (pv 6) (Aa (Ag Be (pv 3) Ae) Ac))))) (pv 2) (An _))))
   Aq)
  (Ad (Al (DP Bk (Af HX (Aa (pv 0) (Aa Ah (Aa (pv 3) (Aa (Af Ga (Aa (pv 0) (Aa Ah (Aa Ah (Aa (Ag Be (pv 3) Ae) Ac))))) Ac))))) (Fx Ed (pv 2)) (An _))))))))))))),?_⟩
 symm;refine⟨x,Str.ofString "r",d,n1,b1,rfl,A,sd,fun H1 s1=>?_⟩;have A:=A.same s1;have B:=B.same s1;symm;refine⟨x,Str.ofString "s",d,n2,b2,rfl,B,sd,fun H2 s2=>?_⟩;have A:=A.same s2;have B:=B.same s2;have s12:=s1.trans s2;symm;refine CK (fun c5=>?_) (fun c5=>?_)
 ·symm;cases h1:On (n1:Int) b1 d<;>cases h2:On (n2:Int) b2 d
  all_goals
   first | refine Ek ?_ | refine Dz ?_
   symm
   first | refine Ek ?_ | refine Dz ?_
   symm
   first | refine Ek ?_ | refine Dz ?_
   symm;refine⟨(by show 5<=sizeLine;decide),fun l hl=>?_⟩;refine fresh hl fun H3 s3 t3=>?_;obtain⟨v,e,hv⟩:=five (k:=k) h1 h2 (show i<5 by lia);symm;exact Bq (SqL.of t3) e (q v _ (s12.trans s3) hv)
 symm;refine CK (fun e5=>?_) (fun e5=>?_)
 ·obtain rfl:i=5:=by have:=V.int.inj e5;lia
  symm;refine⟨x,Str.ofString "r",d-k,n1,b1,rfl,A,?_,fun H3 s3=>?_⟩
  ·unfold Zd at zd;unfold Sm;have:(10:Nat)^40=10000000000000000000000000000000000000000:=by decide
   lia
  exact q _ _ (s12.trans s3) Iff.rfl
 symm;refine CK (fun c10=>?_) (fun c10=>?_)
 ·symm;have i6:6<=i/\i<=9:=by
   have:i≠5:=fun z=>e5 (by rw[z];rfl);lia
  refine⟨x,i,d,n1,b1,n2,b2,rfl,i6.1,i6.2,A,B,zd,zm,zp,fun v H3 s3 hv=>q v _ (s12.trans s3) (hv.trans ?_)⟩;obtain rfl | rfl | rfl | rfl:i=6\/i=7\/i=8\/i=9:=by lia
  all_goals exact Iff.rfl
 symm;refine CK (fun e11=>?_) (fun e11=>?_)
 ·obtain rfl:i=11:=by have:=V.int.inj e11;lia
  have k3:=W.k3 (by decide) (by decide);have kp:(0:Int)<(k.natAbs:Int):=by lia
  symm;cases hon:On (n1:Int) b1 d with
  | false=>
   refine Dz ?_;refine q false _ s12 ⟨(fun z=>nomatch z),fun z=>?_⟩;have:=z.1;rw[hon] at this;cases this
  | true=>
   exists Ek ?_;refine⟨x,Str.ofString "r",k,d,n1,b1,rfl,A,W.sk,sd,?_,fun H3 s3=>?_⟩
   ·exact zd.sm (by lia) (by lia)
   symm;refine⟨_,rfl,?_⟩;rw[show (if k<0 then -k else k)=(k.natAbs:Int) by split<;>lia];symm;exact q _ _ (s12.trans s3) ⟨fun z=>⟨hon,V.int.inj (jd8 z)⟩,fun z=>decide_eq_true (yk V.int z.2)⟩
 have e10:i=10:=by
  have:i≠11:=fun z=>e11 (by rw[z];rfl);lia
 subst e10;have k3:=W.k3 (by decide) (by decide);symm;refine⟨x,false,Str.ofString "s",d,n2,b2,rfl,B,zd,fun op H3 s3 hp lp=>?_⟩;have A:=A.same s3;have B:=B.same s3;have s13:=s12.trans s3;symm;cases hon:On (n1:Int) b1 d with
 | false=>
  exists Ek ?_;refine q false _ s13 ⟨(fun z=>nomatch z),fun z=>?_⟩;have:=z.1;rw[hon] at this;cases this
 | true=>
  exists Dz ?_;exists⟨rfl,?_⟩;cases op with
  | none=>
   have hp:∀e,On (n2:Int) b2 e=false:=hp;exists Ek ?_;refine q false _ s13 ⟨(fun z=>nomatch z),fun z=>?_⟩;obtain⟨_,b',_,hs,_⟩:=z;rw[hp b'] at hs;cases hs
  | some rp=>
   have hp:Jc (On (n2:Int) b2) d rp:=hp;have lp:=lp rp rfl;exists Dz ?_;refine CK (fun kp=>?_) (fun kp=>?_)
   ·obtain⟨rn,hn⟩:∃rn,Ld (On (n2:Int) b2) (d+1) rn:=uX (z:=(n2:Int)) (by lia) (fun d k=>O2 (kq _) d k) hp.2.1 (d+1);rw[show oI (some rp)=V.int rp from rfl];symm;exists⟨x,Str.ofString "r",rp,d+1,n1,b1,rfl,A,zd.sm (by lia) (by lia),zd.sm (by lia) (by lia),Ij (by lia) (by lia),fun H4 s4=>?_⟩;have e:=ZC hon hp hn k3.2.2;rw[xh kp] at e;exact q _ _ (s13.trans s4) ((Iff.intro (fun z=>V.int.inj (jd8 z)) (fun z=>decide_eq_true (yk V.int z))).trans e.symm)
   ·symm;refine⟨x,true,Str.ofString "s",d+1,n2,b2,rfl,B,zp,fun on H4 s4 hn ln=>?_⟩;obtain⟨rn,rfl⟩:∃rn,on=some rn:=by
     cases on with
     | none=>exact absurd hp.2.1 (by rw[(show ∀e,On (n2:Int) b2 e=false from hn) rp];decide)
     | some rn=>exact⟨rn,rfl⟩
    have hn:Ld (On (n2:Int) b2) (d+1) rn:=hn;have ln:=ln rn rfl;rw[show oI (some rn)=V.int rn from rfl];symm;exists⟨x,Str.ofString "r",d,rn,n1,b1,rfl,A.same s4,sd,zd.sm (by lia) (by lia),Ij (by lia) (by lia),fun H5 s5=>?_⟩;have e:=ZC hon hp hn k3.2.2;rw[xk kp] at e;exact q _ _ (s13.trans (s4.trans s5)) ((Iff.intro (fun z=>V.int.inj (jd8 z)) (fun z=>decide_eq_true (yk V.int z))).trans e.symm)
theorem yf:Cu ["_law_script","_law_words","_law_days","_law_cut","_law_one","_law_size","_law_other","_law_more","_law_word","_law_number","_law_desk","_law_row","_law_day_here","_law_found"] ["_law_script"] (BP dW):=by walk_at"s"
theorem zR(F:Fun K "law" "law" dW f fd):F0 138 f fd ["_law_script"] (dO K):=by
 refine F.ok (k:=137) yf (fun h=>?_) fun nd H vs Q E hr h=>?_
 ·obtain⟨a,ns,rfl,_⟩:=h;rfl
 obtain⟨a,ns,rfl,hS,h63,hB,q⟩:=h;refine⟨_,(Ab (K8 (Af Qi (Aa (pv 0) Ac)) (Oa rfl (Dv (Cg (i:=1) nd rfl (by walk_at"o")) (Dv (Cg (i:=2) nd rfl (by walk_at"o")) JH))))
  (Ab (Aj 3 (Ag Be Ae (Ag Bs (Ag Ba (Af CW (Aa (pv 0) (Aa Ae Ac))) Ae) Ae)))
  (Ab (K8 (Af Pk (Aa (Ck Ew (pv 0) (Cr Ae) (Cr (Ag Be (pv 3) Ae))) (Aa (pv 2) Ac))) (Oa rfl (Dv (Cg (i:=4) nd rfl (by walk_at"o")) (Dv (Cg (i:=5) nd rfl (by walk_at"o")) JH))))
  (Ab (K8 (Af Pk (Aa (Ck Ew (pv 0) (Cr (Ag Be (pv 3) Ae)) (Cr (Ag Be (pv 3) Ae))) (Aa (pv 2) Ac))) (Oa rfl (Dv (Cg (i:=6) nd rfl (by walk_at"o")) (Dv (Cg (i:=7) nd rfl (by walk_at"o")) JH))))
  (Ab (Aj 8 (Ag Bs (Af CW (Aa (pv 0) (Aa Ae Ac))) Ae))
  (Ab (Aj 9 (Dp FZ (Ef (Aa (Fx Ed Ae) (Aa (Fx Ed Ae) (Aa (Fx Ed Ae) (Aa Ae (Aa Ae (Aa Ae Ac))))))) (Ag Bs (Af CW (Aa (pv 0) (Aa Ae Ac))) Ae) (fun _ _=>rfl)))
  (Ab (Fe (Ay (PW.pt (K7 (Ak Bk (pv 8) Ae (An _)) (JF (Ak Bk (Ag Bs (Ag Ba (Af CW (Aa (pv 0) (Aa Ae Ac))) Ae) Ae) Ae (An _)))))
   (Ad (Aj 9 (Ag DW (Ag Bs (Ag Ba (Af CW (Aa (pv 0) (Aa Ae Ac))) Ae) (Ag Og Ae Ae)) (Ag Og Ae Ae))))
   Aq))
  (Ab (Fe (Ay (PW.pt (Hi (Ak FW (Af Kz (Aa (pv 5) (Aa (pv 7) Ac))) Ae (An _)) (GQ (PW.pt (K7 (Ak Bk (pv 8) Ae (An _)) (JF (Ak FW (Ag CP (pv 5) Ae) Ae (An _))))))))
   (Ad (Aj 8 (Dp FZ (Ef (Aa Ae (Aa Ae Ac))) (Ag Bs (Ag Ba (Af CW (Aa (pv 0) (Aa Ae Ac))) Ae) Ae) (fun _ _=>rfl))))
   Aq))
  (Ab (Aj 10 (ao Qo (hr.mono (by decide)) rfl))
  (Ab (JG PassesOwn.never rfl (Gj (Ef (Aa (Ag Ao Ah (pv 1)) (Aa (Ag Ao Ah (pv 4)) (Aa (Ag Ao Ah (pv 6)) Ac))))) (Cg (i:=11) nd rfl (by walk_at"o"))
   (Ad (Ay (Ak Gp (Dw Gw DX (pv 10) (Aa (pv 11) Ac)) Ah (An _))
   (Ad (Al VP))
   Aq)))
  (Ab (Ay (Ak Gp (Dw Gw DX (pv 10) (Aa (Ag Ao Ah (Af Te (Aa (pv 8) (Aa (pv 9) (Aa (pv 4) (Aa (pv 6) Ac)))))) Ac)) Ah (An _))
   (Ad (Al VP))
   Aq)
  (Ab (Aj 12 (Ag DW (Ag Bs (Af CW (Aa (pv 0) (Aa Ae Ac))) (Ag Og Ae Ae)) (Ag Og Ae Ae)))
  (Ab (Fe (Ay (Ak Bk (Ag Bs (Af CW (Aa (pv 0) (Aa Ae Ac))) Ae) Ae (An _))
   (Ad (Aj 12 (Ag DW (Ag Bs (Ag Ba (pv 12) Ae) Ae) Ae)))
   Aq))
  (Ab (Aj 13 (Dw Gw DX (pv 10) (Aa (Ag Ao Ah (BW BJ rfl Df qr (Aa (pv 12) Ac))) Ac)))
  (Ad (Al (JK (DP iV (pv 13) (Ef (Aa Ah (Aa Ah Ac))) (by rfl)) (IW (DP Bk (DP Bk (pv 13) Ah (An _)) (Af cL (Aa (pv 10) (Aa (pv 8) (Aa (pv 9) (Aa (pv 12) Ac))))) (An _)))))))))))))))))))),?_⟩
 symm;refine⟨a,ns,rfl,hS,h63,fun g pc H1 s1 C=>?_⟩;have og:=C.1;obtain⟨sm,dv,d1,d64⟩:=id og.cy;refine MF (SqT.of C.2) rfl ?_;have hS1:=s1.seq hS;symm;generalize ns.getD (0:Int).toNat 0=c0;obtain⟨cut,hc⟩:∃cut:Nat,5+c0/12%4=(cut:Int):=⟨(5+c0/12%4).toNat,by lia⟩;rw[hc];have cb:5<=cut/\cut<=8:=by lia
 symm;refine GP hS1 fun u hu=>?_;obtain⟨cs1,e1,l1⟩:=xN ns (lo:=5) (hi:=(cut:Int)+1) (i:=5) (j:=cut+1) rfl rfl (by lia);rw[e1];exists fresh hu fun H2 s2 t2=>?_;refine⟨u,cs1,g,rfl,SqL.of t2,l1,og,fun ap p z H3 s3 N=>?_⟩;refine MF (SqT.of N.1) rfl ?_;have N:=N.2;have hS3:=(s2.trans s3).seq hS1;symm;obtain⟨cs2,e2,l2⟩:=xN ns (lo:=(cut:Int)+1) (hi:=(cut:Int)+5) (i:=cut+1) (j:=cut+5) rfl rfl (by lia);refine GP hS3 fun u' hu'=>?_;rw[e2];exists fresh hu' fun H4 s4 t4=>?_;refine⟨u',cs2,g,rfl,SqL.of t4,l2,og,fun ap' p' z' H5 s5 N'=>?_⟩;refine MF (SqT.of N'.1) rfl ?_;have N':=N'.2;have hS5:=(s4.trans s5).seq hS3;have f1:=N.fine sm;have f2:=N'.fine sm;have z0:=N.z0;have z1:=N.z1;symm;generalize ns.getD (0:Int).toNat 0=c1;have w0:=qk c1 (show (12:Int)≠0 by decide);have w1:=qg c1 (show (0:Int)<12 by decide);obtain⟨w,hw⟩:∃w:Nat,c1%12=(w:Int):=⟨(c1%12).toNat,by lia⟩;rw[hw];refine⟨(by show 6<=sizeLine;decide),fun ll hll=>?_⟩;refine fresh hll fun H6 s6 t6=>?_;have t6:H6 ll=some (.lst (k6.map V.int)):=t6;have hS6:=s6.seq hS5;symm;obtain⟨k,k3,ek⟩:=qL (ns.getD (3:Int).toNat 0);refine Bq (SqL.of t6) ek ?_;clear ek;have s16:=(s1.trans s2).trans ((s3.trans s4).trans (s5.trans s6));clear hS1 hS3 hS5 t6 t4 t2;symm;refine FP (fun Z' H'=>H'=H6/\∃k:Int,An5 (Sm k) (-1000000000000000000000000000000<=k) (k<=1000000000000000000000000000000) (w≠5-> -3<=k/\k<=3/\k≠0) (Z'=[some (.ref a),some (.str (sW (Ir g))),some (.int (dyC g)),some (.int (cut:Int)),some (.str (sW p.tx)),some (.int z),some (.str (sW p'.tx)),some (.int z'),some (.int (w:Int)),some (.int k),none,none,none,none])) ?_ ?_
 ·symm;refine CK (fun e5=>?_) (fun e5=>?_)
  ·symm;refine CK (fun e6=>?_) (fun e6=>?_)
   ·symm;rw[p30,p29];have y0:=qk (ns.getD (3:Int).toNat 0/18) (show (1000000000000000000000000000000:Int)≠0 by decide);have y1:=qg (ns.getD (3:Int).toNat 0/18) (show (0:Int)<1000000000000000000000000000000 by decide);exact⟨rfl,_,Ij (by lia) (by lia),by lia,by lia,fun z=>absurd (by have:=V.int.inj e5;lia) z,rfl⟩
   ·symm;exact⟨rfl,k,Ij (by lia) (by lia),by lia,by lia,fun _=>k3,rfl⟩
  ·symm;exact⟨rfl,k,Ij (by lia) (by lia),by lia,by lia,fun _=>k3,rfl⟩
 clear k3;rintro Z' H6 ⟨rfl,k,sk,ka,kb,k3,rfl⟩;symm;refine FP (fun Z' H'=>Az H6 H'/\∃w:Nat,WdK w k/\Z'=[some (.ref a),some (.str (sW (Ir g))),some (.int (dyC g)),some (.int (cut:Int)),some (.str (sW p.tx)),some (.int z),some (.str (sW p'.tx)),some (.int z'),some (.int (w:Int)),some (.int k),none,none,none,none]) ?_ ?_
 ·symm;refine⟨z,z',rfl,N.z0,N.z1,N'.z0,N'.z1,?_⟩;have W:WdK w k:=⟨by lia,sk,fun _ h=>k3 h⟩;symm;refine CK (fun _=>Ek ?_) (fun _=>?_)
  ·symm;refine⟨(by show 2<=sizeLine;decide),fun l hl=>?_⟩;refine fresh hl fun H7 s7 t7=>?_;have hS7:=s7.seq hS6;obtain⟨w',hw',ew⟩:=ACj (ns.getD (3:Int).toNat 0/7);symm;exists Bq (SqL.of t7) ew ?_;exact⟨s7,w',⟨by lia,sk,fun h0 h5=>absurd hw' fun z=>z.elim h0 h5⟩,rfl⟩
  ·symm;refine CK (fun _=>?_) (fun _=>?_)
   ·symm;exists IV ?_;refine CK (fun _=>?_) (fun _=>?_)
    ·symm;refine⟨(by show 2<=sizeLine;decide),fun l hl=>?_⟩;refine fresh hl fun H7 s7 t7=>?_;have hS7:=s7.seq hS6;obtain⟨w',hw',ew⟩:=ACj (ns.getD (3:Int).toNat 0/7);symm;exists Bq (SqL.of t7) ew ?_;exact⟨s7,w',⟨by lia,sk,fun h0 h5=>absurd hw' fun z=>z.elim h0 h5⟩,rfl⟩
    ·symm;exact⟨Az.refl _,w,W,rfl⟩
   ·symm;exact⟨Az.refl _,w,W,rfl⟩
 clear k3 w0 w1;rintro Z' H7 ⟨s7,w,W,rfl⟩;have hS7:=s7.seq hS6;symm;intro x dx fx fd' ne';refine⟨H7,x,dx,rfl,fx,fd',ne',rfl,fun H8 h8 dk=>⟨rfl,?_⟩⟩;have hS8:=h8.seq hS7;symm;exists N8 (Jr ?_);have Z1:=(Lg.s "calendar c ").ap (.w (Ir g) og.tx.2.1);exists⟨_,_,rfl,rfl,Z1.le,?_⟩;have Z2:=(Lg.s "rule r ").ap (.w p.tx f1.tl);exists⟨_,_,rfl,rfl,Z2.le,?_⟩;have Z3:=(Lg.s "rule s ").ap (.w p'.tx f2.tl);exists⟨_,_,rfl,rfl,Z3.le,?_⟩;rw[Z1.eq (ADq g).symm,Z2.eq (ADn p).symm,Z3.eq (ADm p').symm];clear Z1 Z2 Z3;refine⟨(by show 3<=sizeLine;decide),fun ln hln=>?_⟩;refine fresh hln fun H9 s9 t9=>?_;have t9:H9 ln=some (.lst ((rwS g p p').map fun R=>V.str (sW R.T))):=t9;refine⟨ln,rfl,⟨_,SqL.of t9⟩,J4 (xs:=(rwS g p p').map fun R=>V.str (sW R.T)) (fun i Z' H'=>An3 (Kd H9 H') (Dk K ⟨Cv,Bf,BV,Am,BR,CL⟩ H' x (cS g i) (i-1) (mS g p p' i)) (∃v11:Option V,Z'=[some (.ref a),some (.str (sW (Ir g))),some (.int (dyC g)),some (.int (cut:Int)),some (.str (sW p.tx)),some (.int z),some (.str (sW p'.tx)),some (.int z'),some (.int (w:Int)),some (.int k),some (.ref x),v11,none,none])) ⟨Kd.of (Az.refl _),dk.same s9,_,rfl⟩ ?_ ?_ ?_⟩
 ·rintro i Z' H' _ ⟨kd,_⟩;exact SqL.of (kd.lst t9)
 ·rintro i v Z' H' hv ⟨kd,dki,v11,rfl⟩;rw[xo] at hv;obtain⟨R,hR,rfl⟩:=kr.mp hv;have il:i<3:=(qv.mp hR).1;obtain⟨dxi,_,_,_,hxi,_⟩:=id dki.ex;symm;exists⟨x,dxi,_,rfl,hxi,rfl,?_⟩;exists⟨x,cS g i,i-1,mS g p p' i,R,rfl,yt og f1 f2 hR,dki,by lia,tK og f1 f2 hR fun H'' k'' d''=>?_⟩;exists Hm rfl ?_;exact⟨kd.trans k'',d'',_,rfl⟩
 rintro Z' Ha ⟨kd,dka,v11,rfl⟩;have dka:Dk K ⟨Cv,Bf,BV,Am,BR,CL⟩ Ha x (some g) 2 (mS g p p' 3):=dka;have hSa:SqL K Ha a (ns.map V.int):=SqL.kd kd (s9.seq hS8);clear hS6 hS7 hS8 t9;obtain⟨dxa,_,_,_,hxa,_⟩:=id dka.ex;symm;exists⟨x,dxa,_,rfl,hxa,rfl,?_⟩;have f3:=NP.fine2 sm N N' W;have t1':=N.tl;have t2':=N'.tl;have m1':=N.mn;have m2':=N'.mn;refine⟨w,k,p,p',rfl,W,by lia,by lia,fun Hb sb=>?_⟩;have Z:=(Lg.s "rule w ").ap (.w (Gg w k p p').tx f3.tl);refine⟨_,_,rfl,rfl,Z.le,?_⟩;rw[Z.eq (ADl _).symm];clear Z;symm;refine⟨x,some g,2,_,_,rfl,Wz ACJ f3,dka.same sb,by decide,g,rfl,sm,f3,fun Hc kc dkc rl=>?_⟩;have hSc:SqL K Hc a (ns.map V.int):=SqL.kd kc (sb.seq hSa);obtain⟨m,hm⟩:∃m,setM (mS g p p' 3) (sg "w") (((Gg w k p p').sz g).toNat,(Gg w k p p').bt g)=m:=⟨_,rfl⟩;have mr:m (sg "r")=some ((p.sz g).toNat,p.bt g):=by
  rw[<-hm];exact rfl
 have ms:m (sg "s")=some ((p'.sz g).toNat,p'.bt g):=by
  rw[<-hm];exact rfl
 have mw:m (sg "w")=some (((Gg w k p p').sz g).toNat,(Gg w k p p').bt g):=by
  rw[<-hm];exact xh rfl
 rw[hm] at dkc;clear hm hSa dka;symm;exists Hm rfl ?_;rw[p40,p39];have y0:=qk (ns.getD (4:Int).toNat 0) (show (10000000000000000000000000000000000000000:Int)≠0 by decide);have y1:=qg (ns.getD (4:Int).toNat 0) (show (0:Int)<10000000000000000000000000000000000000000 by decide);obtain⟨day,hday⟩:∃day,ns.getD (4:Int).toNat 0%10000000000000000000000000000000000000000-1000000000000000000000000000000000000000=day:=⟨_,rfl⟩;rw[hday];refine FP (fun Z' H'=>H'=Hc/\∃d:Int,An4 (Zd d) (Zd (d-1)) (Zd (d+1)) (Z'=[some (.ref a),some (.str (sW (Ir g))),some (.int (dyC g)),some (.int (cut:Int)),some (.str (sW p.tx)),some (.int z),some (.str (sW p'.tx)),some (.int z'),some (.int (w:Int)),some (.int k),some (.ref x),v11,some (.int d),none])) ?_ ?_
 ·symm;refine CK (fun _=>?_) (fun _=>?_)
  ·symm;exact⟨rfl,_,by unfold Zd;lia,by unfold Zd;lia,by unfold Zd;lia,rfl⟩
  ·symm;exact⟨rfl,_,by unfold Zd;lia,by unfold Zd;lia,by unfold Zd;lia,rfl⟩
 clear hday y0 y1;rintro Z' Hc ⟨rfl,d,zd,zm,zp,rfl⟩;have sd:Sm d:=zd.sm (by lia) (by lia);obtain⟨dxc,_,_,_,hxc,_⟩:=id dkc.ex;symm;exists⟨x,dxc,_,rfl,hxc,rfl,?_⟩;refine⟨_,rfl,Cj sd,?_⟩;have Z:=(Lg.s "on w ").ap (.n sd);exists⟨_,_,rfl,rfl,Z.le,?_⟩;refine⟨x,some g,3,m,.on (sg "w") d,yk (fun z=>[V.ref x,V.str z]) (Z.eq (ADo d).symm),Qw ACJ sd,dkc,by decide,_,_,mw,fun He se=>?_⟩;clear Z;have q1:=N.s1 sm;have q2:=N'.s1 sm;have q3:=PT.sz_pos sm f3.ok;have c1:((p.sz g).toNat:Int)=p.sz g:=by lia
 have c2:((p'.sz g).toNat:Int)=p'.sz g:=by lia
 have c3:(((Gg w k p p').sz g).toNat:Int)=(Gg w k p p').sz g:=by lia
 have due:=xZ W q1.1 q2.1 (dkc.lt mr) rl d;rw[<-c1,<-c2,<-c3] at due;have dke:=dkc.same se;have A:Asks K ⟨Cv,Bf,BV,Am,BR,CL⟩ He x (sg "r") (p.sz g).toNat (p.bt g):=⟨⟨_,_,m,dke,by decide,mr⟩,ACM,by lia,by lia⟩;have B:Asks K ⟨Cv,Bf,BV,Am,BR,CL⟩ He x (sg "s") (p'.sz g).toNat (p'.bt g):=⟨⟨_,_,m,dke,by decide,ms⟩,ACL,by lia,by lia⟩;symm;refine⟨(by show 2<=sizeLine;decide),fun lf hlf=>?_⟩;refine fresh hlf fun Hf sf tf=>?_;refine⟨lf,_,rfl,.inl (SqL.of tf),rfl,rfl,?_⟩;obtain⟨b,hb⟩:∃b,On (((Gg w k p p').sz g).toNat:Int) ((Gg w k p p').bt g) d=b:=⟨_,rfl⟩;rw[hb] at due ⊢;exists⟨true,yk V.bl (ACX b),Ek ?_⟩;exists⟨x,w,k,d,_,_,_,_,rfl,W,ka,kb,A.same sf,B.same sf,zd,zm,zp,fun v Hg _ hv=>?_⟩;rw[AAz (ku.mpr (due.trans hv.symm))];exact q _
end
theorem AAm{w:World}{h:Heap}{mg:Str->Option Value}{fa:Addr}(X:(Hd.K w.params).In h)(G:h.Ns mainGlobals mg)(hfa:mg "law"=some (.ref fa))(Q:FnG (Hd.K w.params) "law" "law" "law" dW):
 ∃fd:FuncData,(∀(s:Shared) (v:Value),BindsTo s fd ⟨[v],[]⟩ [("_law_script",v)])/\∀base:Heap,(Hd.K w.params).In base->base.Ns mainGlobals mg->Es PySem.Challenge.rw_feastwheel_k91_whole_what_a_text_says.prog w (Hd.K w.params) mg base CX0 138 fa fd ["_law_script"] (dO (Hd.K w.params)):=by
 obtain⟨f,fd,a,F⟩:=Q;have e:=hfa.symm.trans (jh3 X G a);cases e;refine⟨fd,?_,fun base X2 G2=>?_⟩
 ·obtain⟨_,_,_,_,_,_,_,_,_,rfl,_,_⟩:=F.ex;exact fun s v=>.of_eq rfl
 exact Classical.byContradiction fun hn=>have z:=Classical.epsilon_spec (p:=fun d=>Gi d/\¬Ok d) ⟨⟨w,mg,base⟩,⟨X2,G2⟩,fun c=>hn (c F)⟩;z.2 fun F=>(haveI:Giv:=⟨z.1.X,z.1.G⟩;zR F)
end Fw
open PySem PySem.W PyProof.Rows
set_option maxRecDepth 100000 in
set_option maxHeartbeats 0 in
theorem PySem.Challenge.cw_feastwheel_k91_whole_what_a_text_says_holds : PySem.Challenge.rw_feastwheel_k91_whole_what_a_text_says.Holds := by
 refine Hd.ws fun said=>Hd.op said ?_;delta Hd.hk;k_fill;refine L2.j8 (l:=PySem.Challenge.rw_feastwheel_k91_whole_what_a_text_says) (k:=138) rfl rfl ⟨rfl,by decide,by decide,rfl⟩ (fun w h Y=>PySem.W.kIn_of Y) ?F
 case F=>
  intro w mg fa h KX G hmg;exact Fw.AAm KX G hmg (by refine' L2.pF ?_ ?_ ?_ ?_<;>first | k_is | skip)
#print axioms PySem.Challenge.cw_feastwheel_k91_whole_what_a_text_says_holds
