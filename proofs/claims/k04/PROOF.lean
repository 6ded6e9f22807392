import PyProof.Rows.All
import Wide.All
import OpenK.AllK
import Wide.FinOn
import HandS.ForMost
import HandS.AnyAll
import HandS.IsInst
import HandS.Wide
import HandS.EndTab
import HandS.TupLe
import HandS.Walk
import HandS.Conv
import HandS.Set
import HandS.Strs
import HandS.TupSets
import PyProof.Rows.SortShellAny
import HandS.TupAny
import HandS.More
import PySem.Challenge.RW_owedonce_k04_names_that_are_free
set_option Elab.async false
set_option linter.all false
set_option maxRecDepth 100000
set_option maxHeartbeats 4000000
namespace Ow
open PySem PySem.Spec PyProof.Rows L2
/-! ### the law's number source: a list of two ints -/
abbrev M61 : Int := 2305843009213693951
structure Fd (H : Hp) (p : Addr) : Prop where
  ex : ∃ d s : Int, H p = some (.lst [.int d, .int s]) ∧ 0 ≤ d ∧ 0 ≤ s ∧ s < M61
theorem same_upd {H : Hp} {p : Addr} {o : HO} (h : H p = none) : Same H (upd H p o) := fun b x e => by
  rw [upd_ne (ne_of_none e h)]
  exact e
/-- all but what stands at p is as it was -/
def But (p : Addr) (H H' : Hp) : Prop := ∀ b, b ≠ p → H' b = H b
theorem But.refl {p : Addr} {H : Hp} : But p H H := fun _ _ => rfl
theorem But.trans {p : Addr} {H H1 H2 : Hp} (a : But p H H1) (b : But p H1 H2) : But p H H2 := fun c h => (b c h).trans (a c h)
theorem But.upd {p : Addr} {H : Hp} {o : HO} : But p H (upd H p o) := fun _ h => upd_ne h
def spFeed (K : PySem.W.Frag) : Sp := fun vs H Q _ => ∃ (a : Addr) (ns : List Int) (k : Nat), vs = [.ref a, .int k] ∧ SqL K H a (ns.map V.int) ∧ k < 1000000 ∧
  ∀ p H', H p = none → Fd H' p → But p H H' → Q (.ref p) H'
def spTake : Sp := fun vs H Q _ => ∃ (p : Addr) (m : Int), vs = [.ref p, .int m] ∧ Fd H p ∧ 0 < m ∧ m < 1073741824 ∧
  ∀ r H', 0 ≤ r → r < m → Fd H' p → But p H H' → Q (.int r) H'
def spPickS : Sp := fun vs H Q _ => ∃ (p : Addr) (z : Str), vs = [.ref p, .str z] ∧ Fd H p ∧ 0 < z.length ∧ z.length < 1000000 ∧
  ∀ c H', c ∈ z.cps.toList → Fd H' p → But p H H' → Q (.str ⟨#[c]⟩) H'
def spPickL (K : PySem.W.Frag) : Sp := fun vs H Q _ => ∃ (p q : Addr) (xs : List V), vs = [.ref p, .ref q] ∧ p ≠ q ∧ (SqL K H q xs ∨ SqT K H q xs) ∧ Fd H p ∧ 0 < xs.length ∧ xs.length < 1000000 ∧
  ∀ x H', x ∈ xs → Fd H' p → But p H H' → Q x H'
def spPick (K : PySem.W.Frag) : Sp := fun vs H Q E => spPickS vs H Q E ∨ spPickL K vs H Q E
theorem line_ge : 1000000 ≤ sizeLine := by decide
/-! ### texts of one sign -/
theorem lt_one (a b : Nat) : decide ([a] < [b]) = decide (a < b) := by
  by_cases h : a < b
  · rw [decide_eq_true h, decide_eq_true (List.cons_lt_cons_iff.mpr (.inl h))]
  · rw [decide_eq_false h, decide_eq_false]
    intro z
    rcases List.cons_lt_cons_iff.mp z with z | ⟨_, z⟩
    · exact h z
    · exact absurd z (List.not_lt_nil _)
theorem elt_az {prog : Program} {w : World} {scope : Scope} {x lo hi : Str} {j1 j2 : Nat} {p1 p2 p3 p4 : Pos} (hk : scope.kind = .function) (hl : scope.names.lookup x = some .local) (hd : (x == ("__debug__" : Str)) = false := by decide) :
    GxR.EltP prog w scope x (.Compare (.Constant (.str lo) j1 p1) [.LtE, .LtE] [.Name x p2, .Constant (.str hi) j2 p3] p4) (fun c => !decide ([c] < lo.cps.toList) && !decide (hi.cps.toList < [c])) := by
  intro cenv A' E' c t s₂ m₂ hs hn hm
  refine Compare_chain (Calls.Constant_str (chain_link ?_)) rfl
  refine wpAny_Name (wpAny_loadName_local (by rw [hs]; exact hk) (show cenv.scope.names.lookup x = some .local by rw [hs]; exact hl) hn hm ?_) hd
  refine PySem.P.le_str ?_
  refine wpAny_truthy_bool ?_
  cases e : decide ([c] < lo.cps.toList) with
  | true =>
    have z : [c] < lo.cps.toList := of_decide_eq_true e
    simp only [z, decide_true, Bool.not_true, Bool.false_eq_true, if_false, Bool.false_and]
    exact ⟨trivial, GxR.keeps_tok _ _⟩
  | false =>
    have z : ¬ [c] < lo.cps.toList := of_decide_eq_false e
    simp only [z, decide_false, Bool.not_false, if_true, Bool.true_and]
    refine chain_last (Calls.Constant_str ?_)
    exact PySem.P.le_str ⟨rfl, GxR.keeps_tok _ _⟩
theorem fn_code {P : Program} {w : World} {K : PySem.W.Frag} {mg : Str → Option Value} {base : Heap} {x qual : Str} {st : Stmt} {f c : Addr} {N ps : List Str} {k : Nat} {sp : Sp} {oc : Value} {od an : Option Addr} {osl : Array (Option Value)} {kV doc pm ct : Value}
    (lk : K.lookup f = some ⟨oc, od, .func (PySem.W.fnOf x qual (defArgs st) (defBody st) (defScope st) .none kV doc pm an (.ref c) ct), osl⟩) (hcd : PySem.W.codeIn K (.ref c) qual = true) (S : FnScope N ps (defScope st)) (len : ∀ vs H Q E, sp vs H Q E → vs.length = ps.length)
    (hbody : ∀ (A : Around) (outer : List Env) (s : Shared) (H : Hp) (vs : List V) (Q : VK) (E : XK), Room k (A.deeper (envOfC qual (defScope st) s.heap.objs.size f (.ref c))) → sp vs H Q E →
      ∃ t, PSs (cxOf CX0 P w K mg base N qual (defScope st) f (.ref c) A outer s H E).nox (defBody st) t ∧ t { nx := fun _ H' => Q .non H', rt := Q } (start N vs) H) :
    FnOk P w K mg base CX0 (k + 1) f (PySem.W.fnOf x qual (defArgs st) (defBody st) (defScope st) .none kV doc pm an (.ref c) ct) ps sp := by
  refine fn_of lk hcd S len fun A outer s H vs Q E hr hsp => ?_
  obtain ⟨t, h, q⟩ := hbody A outer s H vs Q E hr hsp
  exact ⟨t, h.nox, q⟩
/-! ### is_name -/
def isNm (z : Str) : Bool := decide (1 ≤ z.length ∧ z.length ≤ 8) && z.cps.toList.all fun c => decide (97 ≤ c ∧ c ≤ 122)
/-- x is no text, of the type t -/
def NoStr (K : PySem.W.Frag) (H : Hp) (x : V) : Prop := ∃ t, TyX K H x t ∧ PySem.W.kitOne K t (.type "str") = some false
def spName (K : PySem.W.Frag) (T : Addr) : Sp := fun vs H Q _ => ∃ x, vs = [x] ∧ GxR.TabG H T ∧ ((∃ z, x = .str z ∧ z.length ≤ sizeLine ∧ ∀ H2, GxR.Tabbed T H H2 → Q (.bl (isNm z)) H2) ∨ (NoStr K H x ∧ Q (.bl false) H))
theorem az_eq (c : Nat) : (!decide ([c] < [97]) && !decide ([122] < [c])) = decide (97 ≤ c ∧ c ≤ 122) := by
  rw [lt_one, lt_one]
  by_cases h1 : 97 ≤ c
  · by_cases h2 : c ≤ 122
    · rw [decide_eq_false (show ¬ c < 97 by omega), decide_eq_false (show ¬ 122 < c by omega), decide_eq_true ⟨h1, h2⟩]
      rfl
    · rw [decide_eq_true (show 122 < c by omega), decide_eq_false (show ¬ (97 ≤ c ∧ c ≤ 122) by omega), Bool.not_true, Bool.and_false]
  · rw [decide_eq_true (show c < 97 by omega), decide_eq_false (show ¬ (97 ≤ c ∧ c ≤ 122) by omega)]
    rfl
theorem tab_refl {T : Addr} {H : Hp} (h : GxR.TabG H T) : GxR.Tabbed T H H := ⟨h, fun _ _ => rfl⟩
end Ow
namespace Ow
open PySem PySem.Spec PyProof.Rows L2
/-- text * 2 -/
theorem op_mul_str2 {X : Cx} : OpR X (binaryOp .Mult) (fun x y H Q => ∃ (z : Str), x = .str z ∧ y = .int 2 ∧ z.length ≤ 1000 ∧ Q (.str (z ++ z)) H) := by
  intro pins s σ H x y v u Q I rx ry h
  obtain ⟨z, rfl, rfl, hz, q⟩ := h
  obtain ⟨t, rfl⟩ := rx
  obtain ⟨t', rfl⟩ := ry
  refine PySem.P.mul_str (by decide) (fun _ _ => ?_) (fun _ _ => ?_) ?_
  · have : ((2 ^ 63 - 1) / 2 : Int) = 4611686018427387903 := by decide
    rw [this]
    omega
  · refine decide_eq_false ?_
    have : (2 : Int).toNat = 2 := rfl
    rw [this]
    have := line_ge
    show ¬ (z.length * 2 > sizeLine)
    omega
  · rw [if_neg (by decide)]
    by_cases e : ((2 : Int) == 1 || z.length == 0) = true
    · rw [if_pos e]
      have e0 : z.length = 0 := by
        simpa using e
      have ez : z ++ z = z := by
        obtain ⟨c⟩ := z
        have : c = #[] := Array.eq_empty_of_size_eq_zero e0
        subst this
        rfl
      refine ⟨.str z, H, I, ⟨_, rfl⟩, ?_⟩
      rw [← ez]
      exact q
    · rw [if_neg e]
      have ez : (⟨(List.replicate (2 : Int).toNat z.cps).foldl (· ++ ·) #[]⟩ : Str) = z ++ z := by
        show (⟨(#[] ++ z.cps) ++ z.cps⟩ : Str) = ⟨z.cps ++ z.cps⟩
        rw [Array.empty_append]
      rw [ez]
      refine ⟨?_, .str (z ++ z), H, I.tok _, ⟨_, rfl⟩, q⟩
      have h1 := line_ge
      have h2 : (z ++ z).length = z.length + z.length := Array.size_append
      omega
/-- list(text) -/
def signs (z : Str) : List V := z.cps.toList.map fun c => .str ⟨#[c]⟩
theorem call_list_text {X : Cx} (hc : X.calm = true) : CallR X (.type "list") (fun xs H Q => ∃ z, xs = [.str z] ∧ z.length ≤ sizeLine ∧ ∀ l, H l = none → Q (.ref l) (upd H l (.lst (signs z)))) := by
  intro pins s σ H xs us Q I r h
  obtain ⟨z, rfl, hz, q⟩ := h
  obtain ⟨u, rfl, rx⟩ := vals1 r
  obtain ⟨t, rfl⟩ := rx
  have el : (signs z).length = z.length := by
    unfold signs
    rw [List.length_map]
    simp [Str.length]
  refine PySem.call_list_str (I.ok.hd hc) z t (fun h' tk acc' c' hkeep hS hacc => ?_) hz
  refine ⟨.ref s.heap.objs.size, upd H s.heap.objs.size (.lst (signs z)), I.laid hkeep (Nat.le_refl _) (show ObjOk X.prog X.w _ _ _ (.lst (signs z)) from ⟨?_, acc'.toList, c', ?_, ?_⟩), rfl, q _ (I.hok.fresh (Nat.le_refl _))⟩
  · rw [el]
    exact hz
  · have ea : acc'.toList.length = acc'.size := by simp
    refine vals_of_at (by rw [ea, hacc.1, el]; rfl) fun j x w h1 h2 => ?_
    obtain ⟨c, t2, hc1, e⟩ := hacc.2 j w (by rw [← Array.getElem?_toList]; exact h2)
    subst e
    unfold signs at h1
    rw [List.getElem?_map, Array.getElem?_toList, hc1] at h1
    cases h1
    exact ⟨_, rfl⟩
  · rw [Array.toArray_toList]
    exact hS
end Ow
namespace Ow
open PySem PySem.Spec PyProof.Rows L2
/-- but for the table at T all that stood stands -/
structure SB (T : Addr) (H H' : Hp) : Prop where
  sb : ∀ b o, b ≠ T → H b = some o → H' b = some o
  tab : GxR.TabG H' T
section
variable {T : Addr} {H H0 H1 H2 : Hp}
theorem SB.refl (h : GxR.TabG H T) : SB T H H := ⟨fun _ _ _ e => e, h⟩
theorem SB.trans (x : SB T H H1) (y : SB T H1 H2) : SB T H H2 := ⟨fun b o n e => y.sb b o n (x.sb b o n e), y.tab⟩
theorem tab_ne {b : Addr} {o : HO} (h : GxR.TabG H T) (e : H b = some o) (n : ∀ ps, o ≠ .tbl ps) : b ≠ T := by
  obtain ⟨ps, h1, _⟩ := h
  exact ne_of e h1 (n ps)
theorem tab_upd {l : Addr} {o : HO} (h : GxR.TabG H T) (hl : l ≠ T) : GxR.TabG (upd H l o) T := by
  obtain ⟨ps, h1, h2⟩ := h
  exact ⟨ps, by rw [upd_ne hl.symm]; exact h1, h2⟩
theorem tab_new {l : Addr} (h : GxR.TabG H T) (hl : H l = none) : l ≠ T := by
  obtain ⟨ps, h1, h2⟩ := h
  exact (ne_of_none h1 hl).symm
theorem SB.new {l : Addr} {o : HO} (x : SB T H H1) (hl : H1 l = none) : SB T H (upd H1 l o) :=
  ⟨fun b u n e => by
    rw [upd_ne (ne_of_none (x.sb b u n e) hl)]
    exact x.sb b u n e, tab_upd x.tab (tab_new x.tab hl)⟩
/-- what is new since H may be changed -/
theorem SB.set {l : Addr} {o : HO} (x : SB T H H1) (hl : H l = none) (ht : l ≠ T) : SB T H (upd H1 l o) :=
  ⟨fun b u n e => by
    rw [upd_ne (ne_of_none e hl)]
    exact x.sb b u n e, tab_upd x.tab ht⟩
theorem SB.but {p : Addr} (x : SB T H H1) (hp : H p = none) (ht : p ≠ T) (b : But p H1 H2) : SB T H H2 :=
  ⟨fun c u n e => by
    rw [b c (ne_of_none e hp)]
    exact x.sb c u n e, by
    obtain ⟨ps, h1, h2⟩ := x.tab
    exact ⟨ps, by rw [b T ht.symm]; exact h1, h2⟩⟩
theorem SB.tabd (x : SB T H H1) (t : GxR.Tabbed T H1 H2) : SB T H H2 :=
  ⟨fun b o n e => by
    rw [t.2 b n]
    exact x.sb b o n e, t.1⟩
theorem SB.sq {K : PySem.W.Frag} {a : Addr} {xs : List V} (x : SB T H H1) (t : GxR.TabG H T) (h : SqL K H a xs) : SqL K H1 a xs := by
  rcases h with (h | ⟨o, h⟩) | h
  · exact .inl (.inl (x.sb _ _ (tab_ne t h (fun _ z => by cases z)) h))
  · exact .inl (.inr ⟨o, x.sb _ _ (tab_ne t h (fun _ z => by cases z)) h⟩)
  · exact .inr h
theorem SB.fd {p : Addr} (x : SB T H H1) (t : GxR.TabG H T) (h : Fd H p) : Fd H1 p := by
  obtain ⟨d, s, e, r⟩ := h
  exact ⟨d, s, x.sb _ _ (tab_ne t e (fun _ z => by cases z)) e, r⟩
theorem Fd.ne {p : Addr} (h : Fd H p) (t : GxR.TabG H T) : p ≠ T := by
  obtain ⟨d, s, e, r⟩ := h
  exact tab_ne t e (fun _ z => by cases z)
theorem SB.none (x : SB T H H1) (t : GxR.TabG H T) {l : Addr} (h : H1 l = none) : H l = none := by
  cases e : H l with
  | none => rfl
  | some o =>
    by_cases n : l = T
    · subst n
      obtain ⟨ps, h1, _⟩ := x.tab
      rw [h1] at h
      cases h
    · rw [x.sb l o n e] at h
      cases h
end
end Ow
namespace Ow
open PySem PySem.Spec PyProof.Rows L2
def one (c : Nat) : Str := ⟨#[c]⟩
theorem len_cps (z : Str) : z.cps.toList.length = z.length := by simp [Str.length]
theorem join_one : ∀ zs : List Nat, (Str.join ⟨#[]⟩ (zs.map one)).cps.toList = zs
  | [] => rfl
  | [c] => rfl
  | c :: d :: r => by
    have ih := join_one (d :: r)
    show ((#[c] ++ #[]) ++ (Str.join ⟨#[]⟩ ((d :: r).map one)).cps).toList = _
    rw [Array.toList_append, ih]
    rfl
theorem sum_one : ∀ zs : List Nat, (((zs.map one).map (·.length)).sum : Nat) = zs.length
  | [] => rfl
  | c :: r => by
    show 1 + ((r.map one).map (·.length)).sum = r.length + 1
    rw [sum_one r]
    omega
theorem cutS_len (z : Str) (lo hi : Option Int) : (cutS z lo hi).length ≤ z.length := by
  have e : (cutS z lo hi).length = (cutS z lo hi).cps.toList.length := (len_cps _).symm
  rw [e]
  unfold cutS
  rw [List.toList_toArray, List.length_take, List.length_drop, len_cps]
  omega
theorem app_len (x y : Str) : (x ++ y).length = x.length + y.length := Array.size_append
def az : List Nat := [97, 98, 99, 100, 101, 102, 103, 104, 105, 106, 107, 108, 109, 110, 111, 112, 113, 114, 115, 116, 117, 118, 119, 120, 121, 122]
theorem mem_az (c : Nat) : c ∈ az ↔ 97 ≤ c ∧ c ≤ 122 := by
  unfold az
  simp only [List.mem_cons, List.not_mem_nil, or_false]
  omega
theorem dec_az (c : Nat) : decide (c ∈ az) = decide (97 ≤ c ∧ c ≤ 122) := decide_eq_decide.mpr (mem_az c)
end Ow
namespace Ow
open PySem PySem.Spec PyProof.Rows L2
/-- signs below 128 -/
def Lo (z : Str) : Prop := ∀ c ∈ z.cps.toList, c < 128
theorem Lo.app {x y : Str} (a : Lo x) (b : Lo y) : Lo (x ++ y) := by
  intro c hc
  have e : (x ++ y).cps.toList = x.cps.toList ++ y.cps.toList := Array.toList_append
  rw [e] at hc
  rcases List.mem_append.mp hc with h | h
  · exact a c h
  · exact b c h
theorem Lo.cut {x : Str} (a : Lo x) (lo hi : Option Int) : Lo (cutS x lo hi) := by
  intro c hc
  unfold cutS at hc
  rw [List.toList_toArray] at hc
  exact a c (List.mem_of_mem_drop (List.mem_of_mem_take hc))
def sg (c : Nat) : V := .str ⟨#[c]⟩
theorem dp_signs {K : PySem.W.Frag} {H : Hp} : ∀ l : List Nat, DpAll K H (l.map sg) (l.map fun c => PyData.str ⟨#[c]⟩)
  | [] => .nil
  | _ :: r => .cons (.str _) (dp_signs r)
theorem lay_signs : ∀ l : List Nat, (∀ c ∈ l, c < 128) → PyData.canLayAll0 (l.map fun c => PyData.str ⟨#[c]⟩) = true
  | [], _ => by simp [PyData.canLayAll0]
  | c :: r, h => by
    have h1 : c < 128 := h c List.mem_cons_self
    have h2 := lay_signs r fun d hd => h d (List.mem_cons_of_mem _ hd)
    have h3 : PyData.strOk ⟨#[c]⟩ = true := by
      simp [PyData.strOk]
      omega
    rw [List.map_cons]
    unfold PyData.canLayAll0
    rw [h2, Bool.and_true]
    unfold PyData.canLay0
    exact h3
theorem depth_signs : ∀ l : List Nat, PyData.depthAll (l.map fun c => PyData.str ⟨#[c]⟩) = 0
  | [] => by simp [PyData.depthAll]
  | c :: r => by
    rw [List.map_cons]
    unfold PyData.depthAll
    rw [depth_signs r]
    simp [PyData.depth]
theorem shaped_signs {l : List Nat} (h : ∀ c ∈ l, c < 128) : SeqAt.shaped (.list (l.map fun c => PyData.str ⟨#[c]⟩)) = true := by
  unfold SeqAt.shaped
  rw [Bool.and_eq_true]
  constructor
  · unfold PyData.canLay0
    exact lay_signs l h
  · unfold PyData.depth
    rw [depth_signs l]
    decide
theorem eqv_nil : ∀ l : List PyData, PyData.eqv (.list l) (.list []) = l.isEmpty
  | [] => by simp [PyData.eqv, PyData.eqvAll]
  | _ :: _ => by simp [PyData.eqv, PyData.eqvAll]
theorem filt_nil (l : List Nat) : (l.filter fun c => !decide (c ∈ az)).isEmpty = l.all fun c => decide (97 ≤ c ∧ c ≤ 122) := by
  rw [Bool.eq_iff_iff, List.isEmpty_iff, List.filter_eq_nil_iff, List.all_eq_true]
  constructor
  · intro h c hc
    have := h c hc
    rw [dec_az] at this
    simpa using this
  · intro h c hc
    have := h c hc
    rw [dec_az, this]
    decide
theorem filt_step {l : List Nat} {j c : Nat} (h : l[j]? = some c) : ((l.take (j + 1)).filter fun c => !decide (c ∈ az)) = ((l.take j).filter fun c => !decide (c ∈ az)) ++ (if decide (c ∈ az) = true then [] else [c]) := by
  rw [List.take_add_one, h, List.filter_append]
  congr 1
  show List.filter _ [c] = _
  by_cases hc : c ∈ az
  · rw [decide_eq_true hc, if_pos rfl, List.filter_cons_of_neg (by rw [decide_eq_true hc]; decide)]
    rfl
  · rw [decide_eq_false hc, if_neg (by decide), List.filter_cons_of_pos (by rw [decide_eq_false hc]; decide)]
    rfl
end Ow
namespace Ow
open PySem PySem.Spec PyProof.Rows L2
/-- no text, told by the heap -/
def NoS (H : Hp) (x : V) : Prop := x = .non ∨ (∃ b, x = .bl b) ∨ (∃ i, x = .int i) ∨ ∃ a xs, x = .ref a ∧ (H a = some (.lst xs) ∨ H a = some (.tup xs))
theorem NoS.str {K : PySem.W.Frag} {H : Hp} {x : V} (h : NoS H x) : NoStr K H x := by
  rcases h with rfl | ⟨b, rfl⟩ | ⟨i, rfl⟩ | ⟨a, xs, rfl, h | h⟩
  · exact ⟨_, .base .non, kit_ty (by decide +kernel)⟩
  · exact ⟨_, .base (.bl _), kit_ty (by decide +kernel)⟩
  · exact ⟨_, .base (.int _), kit_ty (by decide +kernel)⟩
  · exact ⟨_, .base (.lst h), kit_ty (by decide +kernel)⟩
  · exact ⟨_, .base (.tup h), kit_ty (by decide +kernel)⟩
theorem NoS.sb {T : Addr} {H H' : Hp} {x : V} (h : NoS H x) (t : GxR.TabG H T) (b : SB T H H') : NoS H' x := by
  rcases h with rfl | ⟨c, rfl⟩ | ⟨i, rfl⟩ | ⟨a, xs, rfl, h | h⟩
  · exact .inl rfl
  · exact .inr (.inl ⟨_, rfl⟩)
  · exact .inr (.inr (.inl ⟨_, rfl⟩))
  · exact .inr (.inr (.inr ⟨a, xs, rfl, .inl (b.sb _ _ (tab_ne t h fun _ z => by cases z) h)⟩))
  · exact .inr (.inr (.inr ⟨a, xs, rfl, .inr (b.sb _ _ (tab_ne t h fun _ z => by cases z) h)⟩))
end Ow
namespace Ow
open PySem PySem.Spec PyProof.Rows L2 LamX
/-- what is known of the law's promise, where the tables of the defs are told -/
theorem walk_ofTab {l : PySem.W.OpenLaw} {n k : Nat} {q : Program} {loose : List Str} {XP : (Str → Option Value) → Heap → Prop} {YP : World → Heap → Prop} {d : DefRec} {K : Params → PySem.W.Frag} {CX : World → CXT} {x : Str}
    (hn : l.most = some n) (hn2 : n ≤ sizeLine) (hdf : d.params.defaults = []) (hr : Room k callerA) (hY : ∀ (w : World) (h : Heap), YP w h → (K w.params).In h)
    (F : ∀ (w : World) (mg : Str → Option Value) (fa : Addr) (h : Heap), (K w.params).In h → h.Ns mainGlobals mg → mg d.name = some (.ref fa) →
      (∀ (d' : DefRec) (x : Str) (c P : Addr), (recsOf q).find? (fun e => e.name == x) = some d' → PySem.W.tabIn (K w.params) x = some (c, P) → PySem.W.CodeHd h c P ∧ h.get? P = some { cls := .none, data := .fields #[] }) → LawAtS l w (K w.params) (CX w) k n x mg fa h)
    (hCX : ∀ (w : World) (H : Hp) (s : Shared) (e : Value) (s' : Shared), CX w [] H s (fun _ _ _ => False) e s' → False) :
    PySem.W.WalkO q loose XP YP l.row.toRowW d [] (fun f vs => PySem.call f vs) := by
  refine Att.attach_callB hn hdf fun w s₀ s₁ mg mb fa o pm cd doc a vs ns G Y ho hd hcd hmg hobj hints hlen hbits hg => ?_
  have KX := hY w _ Y
  obtain ⟨fd, cs, sp, hT, nT, C, hb, hsp, hF⟩ := F w mg fa _ KX G.T.g hmg (fun d' x c P hr ht => PySem.W.tab_of G.T KX hr ht)
  exact law_callTs KX G.T.g G.T.b G.T.builtins G.T.nolimit hg hT nT C G.T.bmain hobj hints (Nat.le_trans hlen hn2) hr hF hb (fun H hH hS => hsp H a ns hlen hbits hH hS) fun H e s' => hCX w H s₁ e s'
end Ow
namespace Ow
open PySem
theorem tab_mk {K : PySem.W.Frag} {x : Str} {f c P : Addr} {o1 o2 : Value} {d1 d2 : Option Addr} {s1 s2 : Array (Option Value)} {fd : FuncData} {vs : Array Value}
    (a : PySem.W.nsIn K mainGlobals x = some (some (.ref f))) (l : K.lookup f = some ⟨o1, d1, .func fd, s1⟩) (hc : fd.code = .ref c) (lc : K.lookup c = some ⟨o2, d2, .fields vs, s2⟩) (hv : vs[11]? = some (.ref P)) : PySem.W.tabIn K x = some (c, P) := by
  unfold PySem.W.tabIn
  rw [a]
  simp only [l, hc, lc, hv]
theorem tabB {base : Heap} {mg : Str → Option Value} {c P : Addr} (t : LamX.TabB base mg c P) : GxR.TabB base mg c P := ⟨t.code, t.bm, t.gP⟩
end Ow

set_option Elab.async false
set_option linter.all false
set_option maxRecDepth 100000
set_option maxHeartbeats 4000000
namespace Ow
open PySem PySem.Spec PyProof.Rows L2 LamX
/-! ### a def's run where what stands around is known (repr asks for the guards) -/
/-- the promise sp of the def at f, called where A stands around -/
def RunAt (P : Program) (w : World) (K : PySem.W.Frag) (mg : Str → Option Value) (base : Heap) (A : Around) (f : Addr) (fd : FuncData) (ps : List Str) (sp : Sp) : Prop :=
  ∀ (outer : List Env) (s : Shared) (H : Hp) (args : Args) (us : List Value) (vs : List V) (Q : VK) (E : XK), Env0 P w K mg base A outer s H → BindsTo s fd args (ps.zip us) → Vals vs us → sp vs H Q E →
    codeAny (model P w) A (.call (.ref f) args) (CR CX0 outer P w H s Q E) s
section
variable {P : Program} {w : World} {K : PySem.W.Frag} {mg : Str → Option Value} {base : Heap} {A : Around}
theorem run_at {x qual : Str} {st : Stmt} {f : Addr} {fd : FuncData} {N ps : List Str} {k : Nat} {sp : Sp} (F : Fun K x qual st f fd) (S : FnScope N ps (defScope st)) (len : ∀ vs H Q E, sp vs H Q E → vs.length = ps.length) (hr : Room (k + 1) A)
    (hbody : ∀ (cdv : Value) (outer : List Env) (s : Shared) (H : Hp) (vs : List V) (Q : VK) (E : XK), Room k (A.deeper (envOfC qual (defScope st) s.heap.objs.size f cdv)) → sp vs H Q E →
      ∃ t, PSs (cxOf CX0 P w K mg base N qual (defScope st) f cdv A outer s H E).nox (defBody st) t ∧ t { nx := fun _ H' => Q .non H', rt := Q } (start N vs) H) :
    RunAt P w K mg base A f fd ps sp := by
  intro outer s H args us vs Q E env0 hbind hvals hpre
  obtain ⟨oc, od, kV, doc, pm, an, cdv, ct, osl, rfl, there, hcode⟩ := F.ex
  have below : ∀ b o, base.get? b = some o → s.heap.get? b = some o := fun b o e => (env0.bs b o e).1
  have inK : K.In s.heap := env0.mod.kin.keeps below
  have noLim := env0.mod.nolimit.keeps below
  have params : ∀ y ∈ ps.zip us, (defScope st).names.lookup y.1 = some .local ∨ ((defScope st).names.lookup y.1 = some .cell ∧ ((cellsFrom (s.heap.objs.size + 1) (defScope st).names []).lookup y.1).isSome = true) := by
    rintro ⟨n, v⟩ hy
    rcases S.par n (List.of_mem_zip hy).1 with q | q
    · exact Or.inl q
    · exact Or.inr ⟨q, PySem.W.cellsFrom_some _ _ _ (Or.inl q)⟩
  refine codeAny_call_function hr.depth (inK f _ there) rfl S.co S.gen rfl (PySem.W.codeRec_of inK hcode) (hbind _ _ _ _ ?_)
  refine wpAny_newFunctionEnv_cells S.kind params fun env isEnv s1 entered => ?_
  subst isEnv
  refine ⟨noLim.keeps entered.toInCall.keep, codeAny_func ?_⟩
  obtain ⟨t, body, pre⟩ := hbody cdv outer s H vs Q E (hr.deeper _) hpre
  have I := inv_start (CX := CX0) (E := E) S hr.hd env0 (len _ _ _ _ hpre) hvals entered
  refine wpAny_mono (body.nox.run [] s1 (start N vs) H _ I pre) (fun fl s' hs => ?_) fun e s' hs => hs
  cases fl with
  | ret u =>
    obtain ⟨v, σ', H', J, rv, q⟩ := hs
    exact (⟨v, H', J.os, J.bare, J.base, J.hok, rv, q⟩ : CE outer P w H s Q u s')
  | next =>
    obtain ⟨σ', H', J, q⟩ := hs
    exact (⟨.non, H', J.os, J.bare, J.base, J.hok, rfl, q⟩ : CE outer P w H s Q .none s')
  | brk =>
    obtain ⟨_, _, _, q⟩ := hs
    exact q.elim
  | cont =>
    obtain ⟨_, _, _, q⟩ := hs
    exact q.elim
end
/-! ### the law's own call, tables told -/
theorem law_at {P : Program} {w : World} {K : PySem.W.Frag} {mg mb : Str → Option Value} {fa a : Addr} {cs : List (Addr × Addr)} {fd : FuncData} {x : Str} {sp : Sp} {s₁ : Shared} {vs : List Value} {ns : List Int}
    (inK : K.In s₁.heap) (gl : s₁.heap.Ns mainGlobals mg) (bl : s₁.heap.Ns builtinsNs mb) (blt : ∀ x : Str, x ≠ "__name__" → mb x = bootBuiltins x) (lim : s₁.heap.NoLimit) (gens : s₁.gens = #[])
    (tabs : ∀ p ∈ cs, s₁.heap.get? p.2 = some { cls := .none, data := .fields #[] }) (outK : ∀ p ∈ cs, K.lookup p.2 = none) (heads : ∀ p ∈ cs, PySem.W.CodeHd s₁.heap p.1 p.2)
    (bmod : ∃ (bm : Addr) (ob : Obj), mg "__builtins__" = some (.ref bm) ∧ bm ≠ builtinsNs ∧ s₁.heap.get? bm = some ob ∧ ob.cls = .type "module" ∧ ob.dict = some builtinsNs ∧ ob.data = .plain)
    (scr : s₁.heap.get? a = some { cls := .type "list", data := .seq vs.toArray }) (rints : IntsAre vs ns) (few : ns.length ≤ sizeLine)
    (F : ∀ base : Heap, K.In base → base.Ns mainGlobals mg → (∀ p ∈ cs, TabB base mg p.1 p.2) → RunAt P w K mg base callerA fa fd [x] sp) (hbind : ∀ (s : Shared) (u : Value), BindsTo s fd ⟨[u], []⟩ [(x, u)])
    (hsp : ∀ H : Hp, (∀ p ∈ cs, H p.2 = some (.tbl #[])) → SqL K H a (ns.map V.int) → sp [.ref a] H (fun v _ => v = .bl true) fun _ _ _ => False) :
    codeAny (model P w) callerA (.call (.ref fa) ⟨[.ref a], []⟩) (fun r s' => r = .ok (.ret (.bool true)) ∧ OldK s₁.heap s'.heap ∧ s'.os = s₁.os ∧ AllBare s'.gens) s₁ := by
  have rv := vals_ints rints
  -- what is tracked: the script, where it isn't written, and the tables
  let H : Hp := fun b => if (cs.map (·.2)).contains b = true then some (.tbl #[]) else if b = a ∧ K.lookup a = none then some (.frz { cls := .type "list", data := .seq vs.toArray } (.lst (ns.map V.int))) else none
  have ofT : ∀ b, (cs.map (·.2)).contains b = true → s₁.heap.get? b = some { cls := .none, data := .fields #[] } ∧ K.lookup b = none := fun b hb => by
    obtain ⟨p, hp, e⟩ := List.mem_map.mp (List.contains_iff_mem.mp hb)
    rw [← e]
    exact ⟨tabs p hp, outK p hp⟩
  have inT : ∀ p ∈ cs, (cs.map (·.2)).contains p.2 = true := fun p hp => List.contains_iff_mem.mpr (List.mem_map.mpr ⟨p, hp, rfl⟩)
  have hT : ∀ b, (cs.map (·.2)).contains b = true → H b = some (.tbl #[]) := fun b hb => if_pos hb
  have hN : ∀ b, (cs.map (·.2)).contains b ≠ true → b ≠ a → H b = none := fun b h1 h2 => (if_neg h1).trans (if_neg fun z => h2 z.1)
  have aT : (cs.map (·.2)).contains a ≠ true := fun z => by
    have q := (ofT a z).1
    rw [scr] at q
    cases q
  have hA : K.lookup a = none → H a = some (.frz { cls := .type "list", data := .seq vs.toArray } (.lst (ns.map V.int))) := fun z => (if_neg aT).trans (if_pos ⟨rfl, z⟩)
  have hA' : ∀ o, K.lookup a = some o → H a = none := fun o z => (if_neg aT).trans (if_neg fun y => by
    rw [y.2] at z
    cases z)
  -- an object of another kind isn't tracked
  have free : ∀ {b : Addr} {o : Obj}, s₁.heap.get? b = some o → (∀ us n, o.data ≠ .seq us n) → o.data ≠ .fields #[] → H b = none := fun {b o} e n1 n2 => by
    by_cases h1 : (cs.map (·.2)).contains b = true
    · rw [(ofT b h1).1] at e
      cases e
      exact absurd rfl n2
    · by_cases h2 : b = a
      · subst h2
        rw [scr] at e
        cases e
        exact absurd rfl (n1 _ _)
      · exact hN b h1 h2
  have seen : ∀ {b : Addr} {o : Obj}, s₁.heap.get? b = some o → H b = none → (hidT s₁.heap H).get? b = some o := fun e n => hidT_get e n
  have dict : ∀ {b : Addr} {m : Str → Option Value}, s₁.heap.Ns b m → (hidT s₁.heap H).Ns b m := fun {b m} ⟨o, es, ep, e, d, r⟩ => by
    refine ⟨o, es, ep, seen e (free e (fun us n z => ?_) fun z => ?_), d, r⟩
    · rw [d] at z
      cases z
    · rw [d] at z
      cases z
  have inB : K.In (hidT s₁.heap H) := fun b o e => by
    refine seen (inK b o e) ?_
    by_cases h1 : (cs.map (·.2)).contains b = true
    · rw [(ofT b h1).2] at e
      cases e
    · by_cases h2 : b = a
      · subst h2
        exact hA' o e
      · exact hN b h1 h2
  have noLim : (hidT s₁.heap H).NoLimit := by
    obtain ⟨mc, n1, n2⟩ := lim
    exact ⟨mc, dict n1, n2⟩
  have TB : ∀ p ∈ cs, TabB (hidT s₁.heap H) mg p.1 p.2 := fun p hp => by
    have tp := tabs p hp
    refine ⟨?_, ?_, fun z => ?_⟩
    · obtain ⟨o, us, file, tf, flags, tg, inF, text, tt, e1, c1, c2, r⟩ := heads p hp
      refine ⟨o, us, file, tf, flags, tg, inF, text, tt, seen e1 (free e1 (fun vs n z => ?_) fun z => ?_), c1, c2, r⟩
      · rw [c2] at z
        cases z
      · rw [c2] at z
        cases z
        obtain ⟨r1, _⟩ := r
        simp at r1
    · obtain ⟨bm, ob, m1, m2, m3, m4, m5, m6⟩ := bmod
      have f1 : bm ≠ mainGlobals := fun q => by
        obtain ⟨o, es, ep, e, d, _⟩ := gl
        rw [q, e] at m3
        cases m3
        rw [d] at m6
        cases m6
      have f2 : bm ≠ p.2 := fun q => by
        rw [q, tp] at m3
        cases m3
        cases m6
      refine ⟨bm, ob, m1, m2, f1, f2, seen m3 (free m3 (fun us n z => ?_) fun z => ?_), m4, m5, m6⟩
      · rw [m6] at z
        cases z
      · rw [m6] at z
        cases z
    · obtain ⟨o, es, ep, e, d, _⟩ := gl
      rw [z, tp] at e
      cases e
      cases d
  have lenN : ns.length = vs.length := rints.length.symm
  have hok : HOk P w H s₁.heap := fun b u e => by
    by_cases h1 : (cs.map (·.2)).contains b = true
    · rw [hT b h1] at e
      cases e
      exact (ofT b h1).1
    · by_cases h2 : b = a
      · subst h2
        cases z : K.lookup b with
        | none =>
          rw [hA z] at e
          cases e
          exact ⟨scr, by rw [List.length_map]; exact few, vs, _, rv, scr⟩
        | some o =>
          rw [hA' o z] at e
          cases e
      · rw [hN b h1 h2] at e
        cases e
  have e0 : Env0 P w K mg (hidT s₁.heap H) callerA [] s₁ H :=
    ⟨rfl, ⟨inB, dict gl, ⟨mb, dict bl, blt⟩, noLim⟩, fun b o e => of_hidT e, Nat.le_of_eq (hidT_size _ _), trivial, fun b hb => (nomatch hb), hok, .of_eq gens⟩
  have hSq : SqL K H a (ns.map V.int) := by
    cases z : K.lookup a with
    | none => exact .inl (.inr ⟨_, hA z⟩)
    | some o =>
      have e := inK a o z
      rw [scr] at e
      cases e
      exact .inr ⟨_, vs.toArray, _, z, rfl, rfl, rfl, by rw [List.size_toArray, ← lenN]; exact few, by simpa using rv⟩
  refine codeAny_mono (F _ inB (dict gl) TB [] s₁ H ⟨[.ref a], []⟩ [.ref a] [.ref a] _ _ e0 (hbind s₁ (.ref a)) (.cons rfl .nil) (hsp H (fun p hp => hT _ (inT p hp)) hSq)) fun r s' h => ?_
  cases r with
  | error e => exact h.elim
  | ok fl =>
    cases fl with
    | next => exact h.elim
    | brk => exact h.elim
    | cont => exact h.elim
    | ret u =>
      obtain ⟨v, H', os, bare, un, hok', r', q⟩ := h
      obtain rfl : v = V.bl true := q
      obtain rfl : u = Value.bool true := r'
      have same : ∀ b o, (cs.map (·.2)).contains b ≠ true → s₁.heap.get? b = some o → s'.heap.get? b = some o := fun b o nb e => by
        by_cases h2 : b = a
        · subst h2
          cases z : K.lookup b with
          | none =>
            have z2 := un.frzs b _ _ (hA z)
            obtain ⟨e2, _⟩ := hok' b _ z2
            rw [scr] at e
            cases e
            exact e2
          | some o' => exact un.keep b o e (hA' o' z) (fun z => (nomatch z)) (by simp)
        · exact un.keep b o e (hN b nb h2) (fun z => nomatch z) (by simp)
      have grown : ∀ p ∈ cs, ∃ more : Array Value, s'.heap.get? p.2 = some { cls := .none, data := .fields more } := fun p hp => by
        obtain ⟨more, z⟩ := un.tbls p.2 #[] (hT _ (inT p hp))
        exact ⟨_, hok' p.2 _ z⟩
      refine ⟨rfl, ⟨fun b o e => ?_, fun b o e => ?_⟩, os, bare⟩
      · by_cases hb : (cs.map (·.2)).contains b = true
        · obtain ⟨p, hp, ep⟩ := List.mem_map.mp (List.contains_iff_mem.mp hb)
          obtain ⟨more, hm⟩ := grown p hp
          subst ep
          rw [tabs p hp] at e
          cases e
          exact .inr (.inl ⟨((heads p hp).tab (tabs p hp)).isCodeTable, rfl, #[], more, rfl, by rw [Array.empty_append]; exact hm⟩)
        · exact .inl (same b o hb e)
      · by_cases hb : (cs.map (·.2)).contains b = true
        · obtain ⟨p, hp, ep⟩ := List.mem_map.mp (List.contains_iff_mem.mp hb)
          obtain ⟨more, hm⟩ := grown p hp
          subst ep
          exact ⟨_, hm⟩
        · exact ⟨o, same b o hb e⟩
end Ow
namespace Ow
open PySem PySem.Spec PyProof.Rows L2 LamX
/-- repr of data, where nothing is being shown -/
theorem call_repr {X : Cx} (hg : X.A.guards = some []) : CallR X (.builtin "repr") (fun xs H Q => ∃ a d, xs = [.ref a] ∧ Dp X.K H (.ref a) d ∧ d.showable = true ∧ d.hasDict = false ∧ X.A.units + (d.depth + 1) < cLine ∧ d.shown.length ≤ sizeLine ∧ Q (.str d.shown) H) := by
  intro pins s σ H xs us Q I r h
  obtain ⟨a, d, rfl, hd, hs, hn, hu, hz, q⟩ := h
  obtain ⟨u, rfl, rx⟩ := vals1 r
  obtain ⟨as, rd⟩ := Dp.reads I d _ _ hd rx
  obtain rfl : u = Value.ref a := rx
  refine repr_of_reads' rd hs (fun z => absurd (hn.symm.trans z) (by decide)) hg hu (fun _ _ e => e) (fun h' u tk hk => ?_) hz
  exact ⟨.str d.shown, H, I.kept hk, ⟨_, rfl⟩, q⟩
/-- what is known of the law at the head's heap h -/
def LawG (P : Program) (w : World) (K : PySem.W.Frag) (n : Nat) (x : Str) (mg : Str → Option Value) (fa : Addr) (h : Heap) : Prop :=
  ∃ (fd : FuncData) (cs : List (Addr × Addr)) (sp : Sp), (∀ p ∈ cs, h.get? p.2 = some { cls := .none, data := .fields #[] }) ∧ (∀ p ∈ cs, K.lookup p.2 = none) ∧ (∀ p ∈ cs, PySem.W.CodeHd h p.1 p.2) ∧ (∀ (s : Shared) (u : Value), BindsTo s fd ⟨[u], []⟩ [(x, u)]) ∧
    (∀ (H : Hp) (a : Addr) (ns : List Int), ns.length ≤ n → (∀ p ∈ cs, H p.2 = some (.tbl #[])) → SqL K H a (ns.map V.int) → sp [.ref a] H (fun v _ => v = .bl true) fun _ _ _ => False) ∧
    ∀ base : Heap, K.In base → base.Ns mainGlobals mg → (∀ p ∈ cs, TabB base mg p.1 p.2) → RunAt P w K mg base callerA fa fd [x] sp
theorem walk_at {l : PySem.W.OpenLaw} {n : Nat} {q : Program} {loose : List Str} {XP : (Str → Option Value) → Heap → Prop} {YP : World → Heap → Prop} {d : DefRec} {K : Params → PySem.W.Frag} {x : Str}
    (hn : l.most = some n) (hn2 : n ≤ sizeLine) (hdf : d.params.defaults = []) (hY : ∀ (w : World) (h : Heap), YP w h → (K w.params).In h)
    (F : ∀ (w : World) (mg : Str → Option Value) (fa : Addr) (h : Heap), (K w.params).In h → h.Ns mainGlobals mg → mg d.name = some (.ref fa) →
      (∀ (d' : DefRec) (x : Str) (c P : Addr), (recsOf q).find? (fun e => e.name == x) = some d' → PySem.W.tabIn (K w.params) x = some (c, P) → PySem.W.CodeHd h c P ∧ h.get? P = some { cls := .none, data := .fields #[] }) → LawG l.prog w (K w.params) n x mg fa h) :
    PySem.W.WalkO q loose XP YP l.row.toRowW d [] (fun f vs => PySem.call f vs) := by
  refine Att.attach_callB hn hdf fun w s₀ s₁ mg mb fa o pm cd doc a vs ns G Y ho hd hcd hmg hobj hints hlen hbits hg => ?_
  have KX := hY w _ Y
  obtain ⟨fd, cs, sp, hT, nT, C, hb, hsp, hF⟩ := F w mg fa _ KX G.T.g hmg (fun d' x c P hr ht => PySem.W.tab_of G.T KX hr ht)
  exact law_at KX G.T.g G.T.b G.T.builtins G.T.nolimit hg hT nT C G.T.bmain hobj hints (Nat.le_trans hlen hn2) hF hb fun H hH hS => hsp H a ns hlen hH hS
end Ow

set_option Elab.async false
set_option linter.all false
set_option maxRecDepth 100000
set_option maxHeartbeats 4000000
/-! Sets of texts: set(a list of texts), len, sorted. -/
namespace OwS
open PySem PySem.Spec PyProof.Rows L2
def txOf (e : Int × Value) : Str := match e.2 with
  | .str x _ => x
  | _ => Str.empty
/-- at a stands the set of texts with the members S, n of them; it can be walked -/
def TxR (P : Program) (w : World) (h : Heap) (a : Addr) (S : Str → Bool) (n : Nat) : Prop :=
  ∃ o es ep t, h.get? a = some o ∧ o.ExactSet ∧ o.data = .set es ep t ∧ ElemsOf (PySem.strKind P w) es.toList ∧ (es.toList.map txOf).Nodup ∧
    (∀ k, S k = true ↔ k ∈ es.toList.map txOf) ∧ es.size < scanBound ∧ t.fits es.size = true ∧ es.size = n ∧ Ris t.place.toList ∧ (w.params.followText "set-order" = true ∨ t.led = true)
section
variable {P : Program} {w : World} {h h' : Heap} {a : Addr} {S : Str → Bool} {n : Nat}
theorem TxR.keep (R : TxR P w h a S n) (k : ∀ o, h.get? a = some o → h'.get? a = some o) : TxR P w h' a S n := by
  obtain ⟨o, es, ep, t, ho, r⟩ := R
  exact ⟨o, es, ep, t, k o ho, r⟩
theorem TxR.lt (R : TxR P w h a S n) : a < h.objs.size := by
  obtain ⟨o, es, ep, t, ho, r⟩ := R
  exact Heap.lt_size ho
theorem tx_is {l : List (Int × Value)} (g : ElemsOf (PySem.strKind P w) l) {e : Int × Value} (he : e ∈ l) (k : Str) : (PySem.strKind P w).is k e.2 = true ↔ txOf e = k := by
  obtain ⟨⟨k', h1, _⟩, _⟩ := g e he
  obtain ⟨t, h2⟩ := PySem.Value.isStrOf_shape (show PySem.Value.isStrOf k' e.2 = true from h1)
  unfold txOf
  rw [h2]
  constructor
  · intro z
    exact PySem.Value.isStrOf_inj (.str k' t) k' k (by rw [← h2]; exact h1) z
  · intro z
    subst z
    exact strKind_is P w _ t
theorem tx_mem {l : List (Int × Value)} (g : ElemsOf (PySem.strKind P w) l) (k : Str) : k ∈ l.map txOf ↔ ∃ e ∈ l, (PySem.strKind P w).is k e.2 = true := by
  rw [List.mem_map]
  constructor
  · rintro ⟨e, he, q⟩
    exact ⟨e, he, (tx_is g he k).mpr q⟩
  · rintro ⟨e, he, q⟩
    exact ⟨e, he, (tx_is g he k).mp q⟩
theorem TxR.setOf (R : TxR P w h a S n) : h.SetOf (PySem.strKind P w) a S n := by
  obtain ⟨o, es, ep, t, ho, ex, hd, g, nd, hm, hb, hf, hn, _⟩ := R
  exact ⟨o, es, ep, t, ho, ex, hd, g, fun k => (hm k).trans (tx_mem g k), hb, hf, hn⟩
theorem elems_perm {l m : List (Int × Value)} (p : l.Perm m) (g : ElemsOf (PySem.strKind P w) m) : ElemsOf (PySem.strKind P w) l := fun e he => g e (p.mem_iff.mp he)
end
section
variable {P : Program} {w : World} {A : Around} {E : Value → Shared → Prop} {s : Shared} {a : Addr} {S : Str → Bool} {n : Nat}
/-- what is to be stored: the new entries es1 in the table t2 -/
structure New (P : Program) (w : World) (es1 : Array (Int × Value)) (t2 : SetTable) (S' : Str → Bool) : Prop where
  el : ElemsOf (PySem.strKind P w) es1.toList
  nd : (es1.toList.map txOf).Nodup
  mem : ∀ k, S' k = true ↔ k ∈ es1.toList.map txOf
  few : es1.size < scanBound
  fit : t2.fits es1.size = true
  ris : Ris t2.place.toList
  led : w.params.followText "set-order" = true ∨ t2.led = true
theorem New.at {h : Heap} {o : Obj} {es1 : Array (Int × Value)} {ep : Nat} {t2 : SetTable} {S' : Str → Bool} (N : New P w es1 t2 S') (ho : h.get? a = some o) (ex : o.ExactSet) (hd : o.data = .set es1 ep t2) : TxR P w h a S' es1.size :=
  ⟨o, es1, ep, t2, ho, ex, hd, N.el, N.nd, N.mem, N.few, N.fit, rfl, N.ris, N.led⟩
theorem New.relaid {es1 : Array (Int × Value)} {t2 : SetTable} {S' : Str → Bool} (N : New P w es1 t2 S') (k : Nat) :
    New P w (relayAll t2 es1 k).1 (relayAll t2 es1 k).2.1 S' ∧ (relayAll t2 es1 k).1.size = es1.size := by
  have pm := relayAll_perm t2 es1 k
  have sz : (relayAll t2 es1 k).1.size = es1.size := by
    rw [← Array.length_toList]
    exact pm.length_eq.trans Array.length_toList
  refine ⟨⟨elems_perm pm N.el, (pm.map txOf).nodup_iff.mpr N.nd, fun q => (N.mem q).trans (pm.map txOf).mem_iff.symm, ?_, relayAll_fits t2 es1 k, relayAll_ris t2 es1 k, ?_⟩, sz⟩
  · rw [sz]
    exact N.few
  · rw [relayAll_led]
    exact N.led
theorem New.laid {es : Array (Int × Value)} {t : SetTable} {k : Str} {tk : Tok} (g : ElemsOf (PySem.strKind P w) es.toList) (nd : (es.toList.map txOf).Nodup) (hm : ∀ q, S q = true ↔ q ∈ es.toList.map txOf) (room : es.size + 1 < scanBound)
    (hf : t.fits es.size = true) (hr : Ris t.place.toList) (hl : w.params.followText "set-order" = true ∨ t.led = true) (hk : k ∉ es.toList.map txOf) {hs : Int} (ehs : hs = (PySem.strKind P w).hash k) :
    New P w (layNew t es hs (.str k tk)).1 (layNew t es hs (.str k tk)).2.1 (fun j => S j || decide (j = k)) ∧ (layNew t es hs (.str k tk)).1.size = es.size + 1 := by
  have pm : (layNew t es hs (.str k tk)).1.toList.Perm ((hs, Value.str k tk) :: es.toList) := by
    have q := layNew_perm t es hs (.str k tk)
    rw [Array.toList_push] at q
    exact q.trans (List.perm_append_singleton _ _)
  have pk : ((layNew t es hs (.str k tk)).1.toList.map txOf).Perm (k :: es.toList.map txOf) := pm.map txOf
  have sz : (layNew t es hs (.str k tk)).1.size = es.size + 1 := by
    rw [← Array.length_toList, pm.length_eq, List.length_cons, Array.length_toList]
  refine ⟨⟨elems_perm pm fun e he => ?_, pk.nodup_iff.mpr (List.nodup_cons.mpr ⟨hk, nd⟩), fun q => ?_, by rw [sz]; exact room, layNew_fits t es hs (.str k tk), layNew_ris t es hs (.str k tk) hr, ?_⟩, sz⟩
  · rcases List.mem_cons.mp he with z | z
    · rw [z]
      exact ⟨⟨k, strKind_is P w k tk, ehs⟩, rfl⟩
    · exact g e z
  · rw [pk.mem_iff, List.mem_cons, ← hm q, Bool.or_eq_true, decide_eq_true_eq]
    exact Or.comm
  · rw [layNew_led]
    exact hl
end
end OwS
namespace OwS
open PySem PySem.Spec PyProof.Rows L2
section
variable {P : Program} {w : World} {A : Around} {E : Value → Shared → Prop} {s : Shared} {a : Addr} {S : Str → Bool} {n : Nat}
theorem tx_store {g : Bool → Sem Unit} (quiet : ∀ (b : Bool) (s1 : Shared) (Q' : Unit → Shared → Prop), Q' () s1 → wpAny (model P w) A (g b) Q' E s1)
    {o : Obj} {es : Array (Int × Value)} {ep : Nat} {t : SetTable} (ho : s.heap.get? a = some o) (ex : o.ExactSet) (hd : o.data = .set es ep t)
    {es1 : Array (Int × Value)} {t2 : SetTable} {S' : Str → Bool} (N : New P w es1 t2 S') {old : Bool} {R : Option Bool → Shared → Prop}
    (fin : ∀ h', Heap.SameBut a s.heap h' → TxR P w h' a S' es1.size → R (some true) { s with heap := h' }) :
    wpAny (model P w) A (do
        storeSet a es1 t2
        if (!old && t2.tooFull) = true then do
            g (relayAll t2 es1 (SetTable.grown es1.size)).2.2
            storeSet a (relayAll t2 es1 (SetTable.grown es1.size)).1 (relayAll t2 es1 (SetTable.grown es1.size)).2.1
            pure (some true)
          else pure (some true)) R E s := by
  refine wpAny_bind (wpAny_storeSet_of ho hd ?_ (fits_of_scanBound N.few))
  have there := store_at (es' := es1) (t' := t2) ho hd
  have but := Heap.SameBut.update s.heap a (Obj.putSet es1 t2)
  by_cases full : (!old && t2.tooFull) = true
  · rw [if_pos full]
    obtain ⟨N3, sz⟩ := N.relaid (SetTable.grown es1.size)
    refine wpAny_bind (quiet _ _ _ ?_)
    refine wpAny_bind (wpAny_storeSet_of there rfl ?_ (fits_of_scanBound N3.few))
    have there2 := store_at (es' := (relayAll t2 es1 (SetTable.grown es1.size)).1) (t' := (relayAll t2 es1 (SetTable.grown es1.size)).2.1) there rfl
    refine wpAny_pure (fin _ (but.trans (Heap.SameBut.update _ a _)) ?_)
    have q := N3.at (a := a) there2 ex rfl
    rw [sz] at q
    exact q
  · rw [if_neg full]
    exact wpAny_pure (fin _ but (N.at (a := a) there ex rfl))
theorem tx_add {k : Str} {tk : Tok} {Q : Bool → Shared → Prop} (R : TxR P w s.heap a S n) (room : n + 1 < scanBound)
    (hQ : ∀ h', Heap.SameBut a s.heap h' → TxR P w h' a (fun j => S j || decide (j = k)) (if S k = true then n else n + 1) → Q (!S k) { s with heap := h' }) :
    wpAny (model P w) A (setAddHashed a (.str k tk) ((PySem.strKind P w).hash k)) Q E s := by
  obtain ⟨o, es, ep, t, ho, ex, hd, g, nd, hm, hb, hf, hn, hr, hl⟩ := R
  have key := strKind_is P w k tk
  have flat : (Value.str k tk).scannable = true := rfl
  unfold setAddHashed setAddHashedIn
  refine wpAny_holding ?_
  refine wpAny_bind (wpAny_setState_of ho hd hf ?_)
  dsimp only
  rw [byScan_of flat hb g]
  simp only [↓reduceIte]
  unfold setAddByScan
  refine wpAny_bind ?_
  refine wpAny_bind ?_
  refine wpAny_rule ?_
  refine wpAny_bind ?_
  refine wpAny_setScan_of key ho hd hf g ?_
  cases found : List.findIdx? (fun e => (PySem.strKind P w).is k e.2) es.toList with
  | some j =>
    dsimp only
    obtain ⟨hj, pj, _⟩ := List.findIdx?_eq_some_iff_getElem.mp found
    have has : S k = true := (hm k).mpr ((tx_mem g k).mpr ⟨es.toList[j], List.getElem_mem hj, pj⟩)
    refine wpAny_pure (wpAny_pure ?_)
    have q := hQ s.heap (Heap.SameBut.refl a s.heap) ⟨o, es, ep, t, ho, ex, hd, g, nd, fun i => by
      rw [Bool.or_eq_true, decide_eq_true_eq, ← hm i]
      exact ⟨fun z => z.elim id fun e => by rw [e]; exact has, Or.inl⟩, hb, hf, by rw [if_pos has]; exact hn, hr, hl⟩
    rw [has] at q
    exact q
  | none =>
    dsimp only
    have notIn : k ∉ es.toList.map txOf := fun z => by
      obtain ⟨e, he, q⟩ := (tx_mem g k).mp z
      have c := List.findIdx?_eq_none_iff.mp found e he
      rw [q] at c
      cases c
    have hasN : S k = false := by
      cases q : S k with
      | false => rfl
      | true => exact absurd ((hm k).mp q) notIn
    have way : ∀ (b : Bool) {s1 : Shared} {Q' : Unit → Shared → Prop}, Q' () s1 → wpAny (model P w) A (match b with | true => rule "set.scan.the-table-gave-way" | false => pure ()) Q' E s1 := by
      intro b s1 Q' q
      cases b
      · exact wpAny_pure q
      · exact wpAny_rule q
    obtain ⟨N, sz⟩ := New.laid (S := S) (tk := tk) g nd hm (by rw [hn]; exact room) hf hr hl notIn (hs := (PySem.strKind P w).hash k) rfl
    have fin : ∀ h', Heap.SameBut a s.heap h' → TxR P w h' a (fun j => S j || decide (j = k)) (es.size + 1) → Q true { s with heap := h' } := fun h' sb r => by
      have q := hQ h' sb
      rw [hasN] at q
      rw [hn] at r
      exact q r
    rw [← sz] at fin
    generalize layNew t es ((PySem.strKind P w).hash k) (.str k tk) = Z at N fin ⊢
    obtain ⟨es1, t1, old, gave⟩ := Z
    dsimp only at N fin ⊢
    refine wpAny_bind (way _ ?_)
    have quiet : ∀ (b : Bool) (s1 : Shared) (Q' : Unit → Shared → Prop), Q' () s1 → wpAny (model P w) A (match b with | true => rule "set.scan.the-table-gave-way" | false => pure ()) Q' E s1 := fun b s1 Q' q => way b q
    split
    · refine wpAny_bind ?_
      rw [hashByValue_scannable 8 flat]
      refine wpAny_pure ?_
      refine tx_store (S' := fun j => S j || decide (j = k)) ?_ ho ex hd ?_ ?_
      · intro b s1 Q' q
        cases b
        · first | exact wpAny_pure q | exact wpAny_rule q
        · first | exact wpAny_pure q | exact wpAny_rule q
      · have N' := N
        obtain ⟨a1, a2, a3, a4, a5, a6, a7⟩ := N'
        first
          | exact N
          | (refine ⟨a1, a2, a3, a4, ?_, ?_, ?_⟩
             · split
               · first | exact a5 | exact SetTable.fits_plain_off a5
               · first | exact a5 | exact SetTable.fits_plain_off a5
             · split <;> exact a6
             · split <;> exact a7)
      · intro h' sb r
        dsimp only
        exact wpAny_pure (fin h' sb r)
    · refine wpAny_bind (wpAny_pure ?_)
      simp only [↓reduceIte]
      refine tx_store (S' := fun j => S j || decide (j = k)) ?_ ho ex hd N ?_
      · intro b s1 Q' q
        cases b
        · first | exact wpAny_pure q | exact wpAny_rule q
        · first | exact wpAny_pure q | exact wpAny_rule q
      · intro h' sb r
        dsimp only
        exact wpAny_pure (fin h' sb r)
end
end OwS
namespace OwS
open PySem PySem.Spec PyProof.Rows L2
def has (xs : List Str) : Str → Bool := fun k => decide (k ∈ xs)
theorem TxR.congr {P : Program} {w : World} {h : Heap} {a : Addr} {S S' : Str → Bool} {n n' : Nat} (R : TxR P w h a S n) (e : ∀ k, S k = S' k) (en : n = n') : TxR P w h a S' n' := by
  obtain rfl : S = S' := funext e
  subst en
  exact R
section
variable {prog : Program} {w : World} {A : Around} {R : Result → Shared → Prop} {I : Addr} {fp wr : List Addr} {G : Array GenState → Array GenState → Prop} {n : Nat} {P : Nat → Value → Prop} {St : Nat → Shared → Prop}
/-- the texts of xs go into the set at S, one by one -/
theorem tx_loop (W : WalksS prog w A.in1 I fp wr G n P St) (S : Addr) (apart : S ∉ fp) (xs : List Str) (sz : xs.length = n) (few : n + 1 < scanBound) (val : ∀ i v, P i v → ∃ x t, xs[i]? = some x ∧ v = .str x t) :
    ∀ (k i : Nat) (s : Shared), n - i = k → i ≤ n → St i s → (∃ m, m ≤ i ∧ TxR prog w s.heap S (has (xs.take i)) m) →
      (∀ s' m, Moved (S :: wr) G s s' → TxR prog w s'.heap S (has xs) m → R (.ok (.ret .none)) s') →
      codeAny (model prog w) A (.builtin "set.update.loop" ⟨[.ref S, .ref I], []⟩) R s := by
  have notWr : S ∉ wr := fun z => apart (W.sub _ z)
  have more : ∀ b ∈ wr, b ∈ S :: wr := fun b hb => List.mem_cons_of_mem _ hb
  intro k
  induction k with
  | zero =>
    intro i s hk hi hst hS hR
    obtain rfl : i = n := by omega
    obtain ⟨m, _, r⟩ := hS
    refine codeAny_builtin PyProof.Rows.F.entry_set_update_loop ?_
    rw [Around.under_plainId PyProof.Rows.F.plain_set_update_loop _]
    show wpAny _ A.in1 (pyNext (.ref I) >>= _) _ _ s
    refine wpAny_bind (W.done s _ _ hst fun s' moved => ?_)
    show wpAny _ A.in1 (ret Value.none) _ _ s'
    refine wpAny_pure (hR s' m (moved.mono more) ?_)
    have e : xs.take i = xs := List.take_of_length_le (by omega)
    rw [e] at r
    exact r.keep fun o e => moved.heap S o notWr e
  | succ k ih =>
    intro i s hk hi hst hS hR
    have lt : i < n := by omega
    obtain ⟨m, hm, r⟩ := hS
    refine codeAny_builtin PyProof.Rows.F.entry_set_update_loop ?_
    rw [Around.under_plainId PyProof.Rows.F.plain_set_update_loop _]
    show wpAny _ A.in1 (pyNext (.ref I) >>= _) _ _ s
    refine wpAny_bind (W.item i s _ _ lt hst fun v s' hv hst' moved => ?_)
    obtain ⟨x, t, hx, rfl⟩ := val i v hv
    have r' := r.keep fun o e => moved.heap S o notWr e
    show wpAny _ A.in1 (holding [Value.str x t] (setAdd S (.str x t)) >>= _) _ _ s'
    refine wpAny_bind ?_
    refine wpAny_holding ?_
    unfold setAdd
    refine wpAny_holding ?_
    refine wpAny_bind ?_
    refine (PySem.strKind prog w).pyHash (k := x) (strKind_is _ _ _ _) ?_
    refine tx_add (s := { s' with toks := s'.toks + 1 }) r' (by omega) fun h' but r2 => ?_
    have r3 : ∃ m', m' ≤ i + 1 ∧ TxR prog w h' S (has (xs.take (i + 1))) m' := by
      refine ⟨_, ?_, r2.congr (fun q => ?_) rfl⟩
      · split <;> omega
      · unfold has
        rw [List.take_add_one, hx]
        show (decide (q ∈ xs.take i) || decide (q = x)) = decide (q ∈ xs.take i ++ [x])
        rw [← Bool.decide_or]
        exact decide_eq_decide.mpr (by rw [List.mem_append, List.mem_singleton])
    refine wpAny_pure ⟨plainId_quiet PyProof.Rows.F.plain_set_update_loop _, ih (i + 1) _ (by omega) lt (W.frame _ s' _ _ hst' (Nat.le_succ _) fun b hb o e => ?_) r3 fun s'' m' moved2 r4 => ?_⟩
    · refine (but.2 b fun z => apart ?_).trans e
      rw [← z]
      exact hb
    · refine hR s'' m' (Moved.trans W.gtrans ((moved.mono more).then_heap (Nat.le_succ _) fun b o hb e => ?_) moved2) r4
      refine (but.2 b fun z => hb ?_).trans e
      rw [z]
      exact List.mem_cons_self
end
theorem tx_fresh {P : Program} {w : World} {h : Heap} {a : Addr} (e : h.get? a = some { cls := .type "set", dict := none, data := .set #[] 0 (.fresh 0 0 (!w.params.followText "set-order")) }) : TxR P w h a (fun _ => false) 0 := by
  refine ⟨_, #[], 0, _, e, ⟨rfl, rfl, rfl⟩, rfl, fun x hx => absurd hx (by simp), List.nodup_nil, fun k => by simp, by decide, rfl, rfl, List.Pairwise.nil, ?_⟩
  cases z : w.params.followText "set-order" with
  | true => exact .inl rfl
  | false =>
    refine .inr ?_
    rw [show (!false) = true from rfl]
    rfl
end OwS
namespace OwS
open PySem PySem.Spec PyProof.Rows L2
/-- a set just made -/
abbrev bare (w : World) : Obj := { cls := .type "set", dict := none, data := .set #[] 0 (.fresh 0 0 (!w.params.followText "set-order")) }
section
variable {prog : Program} {w : World} {A : Around} {E : Value → Shared → Prop} {s : Shared}
theorem txs_at : ∀ {vs : List Value} {xs : List Str}, StrsAre vs xs → ∀ (i : Nat) (v : Value), vs[i]? = some v → ∃ x t, xs[i]? = some x ∧ v = .str x t
  | _, _, .nil, i, v, h => by simp at h
  | _, _, .cons x t r, 0, v, h => ⟨x, t, rfl, (Option.some.inj h).symm⟩
  | _, _, .cons x t r, i + 1, v, h => txs_at r i v h
/-- behind set.__init__ the texts are in -/
def Filled (prog : Program) (w : World) (s : Shared) (xs : List Str) (E : Value → Shared → Prop) : Result → Shared → Prop :=
  wants (fun r s2 => r = .none ∧ ∃ h' tk m, s2 = { s with heap := h', toks := tk } ∧ TxR prog w h' s.heap.objs.size (has xs) m ∧ ∀ b o, s.heap.get? b = some o → h'.get? b = some o) E
theorem call_set_texts {l : Addr} {items : Array Value} {xs : List Str} {Q : Value → Shared → Prop} (calm : A.handled = none) (hl : s.heap.IsList l items) (hi : StrsAre items.toList xs) (few : xs.length + 1 < scanBound)
    (fin : ∀ (h' : Heap) (tk m : Nat), TxR prog w h' s.heap.objs.size (has xs) m → (∀ b o, s.heap.get? b = some o → h'.get? b = some o) → Q (.ref s.heap.objs.size) { s with heap := h', toks := tk }) :
    wpAny (model prog w) A (call (.type "set") [.ref l]) Q E s := by
  have sz : xs.length = items.size := by
    have q := StrsAre.len_eq hi
    rw [Array.length_toList] at q
    exact q.symm
  obtain ⟨c, tl, hmro⟩ := F.called_set.mro
  have made := F.called_set.made
  have sub := F.called_set.sub
  have noType := F.called_set.notType
  have create := F.called_set.canCreate
  have typeCall := F.typeCall_set_1 (.ref l)
  refine wpAny_call ?_
  refine codeAny_of_tree ?_
  show wpAny _ _ (callAny (.type "set") _) _ _ _
  refine wpAny_pure ⟨Code.quiet_builtin _ (by decide +kernel), ?_⟩
  refine codeAny_builtin F.entry_type_call ?_
  rw [Around.under_plain (weight_type_call_type "set" [.ref l] []) rfl]
  repeat (any_goals (first | assumption | wp_step))
  refine codeAny_mono (code_set_led1 (.ref l) (E := E) (Q₁ := fun obj s1 => obj = .ref s.heap.objs.size ∧ s1 = { s with heap := s.heap.push (bare w) }) ⟨rfl, rfl⟩) ?_
  intro r s1 hr
  cases r with
  | error e => exact hr
  | ok fl =>
    cases fl with
    | next => exact hr.elim
    | brk => exact hr.elim
    | cont => exact hr.elim
    | ret obj =>
      obtain ⟨rfl, rfl⟩ := hr
      have atS : (s.heap.push (bare w)).get? s.heap.objs.size = some (bare w) := Heap.get?_push_size _ rfl
      have isSet : Shared.TypeIs { s with heap := s.heap.push (bare w) } (.ref s.heap.objs.size) "set" := ⟨_, atS, rfl⟩
      have look := F.called_set.init.lookup
      have bind := F.called_set.init.bind (.ref s.heap.objs.size)
      repeat (any_goals (first | assumption | wp_step))
      refine codeAny_mono (codeAny_call_builtin (R := Filled prog w s xs E) F.called_set.init.plain F.entry_set_init (check_set_init_1 isSet ?_)) ?_
      · obtain ⟨ol, hol, hcl, nl, hdl⟩ := hl
        obtain ⟨ocls, odict, odata, oslots⟩ := ol
        simp only at hcl hdl
        subst hcl hdl
        have there : (s.heap.push (bare w)).get? l = some { cls := .type "list", dict := odict, data := .seq items nl, slots := oslots } := Heap.get?_push_of_some _ hol
        have isL : (s.heap.push (bare w)).IsList l items := ⟨_, there, rfl, nl, rfl⟩
        have s1 := F.sub_list_set
        have s2 := F.sub_list_frozenset
        have s3 : (Value.type "list" == Value.type "dict") = false := by decide
        unfold Builtin.«set.__init__» noKeywords Builtin.Frozenset.updateFrom
        generalize hit : pyIter = it
        wp_walk
        subst hit
        refine wpAny_pyIter_list isL ?_
        refine wpAny_bind ?_
        refine wpAny_runValue ?_
        have below : l < s.heap.objs.size := Heap.lt_size hol
        have calm3 : A.in1.in1.in1.handled = none := by simp [calm]
        have grown : (s.heap.push (bare w)).objs.size = s.heap.objs.size + 1 := Heap.size_push ..
        have ne1 : l ≠ (s.heap.push (bare w)).objs.size := by
          rw [grown]
          exact Nat.ne_of_lt (Nat.lt_succ_of_lt below)
        have apart : s.heap.objs.size ∉ [(s.heap.push (bare w)).objs.size, l] := by
          rw [grown]
          intro z
          rcases List.mem_cons.mp z with z | z
          · exact Nat.ne_of_lt (Nat.lt_succ_self _) z
          · exact Nat.ne_of_gt below (List.mem_singleton.mp z)
        refine tx_loop ((Walks.list calm3 _ l ne1 items).toS) s.heap.objs.size apart xs sz (by rw [← sz]; exact few) (fun i v hv => ?val) (items.size - 0) 0 _ (by omega) (Nat.zero_le _) ⟨⟨_, Heap.get?_push_size _ rfl, rfl, rfl⟩, (isL.push _)⟩ ⟨0, Nat.le_refl _, ?start⟩ ?behind
        case val =>
          refine txs_at hi i v ?_
          rw [Array.getElem?_toList]
          exact hv
        case start =>
          refine (tx_fresh ?_).congr (fun q => ?_) rfl
          · exact Heap.get?_push_of_some _ atS
          · unfold has
            simp
        case behind =>
          intro s' m moved r
          obtain ⟨h', g', d', tk', os'⟩ := s'
          obtain rfl : g' = s.gens := moved.gens
          obtain rfl : d' = s.drawn := moved.drawn
          obtain rfl : os' = s.os := moved.os
          show wpAny _ _ _ _ _ _
          refine wpAny_pure ?_
          show wpAny _ _ (ret Value.none) _ _ _
          refine wpAny_pure ⟨rfl, h', tk', m, rfl, r, fun b o e => ?_⟩
          have lt : b < s.heap.objs.size := Heap.lt_size e
          refine moved.heap b o ?_ (Heap.get?_push_of_some _ (Heap.get?_push_of_some _ e))
          rw [grown]
          intro z
          rcases List.mem_cons.mp z with z | z
          · exact Nat.ne_of_lt lt z
          · exact Nat.ne_of_lt (Nat.lt_succ_of_lt lt) (List.mem_singleton.mp z)
      · intro r2 s2 hr2
        cases r2 with
        | error e => exact hr2
        | ok fl2 =>
          cases fl2 with
          | next => exact hr2.elim
          | brk => exact hr2.elim
          | cont => exact hr2.elim
          | ret r =>
            obtain ⟨rfl, h', tk, m, rfl, q1, q2⟩ := hr2
            repeat (any_goals (first | assumption | wp_step))
            exact fin _ _ _ q1 q2
end
end OwS
namespace OwS
open PySem PySem.Spec PyProof.Rows L2
section
variable {prog : Program} {w : World} {A : Around} {E : Value → Shared → Prop} {s : Shared}
theorem strs_of_elems : ∀ (l : List (Int × Value)), ElemsOf (PySem.strKind prog w) l → StrsAre (l.map (·.2)) (l.map txOf)
  | [], _ => .nil
  | e :: l, h => by
    obtain ⟨⟨k, h1, _⟩, _⟩ := h e List.mem_cons_self
    obtain ⟨t, h2⟩ := PySem.Value.isStrOf_shape (show PySem.Value.isStrOf k e.2 = true from h1)
    have h3 := strs_of_elems l fun x hx => h x (List.mem_cons_of_mem _ hx)
    have e1 : txOf e = k := by
      unfold txOf
      rw [h2]
    rw [List.map_cons, List.map_cons, e1, h2]
    exact .cons k t h3
theorem strs_perm {vs us : List Value} (p : vs.Perm us) : ∀ {xs : List Str}, StrsAre us xs → ∃ ys, StrsAre vs ys ∧ ys.Perm xs := by
  induction p with
  | nil =>
    intro xs h
    exact ⟨xs, h, List.Perm.refl _⟩
  | cons x p ih =>
    intro xs h
    cases h with
    | cons k t r =>
      obtain ⟨ys, h1, h2⟩ := ih r
      exact ⟨k :: ys, .cons k t h1, h2.cons k⟩
  | swap x y l =>
    intro xs h
    cases h with
    | cons k t r =>
      cases r with
      | cons k2 t2 r2 => exact ⟨_, .cons k2 t2 (.cons k t r2), List.Perm.swap _ _ _⟩
  | trans p1 p2 ih1 ih2 =>
    intro xs h
    obtain ⟨ys, h1, h2⟩ := ih2 h
    obtain ⟨zs, h3, h4⟩ := ih1 h1
    exact ⟨zs, h3, h4.trans h2⟩
theorem sorted_texts {a : Addr} {S : Str → Bool} {n : Nat} {Q : Value → Shared → Prop} (R : TxR prog w s.heap a S n) (calm : A.handled = none)
    (fin : ∀ s' p (out : Array Value) (c : Nat) (ys : List Str), (∀ b o, s.heap.get? b = some o → s'.heap.get? b = some o) → s'.gens = s.gens → s'.os = s.os → s.heap.objs.size ≤ p →
      s'.heap.get? p = some (seqObj "list" out c) → StrsAre out.toList ys → ys.Nodup → sortedS ys = true → (∀ k, S k = true ↔ k ∈ ys) → ys.length = n → Q (.ref p) s') :
    wpAny (model prog w) A (call (.builtin "sorted") [.ref a]) Q E s := by
  obtain ⟨o, es, ep, t, ho, ex, hd, g, nd, hm, hb, hf, hn, hr, hl⟩ := R
  refine Calls.call_function_entry kind_sorted plain_sorted entry_sorted (args_sorted1 _) ?_
  unfold Builtin.«sorted»
  refine wpAny_bind (m := checkCount "sorted" 1 1 _) ?_
  refine wpAny_pure ?_
  refine wpAny_bind ?_
  refine collect_set (A := A.in1) calm ⟨o, ho, ex.1, hd⟩ hf hb hr hl ?_
  intro s1 vs keep size gens os pm
  have len : vs.length = n := by
    rw [pm.length_eq, List.length_map, Array.length_toList]
    exact hn
  have lenLine : vs.length ≤ sizeLine := by
    have h1 : es.size < scanBound := hb
    have h2 : (scanBound : Nat) ≤ sizeLine := by decide
    omega
  obtain ⟨xs, sx, px⟩ := strs_perm pm (strs_of_elems es.toList g)
  refine wpAny_bind ?_
  refine wpAny_newList ?_ lenLine
  have atL : (s1.heap.push (seqObj "list" vs.toArray 0)).get? s1.heap.objs.size = some (seqObj "list" vs.toArray 0) := Heap.get?_push_size _ rfl
  refine wpAny_bind ?_
  refine wpAny_holding ?_
  refine wpAny_call_entry slot_list_sort ⟨_, atL, rfl⟩ entry_list_sort ?_ (args_list_sort _)
  refine list_sort_treeKAny strKind_oneLt atL sx.keysOf (fun v1 v2 rest e => keyKind_strs (by rw [← e]; exact sx)) lenLine ?_
  intro st' hp hs
  refine ⟨_, rfl, ?_⟩
  obtain ⟨ys, h1, h2, h3⟩ := sorted_out_str sx hp hs
  obtain ⟨c, hc⟩ := sortedHeap_at (vs := vs) (out := (arrOf st').map (·.2)) atL
  have py : ys.Perm (es.toList.map txOf) := h2.trans px
  refine wpAny_pure ⟨_, rfl, ?_⟩
  refine fin _ s1.heap.objs.size _ c ys (fun b u e => ?_) gens os size hc h1 (py.nodup_iff.mpr nd) h3 (fun k => ?_) ?_
  · have q := keep b u e
    have lt := Heap.lt_size q
    show (sortedHeap (s1.heap.push (seqObj "list" vs.toArray 0)) s1.heap.objs.size vs _).get? b = some u
    rw [sortedHeap_old (Nat.ne_of_lt lt) ?_]
    · exact Heap.get?_push_of_some _ q
    · rw [size_push']
      exact Nat.lt_succ_of_lt lt
  · rw [hm k, py.mem_iff]
  · rw [py.length_eq, List.length_map, Array.length_toList]
    exact hn
end
/-! ### the rules of the layer -/
def TxO (P : Program) (w : World) (a : Addr) (S : Str → Bool) (n : Nat) : HO := .ext fun h => TxR P w h a S n
theorem tx_new {w : World} {P : Program} {H : Hp} {h : Heap} {a : Addr} {S : Str → Bool} {n : Nat} (R : TxR P w h a S n) : ObjOk P w H h a (TxO P w a S n) := by
  obtain ⟨o, _, _, _, ho, _⟩ := id R
  exact ⟨R, ⟨o, ho⟩, fun h1 h2 p k => TxR.keep p k⟩
def rSetTx (K : PySem.W.Frag) (P : Program) (w : World) : List V → Hp → VK → Prop := fun vs H Q => ∃ (a : Addr) (xs : List Str), vs = [V.ref a] ∧ SqL K H a (xs.map V.str) ∧ xs.length ≤ 4000 ∧ ∀ p m, H p = none → Q (.ref p) (upd H p (TxO P w p (has xs) m))
theorem call_setTx {X : Cx} (hc : X.calm = true) : CallR X (.type "set") (rSetTx X.K X.prog X.w) := by
  intro pins s σ H vs us Q I r h
  obtain ⟨a, xs, rfl, hs, few, q⟩ := h
  obtain ⟨its, rv, pl, hz⟩ := I.list hs
  rw [Vals.ref1 r]
  refine call_set_texts (I.ok.hd hc) pl.isList (by simpa using strsAre_of rv) (by have : (4001 : Nat) < scanBound := by decide
                                                                                  omega) fun h' tk m R keep => ?_
  exact ⟨.ref s.heap.objs.size, upd H s.heap.objs.size (TxO X.prog X.w s.heap.objs.size (has xs) m), I.laid keep (Nat.le_refl _) (tx_new R), rfl, q _ m (I.hok.fresh (Nat.le_refl _))⟩
def rSortTx (P : Program) (w : World) : List V → Hp → VK → Prop := fun vs H Q => ∃ (a : Addr) (S : Str → Bool) (n : Nat), vs = [V.ref a] ∧ H a = some (TxO P w a S n) ∧
  ∀ (ys : List Str) (p : Addr), ys.Nodup → sortedS ys = true → (∀ k, S k = true ↔ k ∈ ys) → ys.length = n → H p = none → Q (.ref p) (upd H p (.lst (ys.map V.str)))
theorem call_sortTx {X : Cx} (hc : X.calm = true) : CallR X (.builtin "sorted") (rSortTx X.prog X.w) := by
  intro pins s σ H vs us Q I r h
  obtain ⟨a, S, n, rfl, ha, q⟩ := h
  have R : TxR X.prog X.w s.heap a S n := (I.hok a _ ha).1
  rw [Vals.ref1 r]
  refine sorted_texts R (I.ok.hd hc) ?_
  intro s' p out c ys keep gens os size at_ tx nd so mem len
  have few : ys.length ≤ sizeLine := by
    obtain ⟨o, es, ep, t, ho, ex, hd, g, _, hm, hb, hf, hn, _⟩ := R
    have h2 : (scanBound : Nat) ≤ sizeLine := by decide
    omega
  have fresh : H p = none := I.hok.fresh size
  have J : Inv X pins σ (upd H p (.lst (ys.map V.str))) { s with heap := s'.heap, gens := s'.gens, drawn := s'.drawn, toks := s'.toks } :=
    I.call (ch := []) (Un.laid keep size fresh) (I.hok.laid keep size ⟨by rw [List.length_map]; exact few, out.toList, c, vals_of_strs tx, at_⟩) (by rw [gens]; exact I.bare) (fun _ z => (nomatch z))
  have e : s' = { s with heap := s'.heap, gens := s'.gens, drawn := s'.drawn, toks := s'.toks } := by
    cases s'
    cases s
    cases os
    rfl
  rw [e]
  exact ⟨.ref p, _, J, rfl, q ys p nd so mem len fresh⟩
end OwS

set_option Elab.async false
set_option linter.all false
set_option maxRecDepth 100000
set_option maxHeartbeats 4000000
/-! Terms: what they are, how they lie in the heap, which names are free. -/
namespace OwT
open PySem PySem.Spec PyProof.Rows L2 Ow
mutual
inductive T where
  | num (n : Int)
  | nam (x : Str)
  | fn (x : Str) (e : T)
  | two (w x y : Str)
  | lt (w x : Str) (e b : T)
  | all (ps : Ps) (b : T)
  | mk (c : Str) (xs : List Str)
  | by_ (x : Str) (bs : Bs)
inductive Ps where
  | nil
  | cons (x : Str) (e : T) (r : Ps)
inductive Bs where
  | nil
  | cons (c : Str) (ys : List Str) (e : T) (r : Bs)
end
def twos : List Str := ["call", "sum", "minus", "less", "same"]
mutual
inductive Tp (K : PySem.W.Frag) (H : Hp) : V → T → Prop
  | num {a : Addr} {n : Int} : SqT K H a [.str "num", .int n] → Tp K H (.ref a) (.num n)
  | nam {a : Addr} {x : Str} : SqT K H a [.str "name", .str x] → Tp K H (.ref a) (.nam x)
  | fn {a : Addr} {x : Str} {v : V} {e : T} : SqT K H a [.str "fun", .str x, v] → Tp K H v e → Tp K H (.ref a) (.fn x e)
  | two {a : Addr} {w x y : Str} : w ∈ twos → SqT K H a [.str w, .str x, .str y] → Tp K H (.ref a) (.two w x y)
  | lt {a : Addr} {w x : Str} {v u : V} {e b : T} : w = "let" ∨ w = "now" → SqT K H a [.str w, .str x, v, u] → Tp K H v e → Tp K H u b → Tp K H (.ref a) (.lt w x e b)
  | all {a q : Addr} {vs : List V} {u : V} {ps : Ps} {b : T} : SqT K H a [.str "letall", .ref q, u] → SqT K H q vs → PsP K H vs ps → Tp K H u b → Tp K H (.ref a) (.all ps b)
  | mk {a q : Addr} {c : Str} {xs : List Str} : SqT K H a [.str "made", .str c, .ref q] → SqT K H q (xs.map V.str) → Tp K H (.ref a) (.mk c xs)
  | by_ {a q : Addr} {x : Str} {vs : List V} {bs : Bs} : SqT K H a [.str "by", .str x, .ref q] → SqT K H q vs → BsP K H vs bs → Tp K H (.ref a) (.by_ x bs)
inductive PsP (K : PySem.W.Frag) (H : Hp) : List V → Ps → Prop
  | nil : PsP K H [] .nil
  | cons {q : Addr} {x : Str} {v : V} {vs : List V} {e : T} {r : Ps} : SqT K H q [.str x, v] → Tp K H v e → PsP K H vs r → PsP K H (.ref q :: vs) (.cons x e r)
inductive BsP (K : PySem.W.Frag) (H : Hp) : List V → Bs → Prop
  | nil : BsP K H [] .nil
  | cons {q z : Addr} {c : Str} {ys : List Str} {v : V} {vs : List V} {e : T} {r : Bs} : SqT K H q [.str c, .ref z, v] → SqT K H z (ys.map V.str) → Tp K H v e → BsP K H vs r → BsP K H (.ref q :: vs) (.cons c ys e r)
end
/-- tuples stay -/
def TS (K : PySem.W.Frag) (H H' : Hp) : Prop := ∀ a xs, SqT K H a xs → SqT K H' a xs
section
variable {K : PySem.W.Frag} {H H' H1 : Hp}
theorem TS.refl : TS K H H := fun _ _ h => h
theorem TS.trans (x : TS K H H1) (y : TS K H1 H') : TS K H H' := fun a xs h => y a xs (x a xs h)
theorem TS.of (k : ∀ b xs, (H b = some (.tup xs) → H' b = some (.tup xs)) ∧ ∀ o, H b = some (.frz o (.tup xs)) → H' b = some (.frz o (.tup xs))) : TS K H H' := fun a xs h => by
  rcases h with (h | ⟨o, h⟩) | h
  · exact .inl (.inl ((k a xs).1 h))
  · exact .inl (.inr ⟨o, (k a xs).2 o h⟩)
  · exact .inr h
theorem TS.same (s : Same H H') : TS K H H' := TS.of fun b xs => ⟨fun h => s b _ h, fun o h => s b _ h⟩
/-- a list (or a dict, a set) is changed -/
theorem TS.set {p : Addr} {o o' : HO} (h : H p = some o) (n1 : ∀ xs, o ≠ .tup xs) (n2 : ∀ u xs, o ≠ .frz u (.tup xs)) : TS K H (upd H p o') := TS.of fun b xs => by
  have ne : ∀ u, H b = some u → (u = .tup xs ∨ ∃ z, u = .frz z (.tup xs)) → b ≠ p := fun u e q z => by
    subst z
    rw [h] at e
    cases e
    rcases q with q | ⟨z, q⟩
    · exact n1 _ q
    · exact n2 _ _ q
  exact ⟨fun e => by rw [upd_ne (ne _ e (.inl rfl))]; exact e, fun u e => by rw [upd_ne (ne _ e (.inr ⟨u, rfl⟩))]; exact e⟩
theorem TS.new {p : Addr} {o : HO} (h : H p = none) : TS K H (upd H p o) := TS.same (same_upd h)
theorem TS.but {p : Addr} (b : But p H H') {o : HO} (h : H p = some o) (n1 : ∀ xs, o ≠ .tup xs) (n2 : ∀ u xs, o ≠ .frz u (.tup xs)) : TS K H H' := TS.of fun c xs => by
  have ne : ∀ u, H c = some u → (u = .tup xs ∨ ∃ z, u = .frz z (.tup xs)) → c ≠ p := fun u e q z => by
    subst z
    rw [h] at e
    cases e
    rcases q with q | ⟨z, q⟩
    · exact n1 _ q
    · exact n2 _ _ q
  exact ⟨fun e => by rw [b c (ne _ e (.inl rfl))]; exact e, fun u e => by rw [b c (ne _ e (.inr ⟨u, rfl⟩))]; exact e⟩
mutual
theorem Tp.keep (s : TS K H H') : ∀ {v : V} {t : T}, Tp K H v t → Tp K H' v t
  | _, _, .num h => .num (s _ _ h)
  | _, _, .nam h => .nam (s _ _ h)
  | _, _, .fn h e => .fn (s _ _ h) (Tp.keep s e)
  | _, _, .two w h => .two w (s _ _ h)
  | _, _, .lt w h e b => .lt w (s _ _ h) (Tp.keep s e) (Tp.keep s b)
  | _, _, .all h q ps b => .all (s _ _ h) (s _ _ q) (PsP.keep s ps) (Tp.keep s b)
  | _, _, .mk h q => .mk (s _ _ h) (s _ _ q)
  | _, _, .by_ h q bs => .by_ (s _ _ h) (s _ _ q) (BsP.keep s bs)
theorem PsP.keep (s : TS K H H') : ∀ {vs : List V} {ps : Ps}, PsP K H vs ps → PsP K H' vs ps
  | _, _, .nil => .nil
  | _, _, .cons h e r => .cons (s _ _ h) (Tp.keep s e) (PsP.keep s r)
theorem BsP.keep (s : TS K H H') : ∀ {vs : List V} {bs : Bs}, BsP K H vs bs → BsP K H' vs bs
  | _, _, .nil => .nil
  | _, _, .cons h z e r => .cons (s _ _ h) (s _ _ z) (Tp.keep s e) (BsP.keep s r)
end
end
/-! ### free names -/
def Ps.names : Ps → List Str
  | .nil => []
  | .cons x _ r => x :: r.names
mutual
def Free (k : Str) : T → Prop
  | .num _ => False
  | .nam x => k = x
  | .fn x e => Free k e ∧ k ≠ x
  | .two _ x y => k = x ∨ k = y
  | .lt _ x e b => Free k e ∨ (Free k b ∧ k ≠ x)
  | .all ps b => (FreePs k ps ∨ Free k b) ∧ k ∉ ps.names
  | .mk _ xs => k ∈ xs
  | .by_ x bs => k = x ∨ FreeBs k bs
def FreePs (k : Str) : Ps → Prop
  | .nil => False
  | .cons _ e r => Free k e ∨ FreePs k r
def FreeBs (k : Str) : Bs → Prop
  | .nil => False
  | .cons _ ys e r => (Free k e ∧ k ∉ ys) ∨ FreeBs k r
end
mutual
def size : T → Nat
  | .num _ => 1
  | .nam _ => 1
  | .fn _ e => 2 + size e
  | .two _ _ _ => 1
  | .lt _ _ e b => 2 + size e + size b
  | .all ps b => 1 + sizePs ps + size b
  | .mk _ xs => 1 + xs.length
  | .by_ _ bs => 1 + sizeBs bs
def sizePs : Ps → Nat
  | .nil => 0
  | .cons _ e r => 1 + size e + sizePs r
def sizeBs : Bs → Nat
  | .nil => 0
  | .cons _ ys e r => 1 + ys.length + size e + sizeBs r
end
/-- the names that a term has itself -/
def nmd : T → List Str
  | .nam x => [x]
  | .two _ x y => [x, y]
  | .mk _ xs => xs
  | .by_ x _ => [x]
  | _ => []
def Ps.subs (ns : List Str) : Ps → List (T × List Str)
  | .nil => []
  | .cons _ e r => (e, ns) :: r.subs ns
def Bs.subs : Bs → List (T × List Str)
  | .nil => []
  | .cons _ ys e r => (e, ys) :: r.subs
/-- the terms of a term, with the names bound there -/
def wn : T → List (T × List Str)
  | .fn x e => [(e, [x])]
  | .lt _ x e b => [(e, []), (b, [x])]
  | .all ps b => ps.subs ps.names ++ [(b, ps.names)]
  | .by_ _ bs => bs.subs
  | _ => []
def sizes (l : List (T × List Str)) : Nat := (l.map fun p => size p.1).sum
theorem sizes_nil : sizes [] = 0 := rfl
theorem sizes_cons (p : T × List Str) (l : List (T × List Str)) : sizes (p :: l) = size p.1 + sizes l := by
  unfold sizes
  rw [List.map_cons, List.sum_cons]
theorem sizes_app (l m : List (T × List Str)) : sizes (l ++ m) = sizes l + sizes m := by
  unfold sizes
  rw [List.map_append, List.sum_append]
theorem sizes_ps (ns : List Str) : ∀ ps : Ps, sizes (ps.subs ns) + ps.names.length = sizePs ps
  | .nil => rfl
  | .cons _ e r => by
    have ih := sizes_ps ns r
    unfold Ps.subs sizePs Ps.names
    rw [sizes_cons, List.length_cons]
    dsimp only
    omega
theorem sizes_bs : ∀ bs : Bs, sizes bs.subs ≤ sizeBs bs
  | .nil => Nat.le_refl _
  | .cons _ ys e r => by
    have ih := sizes_bs r
    unfold Bs.subs sizeBs
    rw [sizes_cons]
    dsimp only
    omega
theorem each_bs : ∀ bs : Bs, ∀ p ∈ bs.subs, p.2.length + size p.1 ≤ sizeBs bs
  | .nil, p, h => by cases h
  | .cons _ ys e r, p, h => by
    unfold Bs.subs at h
    unfold sizeBs
    rcases List.mem_cons.mp h with rfl | h
    · dsimp only
      omega
    · have := each_bs r p h
      omega
theorem each_ps (ns : List Str) : ∀ ps : Ps, ∀ p ∈ ps.subs ns, p.2 = ns ∧ size p.1 + ps.names.length ≤ sizePs ps
  | .nil, p, h => by cases h
  | .cons _ e r, p, h => by
    unfold Ps.subs at h
    have ih := sizes_ps ns r
    unfold sizePs Ps.names
    rw [List.length_cons]
    rcases List.mem_cons.mp h with rfl | h
    · refine ⟨rfl, ?_⟩
      dsimp only
      omega
    · obtain ⟨a, b⟩ := each_ps ns r p h
      exact ⟨a, by omega⟩
theorem sizes_wn (t : T) : sizes (wn t) + 1 ≤ size t := by
  cases t with
  | num n => exact Nat.le_refl _
  | nam x => exact Nat.le_refl _
  | fn x e =>
    unfold wn size
    rw [sizes_cons, sizes_nil]
    dsimp only
    omega
  | two w x y => exact Nat.le_refl _
  | lt w x e b =>
    unfold wn size
    rw [sizes_cons, sizes_cons, sizes_nil]
    dsimp only
    omega
  | all ps b =>
    unfold wn size
    have := sizes_ps ps.names ps
    rw [sizes_app, sizes_cons, sizes_nil]
    dsimp only
    omega
  | mk c xs =>
    show 0 + 1 ≤ 1 + xs.length
    omega
  | by_ x bs =>
    have := sizes_bs bs
    show sizes bs.subs + 1 ≤ 1 + sizeBs bs
    omega
theorem each_wn (t : T) : ∀ p ∈ wn t, p.2.length + size p.1 + 1 ≤ size t := by
  intro p hp
  cases t with
  | num n => cases hp
  | nam x => cases hp
  | fn x e =>
    unfold wn at hp
    cases List.mem_singleton.mp hp
    show 1 + size e + 1 ≤ 2 + size e
    omega
  | two w x y => cases hp
  | lt w x e b =>
    unfold wn at hp
    rcases List.mem_cons.mp hp with rfl | hp
    · show 0 + size e + 1 ≤ 2 + size e + size b
      omega
    · cases List.mem_singleton.mp hp
      show 1 + size b + 1 ≤ 2 + size e + size b
      omega
  | all ps b =>
    unfold wn at hp
    have h0 := sizes_ps ps.names ps
    rcases List.mem_append.mp hp with hp | hp
    · obtain ⟨a, c⟩ := each_ps ps.names ps p hp
      rw [a]
      show ps.names.length + size p.1 + 1 ≤ 1 + sizePs ps + size b
      omega
    · cases List.mem_singleton.mp hp
      show ps.names.length + size b + 1 ≤ 1 + sizePs ps + size b
      omega
  | mk c xs => cases hp
  | by_ x bs =>
    have := each_bs bs p hp
    show p.2.length + size p.1 + 1 ≤ 1 + sizeBs bs
    omega
theorem free_ps (k : Str) (ns : List Str) : ∀ ps : Ps, (∃ p ∈ ps.subs ns, Free k p.1 ∧ k ∉ p.2) ↔ FreePs k ps ∧ k ∉ ns
  | .nil => by
    unfold Ps.subs FreePs
    simp
  | .cons _ e r => by
    have ih := free_ps k ns r
    unfold Ps.subs FreePs
    constructor
    · rintro ⟨p, hp, h1, h2⟩
      rcases List.mem_cons.mp hp with rfl | hp
      · exact ⟨.inl h1, h2⟩
      · obtain ⟨a, b⟩ := ih.mp ⟨p, hp, h1, h2⟩
        exact ⟨.inr a, b⟩
    · rintro ⟨h | h, h2⟩
      · exact ⟨_, List.mem_cons_self, h, h2⟩
      · obtain ⟨p, hp, q⟩ := ih.mpr ⟨h, h2⟩
        exact ⟨p, List.mem_cons_of_mem _ hp, q⟩
theorem free_bs (k : Str) : ∀ bs : Bs, (∃ p ∈ bs.subs, Free k p.1 ∧ k ∉ p.2) ↔ FreeBs k bs
  | .nil => by
    unfold Bs.subs FreeBs
    simp
  | .cons _ ys e r => by
    have ih := free_bs k r
    unfold Bs.subs FreeBs
    constructor
    · rintro ⟨p, hp, h⟩
      rcases List.mem_cons.mp hp with rfl | hp
      · exact .inl h
      · exact .inr (ih.mp ⟨p, hp, h⟩)
    · rintro (h | h)
      · exact ⟨_, List.mem_cons_self, h⟩
      · obtain ⟨p, hp, q⟩ := ih.mpr h
        exact ⟨p, List.mem_cons_of_mem _ hp, q⟩
theorem free_iff (k : Str) (t : T) : Free k t ↔ k ∈ nmd t ∨ ∃ p ∈ wn t, Free k p.1 ∧ k ∉ p.2 := by
  cases t with
  | num n =>
    unfold Free nmd wn
    simp
  | nam x =>
    unfold Free nmd wn
    simp
  | fn x e =>
    show (Free k e ∧ k ≠ x) ↔ k ∈ ([] : List Str) ∨ ∃ p ∈ [(e, [x])], Free k p.1 ∧ k ∉ p.2
    simp
  | two w x y =>
    unfold Free nmd wn
    simp
  | lt w x e b =>
    show (Free k e ∨ (Free k b ∧ k ≠ x)) ↔ k ∈ ([] : List Str) ∨ ∃ p ∈ [(e, []), (b, [x])], Free k p.1 ∧ k ∉ p.2
    simp
  | all ps b =>
    show ((FreePs k ps ∨ Free k b) ∧ k ∉ ps.names) ↔ k ∈ ([] : List Str) ∨ ∃ p ∈ ps.subs ps.names ++ [(b, ps.names)], Free k p.1 ∧ k ∉ p.2
    constructor
    · rintro ⟨h | h, h2⟩
      · obtain ⟨p, hp, q⟩ := (free_ps k ps.names ps).mpr ⟨h, h2⟩
        exact .inr ⟨p, List.mem_append_left _ hp, q⟩
      · exact .inr ⟨_, List.mem_append_right _ (List.mem_singleton.mpr rfl), h, h2⟩
    · rintro (h | ⟨p, hp, h1, h2⟩)
      · cases h
      · rcases List.mem_append.mp hp with hp | hp
        · obtain ⟨a, b⟩ := (free_ps k ps.names ps).mp ⟨p, hp, h1, h2⟩
          exact ⟨.inl a, b⟩
        · cases List.mem_singleton.mp hp
          exact ⟨.inr h1, h2⟩
  | mk c xs =>
    unfold Free nmd wn
    simp
  | by_ x bs =>
    show (k = x ∨ FreeBs k bs) ↔ k ∈ [x] ∨ ∃ p ∈ bs.subs, Free k p.1 ∧ k ∉ p.2
    rw [free_bs]
    simp
end OwT
namespace OwT
open PySem PySem.Spec PyProof.Rows L2 Ow
/-- the list of pairs (term, names) -/
inductive Subs (K : PySem.W.Frag) (H : Hp) : List V → List (T × List Str) → Prop
  | nil : Subs K H [] []
  | cons {q b : Addr} {v : V} {vs : List V} {t : T} {ns : List Str} {r : List (T × List Str)} : SqT K H q [v, .ref b] → Tp K H v t → SqT K H b (ns.map V.str) → Subs K H vs r → Subs K H (.ref q :: vs) ((t, ns) :: r)
section
variable {K : PySem.W.Frag} {H H' H1 : Hp}
theorem Subs.keep (s : TS K H H') : ∀ {vs : List V} {l : List (T × List Str)}, Subs K H vs l → Subs K H' vs l
  | _, _, .nil => .nil
  | _, _, .cons a b c d => .cons (s _ _ a) (b.keep s) (s _ _ c) (Subs.keep s d)
theorem Subs.snoc {q b : Addr} {v : V} {t : T} {ns : List Str} (h1 : SqT K H q [v, .ref b]) (h2 : Tp K H v t) (h3 : SqT K H b (ns.map V.str)) : ∀ {vs : List V} {l : List (T × List Str)}, Subs K H vs l → Subs K H (vs ++ [.ref q]) (l ++ [(t, ns)])
  | _, _, .nil => .cons h1 h2 h3 .nil
  | _, _, .cons a b c d => .cons a b c (Subs.snoc h1 h2 h3 d)
theorem Subs.app {us : List V} {m : List (T × List Str)} (k : Subs K H us m) : ∀ {vs : List V} {l : List (T × List Str)}, Subs K H vs l → Subs K H (vs ++ us) (l ++ m)
  | _, _, .nil => k
  | _, _, .cons a b c d => .cons a b c (Subs.app k d)
theorem subs_at : ∀ (vs : List V) (l : List (T × List Str)) (i : Nat) (x : V), Subs K H vs l → vs[i]? = some x → ∃ q b v t ns, x = .ref q ∧ SqT K H q [v, .ref b] ∧ Tp K H v t ∧ SqT K H b (ns.map V.str) ∧ l[i]? = some (t, ns)
  | _, _, _, _, .nil, h => by simp at h
  | _, _, 0, _, .cons a b c _, h => by
    cases h
    exact ⟨_, _, _, _, _, rfl, a, b, c, rfl⟩
  | _, _, i + 1, x, .cons _ _ _ d, h => subs_at _ _ i x d h
theorem Subs.len : ∀ {vs : List V} {l : List (T × List Str)}, Subs K H vs l → vs.length = l.length
  | _, _, .nil => rfl
  | _, _, .cons _ _ _ d => congrArg (· + 1) d.len
theorem ps_at (ns : List Str) : ∀ (vs : List V) (ps : Ps) (i : Nat) (x : V), PsP K H vs ps → vs[i]? = some x → ∃ q nm v e, x = .ref q ∧ SqT K H q [.str nm, v] ∧ Tp K H v e ∧ ps.names[i]? = some nm ∧ (ps.subs ns)[i]? = some (e, ns)
  | _, _, _, _, .nil, h => by simp at h
  | _, _, 0, _, .cons a b _, h => by
    cases h
    exact ⟨_, _, _, _, rfl, a, b, rfl, rfl⟩
  | _, _, i + 1, x, .cons _ _ d, h => ps_at ns _ _ i x d h
theorem PsP.len : ∀ {vs : List V} {ps : Ps}, PsP K H vs ps → ps.names.length = vs.length
  | _, _, .nil => rfl
  | _, _, .cons _ _ d => congrArg (· + 1) d.len
theorem PsP.lenS (ns : List Str) : ∀ {vs : List V} {ps : Ps}, PsP K H vs ps → (ps.subs ns).length = vs.length
  | _, _, .nil => rfl
  | _, _, .cons _ _ d => congrArg (· + 1) (d.lenS ns)
theorem bs_at : ∀ (vs : List V) (bs : Bs) (i : Nat) (x : V), BsP K H vs bs → vs[i]? = some x → ∃ q c z ys v e, x = .ref q ∧ SqT K H q [.str c, .ref z, v] ∧ SqT K H z (ys.map V.str) ∧ Tp K H v e ∧ bs.subs[i]? = some (e, ys)
  | _, _, _, _, .nil, h => by simp at h
  | _, _, 0, _, .cons a b c _, h => by
    cases h
    exact ⟨_, _, _, _, _, _, rfl, a, b, c, rfl⟩
  | _, _, i + 1, x, .cons _ _ _ d, h => bs_at _ _ i x d h
theorem BsP.lenS : ∀ {vs : List V} {bs : Bs}, BsP K H vs bs → bs.subs.length = vs.length
  | _, _, .nil => rfl
  | _, _, .cons _ _ _ d => congrArg (· + 1) d.lenS
theorem same_set {D : Addr} {o : HO} (s : Same H H1) (hD : H D = none) : Same H (upd H1 D o) := fun b u e => by
  rw [upd_ne (ne_of_none e hD)]
  exact s b u e
theorem take_snoc {α : Type} {l : List α} {i : Nat} {x : α} (h : l[i]? = some x) : l.take (i + 1) = l.take i ++ [x] := by
  rw [List.take_add_one, h]
  rfl
/-- the tuples' lengths are within the line -/
theorem sqt_len {X : Cx} {pins : List (Addr × Obj)} {σ : L2.St} {s : Shared} {a : Addr} {xs : List V} (I : Inv X pins σ H s) (h : SqT X.K H a xs) : xs.length ≤ sizeLine := (I.tuple h).choose_spec.2.2
end
end OwT
namespace OwT
open PySem PySem.Spec PyProof.Rows L2 Ow
theorem size_pos : ∀ t : T, 1 ≤ size t := fun t => by
  have := sizes_wn t
  omega
section
variable {K : PySem.W.Frag} {H H' H1 : Hp}
theorem ps_few : ∀ (vs : List V) (ps : Ps), PsP K H vs ps → vs.length ≤ sizePs ps
  | _, _, .nil => Nat.le_refl _
  | _, _, .cons (e := e) (vs := vs) (r := r) _ _ d => by
    have h1 := ps_few vs r d
    have h2 := size_pos e
    unfold sizePs
    rw [List.length_cons]
    omega
theorem bs_few : ∀ (vs : List V) (bs : Bs), BsP K H vs bs → vs.length ≤ sizeBs bs
  | _, _, .nil => Nat.le_refl _
  | _, _, .cons (e := e) (vs := vs) (r := r) _ _ _ d => by
    have h1 := bs_few vs r d
    have h2 := size_pos e
    unfold sizeBs
    rw [List.length_cons]
    omega
end
end OwT
namespace OwT
open PySem PySem.Spec PyProof.Rows L2 Ow
/-- the keys of a dict of texts -/
def KD (kvs : List (Key × V)) (ks : List Str) : Prop := kvs.map (·.1) = ks.map Sum.inr ∧ ks.Nodup
theorem kd_put {kvs : List (Key × V)} {ks : List Str} (h : KD kvs ks) (x : Str) (v : V) : ∃ ks', KD (putK kvs (Sum.inr x : Key) v) ks' ∧ ∀ k, k ∈ ks' ↔ k ∈ ks ∨ k = x := by
  obtain ⟨h1, h2⟩ := h
  cases e : valV kvs (Sum.inr x : Key) with
  | none =>
    have nx : x ∉ ks := fun z => by
      have q := valV_not e
      rw [h1] at q
      exact q (List.mem_map.mpr ⟨x, z, rfl⟩)
    refine ⟨ks ++ [x], ⟨?_, ?_⟩, fun k => by rw [List.mem_append, List.mem_singleton]⟩
    · rw [putK_new v e, List.map_append, List.map_append, h1]
      rfl
    · exact List.nodup_append.mpr ⟨h2, by simp, fun a ha b hb => by
        rw [List.mem_singleton.mp hb]
        intro z
        rw [z] at ha
        exact nx ha⟩
  | some u =>
    have ix : x ∈ ks := by
      have q := valV_in e
      rw [h1] at q
      obtain ⟨y, hy, ey⟩ := List.mem_map.mp q
      cases ey
      exact hy
    have ek : (putK kvs (Sum.inr x : Key) v).map (·.1) = kvs.map (·.1) := by
      unfold putK
      rw [valV_any, e]
      show ((kvs.map fun kv => if kv.1 = (Sum.inr x : Key) then (kv.1, v) else kv).map (·.1)) = _
      rw [List.map_map]
      refine List.map_congr_left fun p _ => ?_
      show (if p.1 = (Sum.inr x : Key) then (p.1, v) else p).1 = p.1
      split <;> rfl
    refine ⟨ks, ⟨ek.trans h1, h2⟩, fun k => ⟨.inl, fun z => z.elim id fun z => by rw [z]; exact ix⟩⟩
theorem nodup_sub : ∀ (ks ns : List Str), ks.Nodup → (∀ k ∈ ks, k ∈ ns) → ks.length ≤ ns.length
  | [], _, _, _ => Nat.zero_le _
  | x :: r, ns, h, s => by
    obtain ⟨h1, h2⟩ := List.nodup_cons.mp h
    have hx := s x List.mem_cons_self
    have ih := nodup_sub r (ns.erase x) h2 fun k hk => by
      have q := s k (List.mem_cons_of_mem _ hk)
      exact (List.mem_erase_of_ne (fun z => h1 (by rw [← z]; exact hk))).mpr q
    rw [List.length_erase_of_mem hx] at ih
    have := List.length_pos_of_mem hx
    rw [List.length_cons]
    omega
end OwT
namespace OwT
open PySem PySem.Spec PyProof.Rows L2 Ow
theorem subs_last {K : PySem.W.Frag} {H : Hp} {es : List V} {L : List (T × List Str)} (h : Subs K H es L) : es ≠ [] → ∃ es' L' q b v t ns, es = es' ++ [.ref q] ∧ L = L' ++ [(t, ns)] ∧ Subs K H es' L' ∧ SqT K H q [v, .ref b] ∧ Tp K H v t ∧ SqT K H b (ns.map V.str) := by
  induction h with
  | nil => exact fun z => absurd rfl z
  | @cons q b v vs t ns r h1 h2 h3 h4 ih =>
    intro _
    cases hvs : vs with
    | nil =>
      subst hvs
      cases h4
      exact ⟨[], [], q, b, v, t, ns, rfl, rfl, .nil, h1, h2, h3⟩
    | cons x xs =>
      rw [← hvs]
      obtain ⟨es', L', q2, b2, v2, t2, ns2, e1, e2, k1, k2, k3, k4⟩ := ih (by rw [hvs]; simp)
      exact ⟨.ref q :: es', (t, ns) :: L', q2, b2, v2, t2, ns2, by rw [e1]; rfl, by rw [e2]; rfl, .cons h1 h2 h3 k1, k2, k3, k4⟩
theorem last_at (es : List V) (x : V) : (es ++ [x])[(es ++ [x]).length - 1]? = some x ∧ (es ++ [x]).dropLast = es := by
  constructor
  · rw [List.length_append, List.length_singleton, Nat.add_sub_cancel, List.getElem?_append_right (Nat.le_refl _), Nat.sub_self]
    rfl
  · exact List.dropLast_concat
end OwT
namespace OwT
open PySem PySem.Spec PyProof.Rows L2 Ow
theorem catA_read {K : PySem.W.Frag} {H : Hp} {a b : Addr} {xs ys : List V} {Q : VK} (ha : SqT K H a xs) (hb : SqT K H b ys) (hl : xs.length + ys.length ≤ sizeLine) (k : ∀ c H', Same H H' → SqT K H' c (xs ++ ys) → Q (.ref c) H') : rCatA K (.ref a) (.ref b) H Q := by
  refine ⟨a, b, xs, ys, rfl, rfl, ha, hb, hl, fun e => ?_, fun e1 e2 => ?_, fun e1 e2 p np => ?_⟩
  · subst e
    exact k b H (Same.refl H) hb
  · subst e2
    exact k a H (Same.refl H) (by rw [List.append_nil]; exact ha)
  · exact k p _ (same_upd np) (SqT.of upd_same)
theorem len_sizes : ∀ L : List (T × List Str), L.length ≤ sizes L
  | [] => Nat.le_refl _
  | p :: r => by
    have := len_sizes r
    have := size_pos p.1
    rw [sizes_cons, List.length_cons]
    omega
theorem sizes_map (ns : List Str) : ∀ L : List (T × List Str), sizes (L.map fun p => (p.1, ns ++ p.2)) = sizes L
  | [] => rfl
  | p :: r => by
    rw [List.map_cons, sizes_cons, sizes_cons, sizes_map ns r]
end OwT
namespace OwT
open PySem PySem.Spec PyProof.Rows L2 Ow
/-! ### frames: what stood stands, but for the addresses of S -/
def Fr (S : List Addr) (H H' : Hp) : Prop := ∀ b o, b ∉ S → H b = some o → H' b = some o
section
variable {K : PySem.W.Frag} {S : List Addr} {H H1 H2 : Hp} {p : Addr}
theorem Fr.refl : Fr S H H := fun _ _ _ e => e
theorem Fr.trans (a : Fr S H H1) (b : Fr S H1 H2) : Fr S H H2 := fun c o n e => b c o n (a c o n e)
theorem Fr.mono {S' : List Addr} (a : Fr S H H1) (h : ∀ b ∈ S, b ∈ S') : Fr S' H H1 := fun c o n e => a c o (fun z => n (h c z)) e
theorem Fr.same (s : Same H H1) : Fr S H H1 := fun c o _ e => s c o e
theorem Fr.but (b : But p H H1) (h : p ∈ S) : Fr S H H1 := fun c o n e => by
  rw [b c (fun z => n (by rw [z]; exact h))]
  exact e
theorem Fr.new {o : HO} (h : H p = none) : Fr S H (upd H p o) := Fr.same (same_upd h)
theorem Fr.set {o : HO} (h : p ∈ S) : Fr S H (upd H p o) := fun c u n e => by
  rw [upd_ne (fun z => n (by rw [z]; exact h))]
  exact e
/-- what wasn't there at first may be changed -/
theorem Fr.late {o : HO} (a : Fr S H H1) (h : H p = none) : Fr S H (upd H1 p o) := fun c u n e => by
  rw [upd_ne (ne_of_none e h)]
  exact a c u n e
theorem Fr.free (a : Fr S H H1) (h : H1 p = none) (n : p ∉ S) : H p = none := by
  cases e : H p with
  | none => rfl
  | some o =>
    rw [a p o n e] at h
    cases h
theorem Fr.ts (a : Fr S H H1) (h : ∀ b ∈ S, ∃ xs, H b = some (.lst xs)) : TS K H H1 := TS.of fun c xs => by
  have k : ∀ u, H c = some u → (∀ ys, u ≠ .lst ys) → H1 c = some u := fun u e n => a c u (fun z => by
    obtain ⟨ys, e2⟩ := h c z
    rw [e] at e2
    exact n ys (Option.some.inj e2)) e
  exact ⟨fun e => k _ e (fun _ z => by cases z), fun _ e => k _ e (fun _ z => by cases z)⟩
theorem Fr.fd (a : Fr S H H1) (h : Fd H p) (n : p ∉ S) : Fd H1 p := by
  obtain ⟨d, s, e, r⟩ := h
  exact ⟨d, s, a p _ n e, r⟩
theorem Fd.lst (h : Fd H p) : ∃ xs, H p = some (.lst xs) := by
  obtain ⟨d, s, e, r⟩ := h
  exact ⟨_, e⟩
end
/-! ### what the law's terms are like -/
mutual
def Good (ns : List Str) : T → Prop
  | .num n => n.natAbs ≤ 10 ^ 18
  | .nam x => x ∈ ns
  | .fn x e => x ∈ ns ∧ Good ns e
  | .two w x y => w ∈ twos ∧ x ∈ ns ∧ y ∈ ns
  | .lt w x e b => (w = "let" ∨ w = "now") ∧ x ∈ ns ∧ Good ns e ∧ Good ns b
  | .all ps b => GoodPs ns ps ∧ Good ns b
  | .mk c xs => c ∈ ns ∧ (∀ x ∈ xs, x ∈ ns) ∧ xs.length ≤ 3
  | .by_ x bs => x ∈ ns ∧ GoodBs ns bs
def GoodPs (ns : List Str) : Ps → Prop
  | .nil => True
  | .cons x e r => x ∈ ns ∧ Good ns e ∧ GoodPs ns r
def GoodBs (ns : List Str) : Bs → Prop
  | .nil => True
  | .cons c ys e r => c ∈ ns ∧ (∀ y ∈ ys, y ∈ ns) ∧ ys.length ≤ 3 ∧ Good ns e ∧ GoodBs ns r
end
mutual
def nodes : T → Nat
  | .num _ => 1
  | .nam _ => 1
  | .fn _ e => 1 + nodes e
  | .two _ _ _ => 1
  | .lt _ _ e b => 1 + nodes e + nodes b
  | .all ps b => 1 + nodesPs ps + nodes b
  | .mk _ _ => 1
  | .by_ _ bs => 1 + nodesBs bs
def nodesPs : Ps → Nat
  | .nil => 0
  | .cons _ e r => nodes e + nodesPs r
def nodesBs : Bs → Nat
  | .nil => 0
  | .cons _ _ e r => nodes e + nodesBs r
end
mutual
def deep : T → Nat
  | .num _ => 1
  | .nam _ => 1
  | .fn _ e => 1 + deep e
  | .two _ _ _ => 1
  | .lt _ _ e b => 1 + max (deep e) (deep b)
  | .all ps b => 1 + max (deepPs ps) (deep b)
  | .mk _ _ => 1
  | .by_ _ bs => 1 + deepBs bs
def deepPs : Ps → Nat
  | .nil => 0
  | .cons _ e r => max (deep e) (deepPs r)
def deepBs : Bs → Nat
  | .nil => 0
  | .cons _ _ e r => max (deep e) (deepBs r)
end
mutual
theorem size_le (ns : List Str) : ∀ t : T, Good ns t → size t + 4 ≤ 8 * nodes t
  | .num _, _ => by show 1 + 4 ≤ 8 * 1; omega
  | .nam _, _ => by show 1 + 4 ≤ 8 * 1; omega
  | .fn _ e, h => by
    have := size_le ns e h.2
    show 2 + size e + 4 ≤ 8 * (1 + nodes e)
    omega
  | .two _ _ _, _ => by show 1 + 4 ≤ 8 * 1; omega
  | .lt _ _ e b, h => by
    have := size_le ns e h.2.2.1
    have := size_le ns b h.2.2.2
    show 2 + size e + size b + 4 ≤ 8 * (1 + nodes e + nodes b)
    omega
  | .all ps b, h => by
    have := size_le ns b h.2
    have := size_lePs ns ps h.1
    show 1 + sizePs ps + size b + 4 ≤ 8 * (1 + nodesPs ps + nodes b)
    omega
  | .mk _ xs, h => by
    have := h.2.2
    show 1 + xs.length + 4 ≤ 8 * 1
    omega
  | .by_ _ bs, h => by
    have := size_leBs ns bs h.2
    show 1 + sizeBs bs + 4 ≤ 8 * (1 + nodesBs bs)
    omega
theorem size_lePs (ns : List Str) : ∀ ps : Ps, GoodPs ns ps → sizePs ps ≤ 8 * nodesPs ps
  | .nil, _ => Nat.le_refl _
  | .cons _ e r, h => by
    have := size_le ns e h.2.1
    have := size_lePs ns r h.2.2
    show 1 + size e + sizePs r ≤ 8 * (nodes e + nodesPs r)
    omega
theorem size_leBs (ns : List Str) : ∀ bs : Bs, GoodBs ns bs → sizeBs bs ≤ 8 * nodesBs bs
  | .nil, _ => Nat.le_refl _
  | .cons _ ys e r, h => by
    have := size_le ns e h.2.2.2.1
    have := size_leBs ns r h.2.2.2.2
    have := h.2.2.1
    show 1 + ys.length + size e + sizeBs r ≤ 8 * (nodes e + nodesBs r)
    omega
end
end OwT
namespace OwT
open PySem PySem.Spec PyProof.Rows L2 Ow
def Ps.snoc : Ps → Str → T → Ps
  | .nil, x, e => .cons x e .nil
  | .cons y f r, x, e => .cons y f (r.snoc x e)
def Bs.snoc : Bs → Str → List Str → T → Bs
  | .nil, c, ys, e => .cons c ys e .nil
  | .cons d zs f r, c, ys, e => .cons d zs f (r.snoc c ys e)
section
variable {K : PySem.W.Frag} {H : Hp}
theorem ps_snoc {q : Addr} {x : Str} {v : V} {e : T} (h1 : SqT K H q [.str x, v]) (h2 : Tp K H v e) : ∀ (vs : List V) (ps : Ps), PsP K H vs ps → PsP K H (vs ++ [.ref q]) (ps.snoc x e)
  | _, _, .nil => .cons h1 h2 .nil
  | _, _, .cons a b d => .cons a b (ps_snoc h1 h2 _ _ d)
theorem bs_snoc {q z : Addr} {c : Str} {ys : List Str} {v : V} {e : T} (h1 : SqT K H q [.str c, .ref z, v]) (h2 : SqT K H z (ys.map V.str)) (h3 : Tp K H v e) : ∀ (vs : List V) (bs : Bs), BsP K H vs bs → BsP K H (vs ++ [.ref q]) (bs.snoc c ys e)
  | _, _, .nil => .cons h1 h2 h3 .nil
  | _, _, .cons a b c d => .cons a b c (bs_snoc h1 h2 h3 _ _ d)
end
theorem snoc_nodes (x : Str) (e : T) : ∀ ps : Ps, nodesPs (ps.snoc x e) = nodesPs ps + nodes e
  | .nil => by show nodes e + 0 = 0 + nodes e; omega
  | .cons y f r => by
    show nodes f + nodesPs (r.snoc x e) = nodes f + nodesPs r + nodes e
    rw [snoc_nodes x e r]
    omega
theorem snoc_deep (x : Str) (e : T) : ∀ ps : Ps, deepPs (ps.snoc x e) = max (deepPs ps) (deep e)
  | .nil => by show max (deep e) 0 = max 0 (deep e); omega
  | .cons y f r => by
    show max (deep f) (deepPs (r.snoc x e)) = max (max (deep f) (deepPs r)) (deep e)
    rw [snoc_deep x e r]
    omega
theorem snoc_good {ns : List Str} {x : Str} {e : T} (hx : x ∈ ns) (he : Good ns e) : ∀ ps : Ps, GoodPs ns ps → GoodPs ns (ps.snoc x e)
  | .nil, _ => ⟨hx, he, trivial⟩
  | .cons _ _ r, h => ⟨h.1, h.2.1, snoc_good hx he r h.2.2⟩
theorem bsnoc_nodes (c : Str) (ys : List Str) (e : T) : ∀ bs : Bs, nodesBs (bs.snoc c ys e) = nodesBs bs + nodes e
  | .nil => by show nodes e + 0 = 0 + nodes e; omega
  | .cons _ _ f r => by
    show nodes f + nodesBs (r.snoc c ys e) = nodes f + nodesBs r + nodes e
    rw [bsnoc_nodes c ys e r]
    omega
theorem bsnoc_deep (c : Str) (ys : List Str) (e : T) : ∀ bs : Bs, deepBs (bs.snoc c ys e) = max (deepBs bs) (deep e)
  | .nil => by show max (deep e) 0 = max 0 (deep e); omega
  | .cons _ _ f r => by
    show max (deep f) (deepBs (r.snoc c ys e)) = max (max (deep f) (deepBs r)) (deep e)
    rw [bsnoc_deep c ys e r]
    omega
theorem bsnoc_good {ns : List Str} {c : Str} {ys : List Str} {e : T} (hc : c ∈ ns) (hy : ∀ y ∈ ys, y ∈ ns) (hl : ys.length ≤ 3) (he : Good ns e) : ∀ bs : Bs, GoodBs ns bs → GoodBs ns (bs.snoc c ys e)
  | .nil, _ => ⟨hc, hy, hl, he, trivial⟩
  | .cons _ _ _ r, h => ⟨h.1, h.2.1, h.2.2.1, h.2.2.2.1, bsnoc_good hc hy hl he r h.2.2.2.2⟩
/-! ### as data -/
theorem lay_strs : ∀ l : List Str, (∀ x ∈ l, Lo x) → PyData.canLayAll0 (l.map PyData.str) = true
  | [], _ => by simp [PyData.canLayAll0]
  | x :: r, h => by
    have h1 := h x List.mem_cons_self
    have h2 := lay_strs r fun d hd => h d (List.mem_cons_of_mem _ hd)
    have h3 : PyData.strOk x = true := by
      unfold PyData.strOk
      rw [Array.all_eq_true']
      intro c hc
      have := h1 c (by simpa using hc)
      simp
      omega
    rw [List.map_cons]
    unfold PyData.canLayAll0
    rw [h2, Bool.and_true]
    unfold PyData.canLay0
    exact h3
theorem depth_strs : ∀ l : List Str, PyData.depthAll (l.map PyData.str) = 0
  | [] => by simp [PyData.depthAll]
  | x :: r => by
    rw [List.map_cons]
    unfold PyData.depthAll
    rw [depth_strs r]
    simp [PyData.depth]
theorem dp_strs {K : PySem.W.Frag} {H : Hp} : ∀ l : List Str, DpAll K H (l.map V.str) (l.map PyData.str)
  | [] => .nil
  | x :: r => .cons (.str x) (dp_strs r)
theorem shaped_tup {l : List Str} (h : ∀ x ∈ l, Lo x) : SeqAt.shaped (.tuple (l.map PyData.str)) = true := by
  unfold SeqAt.shaped
  rw [Bool.and_eq_true]
  constructor
  · unfold PyData.canLay0
    exact lay_strs l h
  · unfold PyData.depth
    rw [depth_strs l]
    decide
theorem eqv_tnil : ∀ l : List PyData, PyData.eqv (.tuple l) (.tuple []) = l.isEmpty
  | [] => by simp [PyData.eqv, PyData.eqvAll]
  | _ :: _ => by simp [PyData.eqv, PyData.eqvAll]
end OwT

set_option Elab.async false
set_option linter.all false
set_option maxRecDepth 100000
set_option maxHeartbeats 4000000
namespace OwK
open PySem PySem.Spec PyProof.Rows L2 Ow
def topS (i : Nat) : Stmt := PySem.Challenge.pw_owedonce_k04_names_that_are_free.main.body.getD i (.Pass ⟨0, 0, 0, 0⟩)
abbrev sFeed : Stmt := topS 5
abbrev sTake : Stmt := topS 6
abbrev sPick : Stmt := topS 7
theorem scFeed : FnScope ["script", "k", "cell", "digits", "state"] ["script", "k"] (defScope sFeed) := ⟨rfl, rfl, rfl, by decide +kernel, rfl, by decide +kernel, by decide +kernel⟩
theorem scTake : FnScope ["feed", "many", "found"] ["feed", "many"] (defScope sTake) := ⟨rfl, rfl, rfl, by decide +kernel, rfl, by decide +kernel, by decide +kernel⟩
theorem scPick : FnScope ["feed", "some"] ["feed", "some"] (defScope sPick) := ⟨rfl, rfl, rfl, by decide +kernel, rfl, by decide +kernel, by decide +kernel⟩
theorem max0 (i : Int) : (0 : Int) ≤ if i > 0 then i else 0 := by
  by_cases h : i > 0
  · rw [if_pos h]
    omega
  · rw [if_neg h]
    omega
section
variable {P : Program} {w : World} {K : PySem.W.Frag} {mg : Str → Option Value} {base : Heap}
theorem ok_feed {f : Addr} {fd : FuncData} {k : Nat} (F : Fun K "_law_feed" "_law_feed" sFeed f fd) (mLen : mg "len" = none) (mMax : mg "max" = none) (mAbs : mg "abs" = none) : FnOk P w K mg base CX0 (k + 1) f fd ["script", "k"] (spFeed K) := by
  refine F.ok scFeed (fun vs H Q E h => ?_) (fun cdv A outer s H vs Q E hr h => ?_)
  · obtain ⟨a, ns, k, rfl, _⟩ := h
    rfl
  · obtain ⟨a, ns, k, rfl, hS, hk, q⟩ := h
    refine ⟨_, pss_cons (ps_set (i := 2) scFeed.nd rfl (.inl rfl) (pe_ifExp (pt_cmpR op_lt (pv 1) (pe_callB call_len_seq (by rfl) mLen PySem.boot_len (pa_cons (pv 0) pa_nil)) (nomark _)) (pe_ix ix_list (pv 0) (pv 1) (fun _ _ => rfl)) (pe_op op_add (pe_op op_mul pe_int (pv 1)) pe_int)))
      (pss_cons (ps_set (i := 3) scFeed.nd rfl (.inl rfl) (pe_callB (call_max2 rfl) (by rfl) mMax (by decide +kernel) (pa_cons pe_int (pa_cons (pe_op op_sub (pe_callB call_abs (by rfl) mAbs (by decide +kernel) (pa_cons (pv 2) pa_nil)) (pe_op op_pow pe_int pe_int)) pa_nil))))
      (pss_cons (ps_set (i := 4) scFeed.nd rfl (.inl rfl) (pe_op op_mod (pe_op op_add (pe_op op_add (pe_op op_mul (pv 2) pe_int) (pe_op op_mul pe_int (pv 1))) pe_int) pe_int))
      (pss_one (ps_ret (pe_lst (pa_cons (pv 3) (pa_cons (pv 4) pa_nil))))))), ?_⟩
    refine ⟨_, rfl, _, rfl, a, _, rfl, .inl hS, _, _, rfl, rfl, _, rfl, ite2 (fun e => ?_) (fun e => ?_)⟩
    · have e1 : k < ns.length := by
        have e2 := of_decide_eq_true e
        rw [List.length_map] at e2
        omega
      have g : (ns.map V.int)[k]? = some (.int ns[k]) := by
        rw [List.getElem?_map, List.getElem?_eq_getElem e1]
        rfl
      refine ⟨_, rfl, _, rfl, a, _, _, _, rfl, rfl, hS, atI_nat (j := k) g, ?_⟩
      refine ⟨_, rfl, _, rfl, _, _, rfl, rfl, ⟨by decide, by decide, by decide⟩, _, _, rfl, rfl, _, _, rfl, ?_⟩
      refine ⟨_, rfl, _, _, rfl, rfl, .inr (by decide), _, rfl, _, _, rfl, rfl, .inl (by decide), _, _, rfl, rfl, _, _, rfl, rfl, _, _, rfl, rfl, by show (0 : Int) < 2305843009213693951; decide, ?_⟩
      refine ⟨_, rfl, _, rfl, (by show 2 ≤ sizeLine; decide), fun l hl => q l _ hl ⟨_, _, upd_same, ?_, Int.emod_nonneg _ (by decide), Int.emod_lt_of_pos _ (by decide)⟩ But.upd⟩
      exact max0 _
    · refine ⟨_, rfl, _, _, rfl, rfl, .inl (by decide), _, _, rfl, rfl, ?_⟩
      refine ⟨_, rfl, _, rfl, _, _, rfl, rfl, ⟨by decide, by decide, by decide⟩, _, _, rfl, rfl, _, _, rfl, ?_⟩
      refine ⟨_, rfl, _, _, rfl, rfl, .inr (by decide), _, rfl, _, _, rfl, rfl, .inl (by decide), _, _, rfl, rfl, _, _, rfl, rfl, _, _, rfl, rfl, by show (0 : Int) < 2305843009213693951; decide, ?_⟩
      refine ⟨_, rfl, _, rfl, (by show 2 ≤ sizeLine; decide), fun l hl => q l _ hl ⟨_, _, upd_same, ?_, Int.emod_nonneg _ (by decide), Int.emod_lt_of_pos _ (by decide)⟩ But.upd⟩
      exact max0 _
theorem ok_take {f : Addr} {fd : FuncData} {k : Nat} (F : Fun K "_law_take" "_law_take" sTake f fd) : FnOk P w K mg base CX0 (k + 1) f fd ["feed", "many"] spTake := by
  refine F.ok scTake (fun vs H Q E h => ?_) (fun cdv A outer s H vs Q E hr h => ?_)
  · obtain ⟨a, m, rfl, _⟩ := h
    rfl
  · obtain ⟨p, m, rfl, ⟨d, st, hp, hd, hs1, hs2⟩, hm1, hm2, q⟩ := h
    refine ⟨_, pss_cons (ps_if (pt_cmpR op_gt (pe_ix ix_list (pv 0) pe_int (fun _ _ => rfl)) pe_int (nomark _))
        (pss_cons (ps_set (i := 2) scTake.nd rfl (.inl rfl) (pe_op op_mod (pe_ix ix_list (pv 0) pe_int (fun _ _ => rfl)) (pv 1)))
        (pss_cons (ps_asg (pe_op op_fdiv (pe_ix ix_list (pv 0) pe_int (fun _ _ => rfl)) (pv 1)) (pg_sub (pv 0) pe_int set_list))
        (pss_one (ps_ret (pv 2))))) pss_nil)
      (pss_cons (ps_asg (pe_op op_mod (pe_op op_add (pe_op op_mul (pe_ix ix_list (pv 0) pe_int (fun _ _ => rfl)) pe_int) pe_int) pe_int) (pg_sub (pv 0) pe_int set_list))
      (pss_one (ps_ret (pe_op op_mod (pe_op op_fdiv (pe_ix ix_list (pv 0) pe_int (fun _ _ => rfl)) pe_int) (pv 1))))), ?_⟩
    refine ⟨_, rfl, p, _, _, _, rfl, rfl, SqL.of hp, atI_nat (j := 0) rfl, _, _, rfl, rfl, _, rfl, ite2 (fun e => ?_) (fun e => ?_)⟩
    · refine ⟨_, rfl, p, _, _, _, rfl, rfl, SqL.of hp, atI_nat (j := 0) rfl, _, rfl, _, _, rfl, rfl, hm1, ?_⟩
      refine ⟨_, rfl, p, _, _, _, rfl, rfl, SqL.of hp, atI_nat (j := 0) rfl, _, rfl, _, _, rfl, rfl, ⟨hm1, hm2⟩, ?_⟩
      refine ⟨_, rfl, p, _, _, 0, rfl, rfl, hp, rfl, ?_⟩
      refine ⟨_, rfl, q _ _ (Int.emod_nonneg _ (by omega)) (Int.emod_lt_of_pos _ hm1) ⟨_, _, upd_same, Int.ediv_nonneg hd (by omega), hs1, hs2⟩ But.upd⟩
    · refine ⟨_, rfl, p, _, _, _, rfl, rfl, SqL.of hp, atI_nat (j := 1) rfl, _, _, rfl, rfl, .inr (by decide), _, _, rfl, rfl, _, _, rfl, rfl, by show (0 : Int) < 2305843009213693951; decide, ?_⟩
      refine ⟨_, rfl, p, _, _, 1, rfl, rfl, hp, rfl, ?_⟩
      refine ⟨_, rfl, p, _, _, _, rfl, rfl, SqL.of upd_same, atI_nat (j := 1) rfl, _, _, rfl, rfl, ⟨by decide, by decide⟩, _, rfl, _, _, rfl, rfl, hm1, ?_⟩
      exact q _ _ (Int.emod_nonneg _ (by omega)) (Int.emod_lt_of_pos _ hm1) ⟨_, _, upd_same, hd, Int.emod_nonneg _ (by decide), Int.emod_lt_of_pos _ (by decide)⟩ But.upd
theorem ok_pick {f fT : Addr} {fd fdT : FuncData} {k : Nat} (F : Fun K "_law_pick" "_law_pick" sPick f fd) (FT : Fun K "_law_take" "_law_take" sTake fT fdT) (bT : Binds K fdT ["feed", "many"] []) (gT : mg "_law_take" = some (.ref fT)) (mLen : mg "len" = none) :
    FnOk P w K mg base CX0 (k + 2) f fd ["feed", "some"] (spPick K) := by
  have GT : FnOk P w K mg base CX0 (k + 1) fT fdT ["feed", "many"] spTake := ok_take FT
  refine F.ok scPick (fun vs H Q E h => ?_) (fun cdv A outer s H vs Q E hr h => ?_)
  · rcases h with ⟨a, m, rfl, _⟩ | ⟨a, m, xs, rfl, _⟩
    · rfl
    · rfl
  · rcases h with ⟨p, z, rfl, hp, hz1, hz2, q⟩ | ⟨p, a, xs, rfl, np, hS, hp, hz1, hz2, q⟩
    · refine ⟨_, pss_one (ps_ret (pe_ix ix_str (pv 1) (pe_call GT hr (by rfl) gT FT.kp bT .nil pass0 (pa_cons (pv 0) (pa_cons (pe_callB call_len_str (by rfl) mLen PySem.boot_len (pa_cons (pv 1) pa_nil)) pa_nil))) (fun _ _ => rfl))), ?_⟩
      have hl : z.length ≤ sizeLine := Nat.le_trans (by omega) line_ge
      refine ⟨_, rfl, _, rfl, _, rfl, _, rfl, hl, p, _, rfl, hp, by omega, by omega, fun r H' r0 r1 hp' hb => ?_⟩
      obtain ⟨c, hc⟩ : ∃ c, z.cps.toList[r.toNat]? = some c := ⟨_, List.getElem?_eq_getElem (by
        have : z.cps.toList.length = z.length := by simp [Str.length]
        omega)⟩
      refine ⟨z, r, c, rfl, rfl, hl, ?_, q c H' (List.mem_of_getElem? hc) hp' hb⟩
      have := atI_nat hc
      rwa [Int.toNat_of_nonneg r0] at this
    · refine ⟨_, pss_one (ps_ret (pe_ix ix_seq (pv 1) (pe_call GT hr (by rfl) gT FT.kp bT .nil pass0 (pa_cons (pv 0) (pa_cons (pe_callB call_len_seq (by rfl) mLen PySem.boot_len (pa_cons (pv 1) pa_nil)) pa_nil))) (fun _ _ => rfl))), ?_⟩
      refine ⟨_, rfl, _, rfl, _, rfl, _, _, rfl, hS, p, _, rfl, hp, by omega, by omega, fun r H' r0 r1 hp' hb => ?_⟩
      obtain ⟨x, hx⟩ : ∃ x, xs[r.toNat]? = some x := ⟨_, List.getElem?_eq_getElem (by omega)⟩
      have hx' : atI xs r = some x := by
        have := atI_nat hx
        rwa [Int.toNat_of_nonneg r0] at this
      have qx := q x H' (List.mem_of_getElem? hx) hp' hb
      rcases hS with hS | hS
      · refine .inl ⟨a, xs, r, x, rfl, rfl, ?_, hx', qx⟩
        rcases hS with (h | ⟨o, h⟩) | h
        · exact .inl (.inl (by rw [hb a np.symm]; exact h))
        · exact .inl (.inr ⟨o, by rw [hb a np.symm]; exact h⟩)
        · exact .inr h
      · refine .inr (.inl ⟨a, xs, r, x, rfl, rfl, ?_, hx', qx⟩)
        rcases hS with (h | ⟨o, h⟩) | h
        · exact .inl (.inl (by rw [hb a np.symm]; exact h))
        · exact .inl (.inr ⟨o, by rw [hb a np.symm]; exact h⟩)
        · exact .inr h
end
end OwK

set_option Elab.async false
set_option linter.all false
set_option maxRecDepth 100000
set_option maxHeartbeats 8000000
namespace OwK
open PySem PySem.Spec PyProof.Rows L2 Ow OwT
abbrev sNamed : Stmt := topS 1
abbrev sWithin : Stmt := topS 2
abbrev sFree : Stmt := topS 3
theorem scNamed : FnScope ["term", "sort"] ["term"] (defScope sNamed) := ⟨rfl, rfl, rfl, by decide +kernel, rfl, by decide +kernel, by decide +kernel⟩
theorem scWithin : FnScope ["term", "sort", "names", "pair", "branch"] ["term"] (defScope sWithin) := ⟨rfl, rfl, rfl, by decide +kernel, rfl, by decide +kernel, by decide +kernel⟩
theorem scFree : FnScope ["term", "found", "todo", "part", "bound", "name", "inner", "names"] ["term"] (defScope sFree) := ⟨rfl, rfl, rfl, by decide +kernel, rfl, by decide +kernel, by decide +kernel⟩
/-- told: a tuple of the names ns -/
def spNamed (K : PySem.W.Frag) : Sp := fun vs H Q _ => ∃ v t, vs = [v] ∧ Tp K H v t ∧ ∀ q H', Same H H' → SqT K H' q ((nmd t).map V.str) → Q (.ref q) H'
structure Hd (K : PySem.W.Frag) (H : Hp) (t : T) (wd : Str) (rest : List V) : Prop where
  made : wd = "made" → ∃ x q, rest = [x, .ref q] ∧ SqT K H q ((nmd t).map V.str)
  one : inV (.str wd) [.str "name", .str "by"] = true → ∃ x r, rest = x :: r ∧ (nmd t).map V.str = [x]
  two : inV (.str wd) [.str "call", .str "sum", .str "minus", .str "less", .str "same"] = true → ∃ x y, rest = [x, y] ∧ (nmd t).map V.str = [x, y]
  no : wd ≠ "made" → inV (.str wd) [.str "name", .str "by"] = false → inV (.str wd) [.str "call", .str "sum", .str "minus", .str "less", .str "same"] = false → nmd t = []
theorem hd_of {K : PySem.W.Frag} {H : Hp} {v : V} {t : T} (h : Tp K H v t) : ∃ a wd rest, v = .ref a ∧ SqT K H a (.str wd :: rest) ∧ Hd K H t wd rest := by
  cases h with
  | num h => exact ⟨_, _, _, rfl, h, fun z => absurd z (by decide +kernel), fun z => absurd z (by decide +kernel), fun z => absurd z (by decide +kernel), fun _ _ _ => rfl⟩
  | nam h => exact ⟨_, _, _, rfl, h, fun z => absurd z (by decide +kernel), fun _ => ⟨_, _, rfl, rfl⟩, fun z => absurd z (by decide +kernel), fun _ z => absurd z (by decide +kernel)⟩
  | fn h e => exact ⟨_, _, _, rfl, h, fun z => absurd z (by decide +kernel), fun z => absurd z (by decide +kernel), fun z => absurd z (by decide +kernel), fun _ _ _ => rfl⟩
  | two w h =>
    unfold twos at w
    simp only [List.mem_cons, List.not_mem_nil, or_false] at w
    rcases w with rfl | rfl | rfl | rfl | rfl
    all_goals exact ⟨_, _, _, rfl, h, fun z => absurd z (by decide +kernel), fun z => absurd z (by decide +kernel), fun _ => ⟨_, _, rfl, rfl⟩, fun _ _ z => absurd z (by decide +kernel)⟩
  | lt w h e b =>
    rcases w with rfl | rfl
    all_goals exact ⟨_, _, _, rfl, h, fun z => absurd z (by decide +kernel), fun z => absurd z (by decide +kernel), fun z => absurd z (by decide +kernel), fun _ _ _ => rfl⟩
  | all h q ps b => exact ⟨_, _, _, rfl, h, fun z => absurd z (by decide +kernel), fun z => absurd z (by decide +kernel), fun z => absurd z (by decide +kernel), fun _ _ _ => rfl⟩
  | mk h q => exact ⟨_, _, _, rfl, h, fun _ => ⟨_, _, rfl, q⟩, fun z => absurd z (by decide +kernel), fun z => absurd z (by decide +kernel), fun z => absurd rfl z⟩
  | by_ h q bs => exact ⟨_, _, _, rfl, h, fun z => absurd z (by decide +kernel), fun _ => ⟨_, _, rfl, rfl⟩, fun z => absurd z (by decide +kernel), fun _ z => absurd z (by decide +kernel)⟩
theorem cut12 (x y : V) (r : List V) : cutV (x :: y :: r) (some 1) (some 2) = [y] := by
  unfold cutV
  have e1 : HT.sIx (x :: y :: r).length 0 (some 1) = 1 := by
    rw [show ((1 : Int)) = ((1 : Nat) : Int) from rfl, HT.sIx_nat, List.length_cons, List.length_cons]
    omega
  have e2 : HT.sIx (x :: y :: r).length (x :: y :: r).length (some 2) = 2 := by
    rw [show ((2 : Int)) = ((2 : Nat) : Int) from rfl, HT.sIx_nat, List.length_cons, List.length_cons]
    omega
  rw [e1, e2]
  rfl
theorem not0 (x : V) (r : List V) : HT.sIx (x :: r).length 0 (some 1) ≠ 0 := by
  rw [show ((1 : Int)) = ((1 : Nat) : Int) from rfl, HT.sIx_nat, List.length_cons]
  omega
abbrev w1 : List V := [.str "name", .str "by"]
abbrev w2 : List V := [.str "call", .str "sum", .str "minus", .str "less", .str "same"]
structure Wd (K : PySem.W.Frag) (H : Hp) (t : T) (wd : Str) (rest : List V) : Prop where
  fn : wd = "fun" → ∃ x v e, rest = [.str x, v] ∧ Tp K H v e ∧ wn t = [(e, [x])]
  lt : inV (.str wd) [.str "let", .str "now"] = true → ∃ x v u e b, rest = [.str x, v, u] ∧ Tp K H v e ∧ Tp K H u b ∧ wn t = [(e, []), (b, [x])]
  all : wd = "letall" → ∃ q vs u ps b, rest = [.ref q, u] ∧ SqT K H q vs ∧ PsP K H vs ps ∧ Tp K H u b ∧ wn t = ps.subs ps.names ++ [(b, ps.names)] ∧ vs.length ≤ size t
  by_ : wd = "by" → ∃ x q vs bs, rest = [x, .ref q] ∧ SqT K H q vs ∧ BsP K H vs bs ∧ wn t = bs.subs ∧ vs.length ≤ size t
  no : wd ≠ "fun" → inV (.str wd) [.str "let", .str "now"] = false → wd ≠ "letall" → wd ≠ "by" → wn t = []
theorem wd_of {K : PySem.W.Frag} {H : Hp} {v : V} {t : T} (h : Tp K H v t) : ∃ a wd rest, v = .ref a ∧ SqT K H a (.str wd :: rest) ∧ Wd K H t wd rest := by
  cases h with
  | num h => exact ⟨_, _, _, rfl, h, fun z => absurd z (by decide +kernel), fun z => absurd z (by decide +kernel), fun z => absurd z (by decide +kernel), fun z => absurd z (by decide +kernel), fun _ _ _ _ => rfl⟩
  | nam h => exact ⟨_, _, _, rfl, h, fun z => absurd z (by decide +kernel), fun z => absurd z (by decide +kernel), fun z => absurd z (by decide +kernel), fun z => absurd z (by decide +kernel), fun _ _ _ _ => rfl⟩
  | fn h e => exact ⟨_, _, _, rfl, h, fun _ => ⟨_, _, _, rfl, e, rfl⟩, fun z => absurd z (by decide +kernel), fun z => absurd z (by decide +kernel), fun z => absurd z (by decide +kernel), fun z => absurd rfl z⟩
  | two w h =>
    unfold twos at w
    simp only [List.mem_cons, List.not_mem_nil, or_false] at w
    rcases w with rfl | rfl | rfl | rfl | rfl
    all_goals exact ⟨_, _, _, rfl, h, fun z => absurd z (by decide +kernel), fun z => absurd z (by decide +kernel), fun z => absurd z (by decide +kernel), fun z => absurd z (by decide +kernel), fun _ _ _ _ => rfl⟩
  | lt w h e b =>
    rcases w with rfl | rfl
    all_goals exact ⟨_, _, _, rfl, h, fun z => absurd z (by decide +kernel), fun _ => ⟨_, _, _, _, _, rfl, e, b, rfl⟩, fun z => absurd z (by decide +kernel), fun z => absurd z (by decide +kernel), fun _ z => absurd z (by decide +kernel)⟩
  | all h q ps b =>
    refine ⟨_, _, _, rfl, h, fun z => absurd z (by decide +kernel), fun z => absurd z (by decide +kernel), fun _ => ⟨_, _, _, _, _, rfl, q, ps, b, rfl, ?_⟩, fun z => absurd z (by decide +kernel), fun _ _ z => absurd rfl z⟩
    have := ps_few _ _ ps
    unfold size
    omega
  | mk h q => exact ⟨_, _, _, rfl, h, fun z => absurd z (by decide +kernel), fun z => absurd z (by decide +kernel), fun z => absurd z (by decide +kernel), fun z => absurd z (by decide +kernel), fun _ _ _ _ => rfl⟩
  | by_ h q bs =>
    refine ⟨_, _, _, rfl, h, fun z => absurd z (by decide +kernel), fun z => absurd z (by decide +kernel), fun z => absurd z (by decide +kernel), fun _ => ⟨_, _, _, _, rfl, q, bs, rfl, ?_⟩, fun _ _ _ z => absurd rfl z⟩
    have := bs_few _ _ bs
    unfold size
    omega
/-- told: a new list of the terms within, each with the names bound there -/
def spWithin (K : PySem.W.Frag) : Sp := fun vs H Q _ => ∃ v t, vs = [v] ∧ Tp K H v t ∧ size t ≤ 100000 ∧ ∀ l es H', Same H H' → H l = none → H' l = some (.lst es) → Subs K H' es (wn t) → Q (.ref l) H'
section
variable {P : Program} {w : World} {K : PySem.W.Frag} {mg : Str → Option Value} {base : Heap}
theorem ok_named {f : Addr} {fd : FuncData} {k : Nat} (F : Fun K "named" "named" sNamed f fd) : FnOk P w K mg base CX0 (k + 1) f fd ["term"] (spNamed K) := by
  refine F.ok scNamed (fun vs H Q E h => ?_) (fun cdv A outer s H vs Q E hr h => ?_)
  · obtain ⟨v, t, rfl, _⟩ := h
    rfl
  · obtain ⟨v, t, rfl, hT, q⟩ := h
    refine ⟨_, pss_cons (ps_set (i := 1) scNamed.nd rfl (.inl rfl) (pe_ix ix_tup (pv 0) pe_int (fun _ _ => rfl)))
      (pss_cons (ps_if (pt_cmpR op_eq (pv 1) pe_str (nomark _)) (pss_one (ps_ret (pe_ix ix_tup (pv 0) pe_int (fun _ _ => rfl)))) pss_nil)
      (pss_cons (ps_if (pt_cmpR op_in_seq (pv 1) (pe_tup (pa_cons pe_str (pa_cons pe_str pa_nil))) rfl) (pss_one (ps_ret (pe_slice sl_tupA (pv 0) (po_some pe_int) (po_some pe_int)))) pss_nil)
      (pss_cons (ps_if (pt_cmpR op_in_seq (pv 1) (pe_tup (pa_cons pe_str (pa_cons pe_str (pa_cons pe_str (pa_cons pe_str (pa_cons pe_str pa_nil)))))) rfl) (pss_one (ps_ret (pe_slice sl_tupA (pv 0) (po_some pe_int) (po_some pe_int)))) pss_nil)
      (pss_one (ps_ret (pe_tup pa_nil)))))), ?_⟩
    obtain ⟨a, wd, rest, rfl, hS, hd⟩ := hd_of hT
    refine ⟨_, rfl, a, _, _, _, rfl, rfl, hS, atI_nat (j := 0) rfl, ?_⟩
    refine ⟨_, rfl, rfl, _, rfl, ?_⟩
    refine ite2 (fun e => ?_) (fun e1 => ?_)
    · obtain ⟨x, p, rfl, hp⟩ := hd.made (V.str.inj (of_decide_eq_true e))
      exact ⟨_, rfl, a, _, _, _, rfl, rfl, hS, atI_nat (j := 2) rfl, q p H (Same.refl H) hp⟩
    have n1 : wd ≠ "made" := fun z => e1 (decide_eq_true (congrArg V.str z))
    refine ⟨_, rfl, by show 2 ≤ sizeLine; decide, fun b1 nb1 => ⟨b1, _, rfl, .inr (SqT.of upd_same), rfl, rfl, _, rfl, ?_⟩⟩
    have s1 : Same H (upd H b1 (.tup [.str "name", .str "by"])) := same_upd nb1
    refine ite2 (fun e => ?_) (fun e2 => ?_)
    · obtain ⟨x, r, rfl, en⟩ := hd.one e
      refine ⟨_, rfl, _, rfl, _, rfl, a, _, rfl, TS.same s1 _ _ hS, fun z => absurd z.1 (not0 _ _), fun _ p np => ?_⟩
      refine q p _ (s1.trans (same_upd np)) (SqT.of ?_)
      rw [upd_same, cut12, en]
    have n2 : inV (.str wd) [.str "name", .str "by"] = false := Bool.eq_false_iff.mpr e2
    refine ⟨_, rfl, by show 5 ≤ sizeLine; decide, fun b2 nb2 => ⟨b2, _, rfl, .inr (SqT.of upd_same), rfl, rfl, _, rfl, ?_⟩⟩
    have s2 := s1.trans (same_upd (o := .tup [.str "call", .str "sum", .str "minus", .str "less", .str "same"]) nb2)
    refine ite2 (fun e => ?_) (fun e3 => ?_)
    · obtain ⟨x, y, rfl, en⟩ := hd.two e
      refine ⟨_, rfl, _, rfl, _, rfl, a, _, rfl, TS.same s2 _ _ hS, fun z => absurd z.1 (not0 _ _), fun _ p np => ?_⟩
      refine q p _ (s2.trans (same_upd np)) (SqT.of ?_)
      rw [upd_same, en]
      rfl
    have n3 : inV (.str wd) [.str "call", .str "sum", .str "minus", .str "less", .str "same"] = false := Bool.eq_false_iff.mpr e3
    refine ⟨by show 0 ≤ sizeLine; decide, fun p np => ?_⟩
    refine q p _ (s2.trans (same_upd np)) (SqT.of ?_)
    rw [upd_same, hd.no n1 n2 n3]
    rfl
theorem ok_within {f : Addr} {fd : FuncData} {k : Nat} (F : Fun K "within" "within" sWithin f fd) (mTup : mg "tuple" = none) : FnOk P w K mg base CX0 (k + 1) f fd ["term"] (spWithin K) := by
  refine F.ok scWithin (fun vs H Q E h => ?_) (fun cdv A outer s H vs Q E hr h => ?_)
  · obtain ⟨v, t, rfl, _⟩ := h
    rfl
  · obtain ⟨v, t, rfl, hT, few, q⟩ := h
    refine ⟨_, pss_cons (ps_set (i := 1) scWithin.nd rfl (.inl rfl) (pe_ix ix_tup (pv 0) pe_int (fun _ _ => rfl)))
      (pss_cons (ps_if (pt_cmpR op_eq (pv 1) pe_str (nomark _)) (pss_one (ps_ret (pe_lst (pa_cons (pe_tup (pa_cons (pe_ix ix_tup (pv 0) pe_int (fun _ _ => rfl)) (pa_cons (pe_tup (pa_cons (pe_ix ix_tup (pv 0) pe_int (fun _ _ => rfl)) pa_nil)) pa_nil))) pa_nil)))) pss_nil)
      (pss_cons (ps_if (pt_cmpR op_in_seq (pv 1) (pe_tup (pa_cons pe_str (pa_cons pe_str pa_nil))) rfl)
        (pss_one (ps_ret (pe_lst (pa_cons (pe_tup (pa_cons (pe_ix ix_tup (pv 0) pe_int (fun _ _ => rfl)) (pa_cons (pe_tup pa_nil) pa_nil))) (pa_cons (pe_tup (pa_cons (pe_ix ix_tup (pv 0) pe_int (fun _ _ => rfl)) (pa_cons (pe_tup (pa_cons (pe_ix ix_tup (pv 0) pe_int (fun _ _ => rfl)) pa_nil)) pa_nil))) pa_nil))))) pss_nil)
      (pss_cons (ps_if (pt_cmpR op_eq (pv 1) pe_str (nomark _))
        (pss_cons (ps_set (i := 2) scWithin.nd rfl (.inr rfl) (pe_callTy call_tuple_of (by rfl) mTup (by decide +kernel) (pa_cons (pe_lc (own := [("pair", 3)]) (g := gName 3) (tt := tYes) (te := tOp (rIxT K) (tVar 3) (tC (.int 0))) rfl scWithin.nd (pi_tup (pe_ix ix_tup (pv 0) pe_int (fun _ _ => rfl)))
            (blkOk_by (N := ["term", "sort", "names", "pair", "branch"]) (sc := defScope sWithin) (by decide +kernel)) (fun _ _ _ _ _ => pg_name (i := 3) scWithin.nd rfl (Or.inl rfl)) (fun _ _ _ _ _ => pts_nil) (fun _ _ _ _ _ => pe_ix ix_tup (pv 3) pe_int (fun _ _ => rfl))) pa_nil)))
        (pss_one (ps_ret (pe_op op_cat (pe_lc (own := [("pair", 3)]) (g := gName 3) (tt := tYes) (te := tTup (tCons (tOp (rIxT K) (tVar 3) (tC (.int 1))) (tCons (tVar 2) tNil))) rfl scWithin.nd (pi_tup (pe_ix ix_tup (pv 0) pe_int (fun _ _ => rfl)))
            (blkOk_by (N := ["term", "sort", "names", "pair", "branch"]) (sc := defScope sWithin) (by decide +kernel)) (fun _ _ _ _ _ => pg_name (i := 3) scWithin.nd rfl (Or.inl rfl)) (fun _ _ _ _ _ => pts_nil) (fun _ _ _ _ _ => pe_tup (pa_cons (pe_ix ix_tup (pv 3) pe_int (fun _ _ => rfl)) (pa_cons (pv 2) pa_nil))))
          (pe_lst (pa_cons (pe_tup (pa_cons (pe_ix ix_tup (pv 0) pe_int (fun _ _ => rfl)) (pa_cons (pv 2) pa_nil))) pa_nil)))))) pss_nil)
      (pss_cons (ps_if (pt_cmpR op_eq (pv 1) pe_str (nomark _)) (pss_one (ps_ret (pe_lc (own := [("branch", 4)]) (g := gName 4) (tt := tYes) (te := tTup (tCons (tOp (rIxT K) (tVar 4) (tC (.int 2))) (tCons (tOp (rIxT K) (tVar 4) (tC (.int 1))) tNil))) rfl scWithin.nd (pi_tup (pe_ix ix_tup (pv 0) pe_int (fun _ _ => rfl)))
            (blkOk_by (N := ["term", "sort", "names", "pair", "branch"]) (sc := defScope sWithin) (by decide +kernel)) (fun _ _ _ _ _ => pg_name (i := 4) scWithin.nd rfl (Or.inl rfl)) (fun _ _ _ _ _ => pts_nil)
            (fun _ _ _ _ _ => pe_tup (pa_cons (pe_ix ix_tup (pv 4) pe_int (fun _ _ => rfl)) (pa_cons (pe_ix ix_tup (pv 4) pe_int (fun _ _ => rfl)) pa_nil)))))) pss_nil)
      (pss_one (ps_ret (pe_lst pa_nil))))))), ?_⟩
    obtain ⟨a, wd, rest, rfl, hS, hd⟩ := wd_of hT
    refine ⟨_, rfl, a, _, _, _, rfl, rfl, hS, atI_nat (j := 0) rfl, ?_⟩
    refine ⟨_, rfl, rfl, _, rfl, ?_⟩
    refine ite2 (fun e => ?_) (fun e1 => ?_)
    · -- fun
      obtain ⟨x, v, e, rfl, he, en⟩ := hd.fn (V.str.inj (of_decide_eq_true e))
      refine ⟨_, rfl, a, _, _, _, rfl, rfl, hS, atI_nat (j := 2) rfl, _, rfl, a, _, _, _, rfl, rfl, hS, atI_nat (j := 1) rfl, by show 1 ≤ sizeLine; decide, fun p np => ?_⟩
      refine ⟨by show 2 ≤ sizeLine; decide, fun o no => ⟨by show 1 ≤ sizeLine; decide, fun l nl => ?_⟩⟩
      have s1 : Same H (upd H p (.tup [V.str x])) := same_upd np
      have s2 := s1.trans (same_upd (o := .tup [v, .ref p]) no)
      have s3 := s2.trans (same_upd (o := .lst [.ref o]) nl)
      refine q l _ _ s3 (s2.free nl) upd_same ?_
      rw [en]
      have np2 : p ≠ o := ne_of_none upd_same no
      have g1 : (upd (upd H p (.tup [V.str x])) o (.tup [v, .ref p])) p = some (.tup [V.str x]) := by rw [upd_ne np2]; exact upd_same
      refine .cons (b := p) (SqT.of (same_upd nl _ _ upd_same)) (he.keep (TS.same s3)) (SqT.of (same_upd nl _ _ g1)) .nil
    refine ⟨_, rfl, by show 2 ≤ sizeLine; decide, fun b1 nb1 => ⟨b1, _, rfl, .inr (SqT.of upd_same), rfl, rfl, _, rfl, ?_⟩⟩
    have s1 : Same H (upd H b1 (.tup [.str "let", .str "now"])) := same_upd nb1
    generalize upd H b1 (.tup [.str "let", .str "now"]) = H1 at s1 ⊢
    have t1 := TS.same (K := K) s1
    refine ite2 (fun e => ?_) (fun e2 => ?_)
    · -- let, now
      obtain ⟨x, v, u, e, b, rfl, he, hb, en⟩ := hd.lt e
      refine ⟨_, rfl, a, _, _, _, rfl, rfl, t1 _ _ hS, atI_nat (j := 2) rfl, by show 0 ≤ sizeLine; decide, fun p1 n1 => ⟨by show 2 ≤ sizeLine; decide, fun o1 m1 => ?_⟩⟩
      have s2 := s1.trans (same_upd (o := .tup []) n1)
      have s3 := s2.trans (same_upd (o := .tup [v, .ref p1]) m1)
      refine ⟨_, rfl, a, _, _, _, rfl, rfl, TS.same s3 _ _ hS, atI_nat (j := 3) rfl, _, rfl, a, _, _, _, rfl, rfl, TS.same s3 _ _ hS, atI_nat (j := 1) rfl, by show 1 ≤ sizeLine; decide, fun p2 n2 => ⟨by show 2 ≤ sizeLine; decide, fun o2 m2 => ⟨by show 2 ≤ sizeLine; decide, fun l nl => ?_⟩⟩⟩
      have s4 := s3.trans (same_upd (o := .tup [V.str x]) n2)
      have s5 := s4.trans (same_upd (o := .tup [u, .ref p2]) m2)
      have s6 := s5.trans (same_upd (o := .lst [.ref o1, .ref o2]) nl)
      refine q l _ _ s6 (s5.free nl) upd_same ?_
      rw [en]
      have k1 := same_upd (o := .tup [v, .ref p1]) m1
      have k2 := same_upd (o := .tup [V.str x]) n2
      have k3 := same_upd (o := .tup [u, .ref p2]) m2
      have k4 := same_upd (o := .lst [.ref o1, .ref o2]) nl
      refine .cons (b := p1) (SqT.of (k4 _ _ (k3 _ _ (k2 _ _ upd_same)))) (he.keep (TS.same s6)) (SqT.of (k4 _ _ (k3 _ _ (k2 _ _ (k1 _ _ upd_same))))) (.cons (b := p2) (SqT.of (k4 _ _ upd_same)) (hb.keep (TS.same s6)) (SqT.of (k4 _ _ (k3 _ _ upd_same))) .nil)
    refine ⟨_, rfl, rfl, _, rfl, ?_⟩
    refine ite2 (fun e => ?_) (fun e3 => ?_)
    · -- letall
      obtain ⟨z, vs, u, ps, b, rfl, hz, hps, hb, en, fw⟩ := hd.all (V.str.inj (of_decide_eq_true e))
      have line := line_ge
      refine ⟨_, rfl, a, _, _, _, rfl, rfl, t1 _ _ hS, atI_nat (j := 1) rfl, z, rfl, ⟨_, t1 _ _ hz⟩, fun D nD => lc_tup (K := K) (a := z) (xs := vs) (fun i H' => Same H1 H' ∧ H' D = some (.lst ((ps.names.take i).map V.str))) ⟨same_upd nD, upd_same⟩ (fun i H' _ r => TS.same r.1 _ _ (t1 _ _ hz)) ?_ ?_⟩
      · rintro i x H2 hx ⟨s2, eD⟩
        obtain ⟨q', nm, v', e', rfl, hq, he, hn, _⟩ := ps_at [] _ _ i x hps hx
        have hi : i < vs.length := (List.getElem?_eq_some_iff.mp hx).1
        refine ⟨rfl, ?_⟩
        unfold tYes
        refine iteT ?_
        refine ⟨_, rfl, q', _, _, _, rfl, rfl, TS.same (s1.trans s2) _ _ hq, atI_nat (j := 0) rfl, _, eD, ?_, same_set s2 nD, ?_⟩
        · rw [List.length_map, List.length_take]
          omega
        · rw [upd_same, take_snoc hn, List.map_append]
          rfl
      · rintro H2 ⟨s2, eD⟩
        have ea : ps.names.take vs.length = ps.names := List.take_of_length_le (by rw [hps.len]; exact Nat.le_refl _)
        rw [ea] at eD
        refine ⟨D, _, rfl, .inl ⟨SqL.of eD, fun nt nnt => ?_⟩⟩
        have s3 := (s1.trans s2).trans (same_upd (o := .tup (ps.names.map V.str)) nnt)
        have eN : (upd H2 nt (.tup (ps.names.map V.str))) nt = some (.tup (ps.names.map V.str)) := upd_same
        generalize upd H2 nt (.tup (ps.names.map V.str)) = H3 at s3 eN ⊢
        have t3 := TS.same (K := K) s3
        refine ⟨_, rfl, a, _, _, _, rfl, rfl, t3 _ _ hS, atI_nat (j := 1) rfl, z, rfl, ⟨_, t3 _ _ hz⟩, fun D2 nD2 => lc_tup (K := K) (a := z) (xs := vs) (fun i H' => Same H3 H' ∧ ∃ acc, H' D2 = some (.lst acc) ∧ acc.length = i ∧ Subs K H' acc ((ps.subs ps.names).take i)) ⟨same_upd nD2, [], upd_same, rfl, .nil⟩ (fun i H' _ r => TS.same r.1 _ _ (t3 _ _ hz)) ?_ ?_⟩
        · rintro i x H4 hx ⟨s4, acc, eD2, la, sb⟩
          obtain ⟨q', nm, v', e', rfl, hq, he, _, hn⟩ := ps_at ps.names _ _ i x hps hx
          have hi : i < vs.length := (List.getElem?_eq_some_iff.mp hx).1
          refine ⟨rfl, ?_⟩
          unfold tYes
          refine iteT ?_
          have t4 := TS.same (K := K) (s3.trans s4)
          refine ⟨_, rfl, q', _, _, _, rfl, rfl, t4 _ _ hq, atI_nat (j := 1) rfl, _, rfl, by show 2 ≤ sizeLine; decide, fun p np => ?_⟩
          have ne : D2 ≠ p := ne_of_none eD2 np
          have k1 := same_upd (o := .tup [v', .ref nt]) np
          have k2 : Same H3 (upd (upd H4 p (.tup [v', .ref nt])) D2 (.lst (acc ++ [.ref p]))) := same_set (s4.trans k1) nD2
          have k3 : TS K H4 (upd (upd H4 p (.tup [v', .ref nt])) D2 (.lst (acc ++ [.ref p]))) := (TS.new np).trans (TS.set (o := .lst acc) (by rw [upd_ne ne]; exact eD2) (fun _ z => by cases z) (fun _ _ z => by cases z))
          refine ⟨acc, by rw [upd_ne ne]; exact eD2, by omega, k2, _, upd_same, by rw [List.length_append, la]; rfl, ?_⟩
          rw [take_snoc hn]
          refine (sb.keep k3).snoc (b := nt) (SqT.of ?_) (he.keep (t4.trans k3)) (SqT.of (k2 _ _ eN))
          rw [upd_ne ne.symm]
          exact upd_same
        · rintro H4 ⟨s4, acc, eD2, la, sb⟩
          have ea : (ps.subs ps.names).take vs.length = ps.subs ps.names := List.take_of_length_le (by rw [hps.lenS]; exact Nat.le_refl _)
          rw [ea] at sb
          have s5 := s3.trans s4
          have t5 := TS.same (K := K) s5
          refine ⟨_, rfl, a, _, _, _, rfl, rfl, t5 _ _ hS, atI_nat (j := 2) rfl, _, rfl, by show 2 ≤ sizeLine; decide, fun o no => ⟨by show 1 ≤ sizeLine; decide, fun L nL => ?_⟩⟩
          have k1 := same_upd (o := .tup [u, .ref nt]) no
          have k2 := k1.trans (same_upd (o := .lst [.ref o]) nL)
          refine ⟨D2, L, acc, _, rfl, rfl, k2 _ _ eD2, upd_same, by rw [la]; show vs.length + 1 ≤ sizeLine; omega, fun l nl => ?_⟩
          have k3 := k2.trans (same_upd (o := .lst (acc ++ [.ref o])) nl)
          refine q l _ _ (s5.trans k3) ((s5.trans k2).free nl) upd_same ?_
          rw [en]
          refine Subs.app (us := [.ref o]) (.cons (b := nt) (SqT.of ?_) (hb.keep (TS.same (s5.trans k3))) (SqT.of (k3 _ _ (s4 _ _ eN))) .nil) (sb.keep (TS.same k3))
          exact same_upd nl _ _ (same_upd nL _ _ upd_same)
    refine ⟨_, rfl, rfl, _, rfl, ?_⟩
    refine ite2 (fun e => ?_) (fun e4 => ?_)
    · -- by
      obtain ⟨x, z, vs, bs, rfl, hz, hbs, en, fw⟩ := hd.by_ (V.str.inj (of_decide_eq_true e))
      have line := line_ge
      refine ⟨_, rfl, a, _, _, _, rfl, rfl, t1 _ _ hS, atI_nat (j := 2) rfl, z, rfl, ⟨_, t1 _ _ hz⟩, fun D nD => lc_tup (K := K) (a := z) (xs := vs) (fun i H' => Same H1 H' ∧ ∃ acc, H' D = some (.lst acc) ∧ acc.length = i ∧ Subs K H' acc (bs.subs.take i)) ⟨same_upd nD, [], upd_same, rfl, .nil⟩ (fun i H' _ r => TS.same r.1 _ _ (t1 _ _ hz)) ?_ ?_⟩
      · rintro i y H4 hx ⟨s4, acc, eD, la, sb⟩
        obtain ⟨q', c, y', ys, v', e', rfl, hq, hy, he, hn⟩ := bs_at _ _ i y hbs hx
        have hi : i < vs.length := (List.getElem?_eq_some_iff.mp hx).1
        refine ⟨rfl, ?_⟩
        unfold tYes
        refine iteT ?_
        have t4 := TS.same (K := K) (s1.trans s4)
        refine ⟨_, rfl, q', _, _, _, rfl, rfl, t4 _ _ hq, atI_nat (j := 2) rfl, _, rfl, q', _, _, _, rfl, rfl, t4 _ _ hq, atI_nat (j := 1) rfl, by show 2 ≤ sizeLine; decide, fun p np => ?_⟩
        have ne : D ≠ p := ne_of_none eD np
        have k1 := same_upd (o := .tup [v', .ref y']) np
        have k2 : Same H1 (upd (upd H4 p (.tup [v', .ref y'])) D (.lst (acc ++ [.ref p]))) := same_set (s4.trans k1) nD
        have k3 : TS K H4 (upd (upd H4 p (.tup [v', .ref y'])) D (.lst (acc ++ [.ref p]))) := (TS.new np).trans (TS.set (o := .lst acc) (by rw [upd_ne ne]; exact eD) (fun _ z => by cases z) (fun _ _ z => by cases z))
        refine ⟨acc, by rw [upd_ne ne]; exact eD, by omega, k2, _, upd_same, by rw [List.length_append, la]; rfl, ?_⟩
        rw [take_snoc hn]
        refine (sb.keep k3).snoc (b := y') (SqT.of ?_) (he.keep (t4.trans k3)) ((t4.trans k3) _ _ hy)
        rw [upd_ne ne.symm]
        exact upd_same
      · rintro H4 ⟨s4, acc, eD, la, sb⟩
        have ea : bs.subs.take vs.length = bs.subs := List.take_of_length_le (by rw [hbs.lenS]; exact Nat.le_refl _)
        rw [ea, ← en] at sb
        exact q D acc H4 (s1.trans s4) (s1.free nD) eD sb
    refine ⟨by show 0 ≤ sizeLine; decide, fun l nl => ?_⟩
    refine q l [] _ (s1.trans (same_upd nl)) (s1.free nl) upd_same ?_
    rw [hd.no (fun z => e1 (decide_eq_true (congrArg V.str z))) (Bool.eq_false_iff.mpr e2) (fun z => e3 (decide_eq_true (congrArg V.str z))) (fun z => e4 (decide_eq_true (congrArg V.str z)))]
    exact .nil
end
end OwK

set_option Elab.async false
set_option linter.all false
set_option maxRecDepth 100000
set_option maxHeartbeats 8000000
namespace OwK
open PySem PySem.Spec PyProof.Rows L2 Ow OwT
/-- told: a new list of the free names, each once, rising -/
def spFree (K : PySem.W.Frag) : Sp := fun vs H Q _ => ∃ v t, vs = [v] ∧ Tp K H v t ∧ size t ≤ 100000 ∧ (∃ names : List Str, names.length < 64 ∧ ∀ k, Free k t → k ∈ names) ∧
  ∀ l ys H', Same H H' → H l = none → ys.Nodup → sortedS ys = true → (∀ k, k ∈ ys ↔ Free k t) → H' l = some (.lst (ys.map V.str)) → Q (.ref l) H'
/-- what holds between two turns of the while -/
structure Wl (K : PySem.W.Frag) (H0 H : Hp) (t : T) (fo td : Addr) (ks : List Str) (L : List (T × List Str)) : Prop where
  fo : ∃ kvs, H fo = some (.dK kvs) ∧ KD kvs ks
  td : ∃ es, H td = some (.lst es) ∧ Subs K H es L
  eq : ∀ k, Free k t ↔ k ∈ ks ∨ ∃ p ∈ L, Free k p.1 ∧ k ∉ p.2
  few : ∀ p ∈ L, p.2.length + size p.1 ≤ 100000
  sm : Same H0 H
  sz : sizes L ≤ 100000
theorem flat_strs : ∀ xs : List Str, (xs.map V.str).all flatV = true
  | [] => rfl
  | x :: r => by
    rw [List.map_cons, List.all_cons, flat_strs r]
    rfl
theorem in_strs (k : Str) : ∀ xs : List Str, inV (.str k) (xs.map V.str) = decide (k ∈ xs)
  | [] => rfl
  | x :: r => by
    have ih := in_strs k r
    unfold inV at ih ⊢
    rw [List.map_cons, List.any_cons, ih]
    show ((x == k) || decide (k ∈ r)) = _
    by_cases e : x = k
    · subst e
      simp
    · have : (x == k) = false := by simpa using e
      rw [this, Bool.false_or]
      have e2 : ¬ k = x := fun z => e z.symm
      exact decide_eq_decide.mpr (by rw [List.mem_cons]; exact ⟨.inr, fun z => z.resolve_left e2⟩)
section
variable {P : Program} {w : World} {K : PySem.W.Frag} {mg : Str → Option Value} {base : Heap}
theorem ok_free {f fN fW : Addr} {fd fdN fdW : FuncData} (F : Fun K "free_names" "free_names" sFree f fd)
    (FN : Fun K "named" "named" sNamed fN fdN) (gN : mg "named" = some (.ref fN)) (bN : Binds K fdN ["term"] []) (FW : Fun K "within" "within" sWithin fW fdW) (gW : mg "within" = some (.ref fW)) (bW : Binds K fdW ["term"] [])
    (mTup : mg "tuple" = none) (mSorted : mg "sorted" = none) : FnOk P w K mg base CX0 2 f fd ["term"] (spFree K) := by
  have GN : FnOk P w K mg base CX0 1 fN fdN ["term"] (spNamed K) := ok_named FN
  have GW : FnOk P w K mg base CX0 1 fW fdW ["term"] (spWithin K) := ok_within FW mTup
  refine F.ok scFree (fun vs H Q E h => ?_) (fun cdv A outer s H vs Q E hr h => ?_)
  · obtain ⟨v, t, rfl, _⟩ := h
    rfl
  · obtain ⟨v, t, rfl, hT, few, ⟨names, n64, hn⟩, q⟩ := h
    have hu := hu_of hr
    refine ⟨_, pss_cons (ps_set (i := 1) scFree.nd rfl (.inl rfl) pe_dnewK)
      (pss_cons (ps_set (i := 2) scFree.nd rfl (.inl rfl) (pe_lst (pa_cons (pe_tup (pa_cons (pv 0) (pa_cons (pe_tup pa_nil) pa_nil))) pa_nil)))
      (pss_cons (ps_while PassesOwn.never (pt_truth (pv 2) (by intro _; rfl))
        (pss_cons (ps_asg (pe_bm0 PySem.F.plainAttrs_list PySem.F.slot_list_pop PySem.F.type_list_pop mt_pop (pv 2)) (pg_tup rfl (pgs_cons (pg_name (i := 3) scFree.nd rfl (.inl rfl)) (pgs_cons (pg_name (i := 4) scFree.nd rfl (.inl rfl)) pgs_nil))))
        (pss_cons (ps_for PassesOwn.never rfl (pi_tup (pe_call GN hr (by rfl) gN FN.kp bN .nil pass0 (pa_cons (pv 3) pa_nil))) (pg_name (i := 5) scFree.nd rfl (.inl rfl))
          (pss_one (ps_if (pt_cmpR op_notIn_seq (pv 5) (pv 4) rfl) (pss_one (ps_dput hu (pv 1) (pv 5) pe_bl rfl)) pss_nil)))
        (pss_one (ps_for PassesOwn.never rfl (pi_list (pe_call GW hr (by rfl) gW FW.kp bW .nil pass0 (pa_cons (pv 3) pa_nil))) (pg_tup rfl (pgs_cons (pg_name (i := 6) scFree.nd rfl (.inl rfl)) (pgs_cons (pg_name (i := 7) scFree.nd rfl (.inl rfl)) pgs_nil)))
          (pss_one (ps_expr (pe_bm PySem.F.plainAttrs_list PySem.F.slot_list_append PySem.F.type_list_append mt_append (pv 2) (pa_cons (pe_tup (pa_cons (pv 6) (pa_cons (pe_op op_catA (pv 4) (pv 7)) pa_nil))) pa_nil)))))))))
      (pss_one (ps_ret (pe_callB (call_sortedD rfl) (by rfl) mSorted (by decide +kernel) (pa_cons (pv 1) pa_nil)))))), ?_⟩
    intro fo nfo
    refine ⟨_, rfl, by show 0 ≤ sizeLine; decide, fun e0 ne0 => ⟨by show 2 ≤ sizeLine; decide, fun p0 np0 => ⟨by show 1 ≤ sizeLine; decide, fun td ntd => ?_⟩⟩⟩
    have s1 : Same H (upd H fo (.dK [])) := same_upd nfo
    have s2 := s1.trans (same_upd (o := .tup []) ne0)
    have s3 := s2.trans (same_upd (o := .tup [v, .ref e0]) np0)
    have s4 := s3.trans (same_upd (o := .lst [.ref p0]) ntd)
    have ntd0 : H td = none := s3.free ntd
    have k1 := same_upd (o := .tup []) ne0
    have k2 := same_upd (o := .tup [v, .ref e0]) np0
    have k3 := same_upd (o := .lst [.ref p0]) ntd
    have nft : fo ≠ td := ne_of_none (k2 _ _ (k1 _ _ upd_same)) ntd
    refine ⟨fun m σ H' => ∃ ks L v3 v4 v5 v6 v7, σ = [some v, some (.ref fo), some (.ref td), v3, v4, v5, v6, v7] ∧ Wl K H H' t fo td ks L ∧ m = sizes L, ⟨_, [], [(t, [])], none, none, none, none, none, rfl, ⟨⟨[], ?_, rfl, List.nodup_nil⟩, ⟨[.ref p0], upd_same, .cons (b := e0) (SqT.of (k3 _ _ upd_same)) (hT.keep (TS.same s4)) (SqT.of (k3 _ _ (k2 _ _ upd_same))) .nil⟩, fun k => by simp, fun p hp => by cases List.mem_singleton.mp hp; show 0 + size t ≤ 100000; omega, s4, by rw [sizes_cons, sizes_nil]; show size t + 0 ≤ 100000; omega⟩, rfl⟩, ?_⟩
    · exact k3 _ _ (k2 _ _ (k1 _ _ upd_same))
    rintro m σ H1 ⟨ks, L, v3, v4, v5, v6, v7, rfl, W, rfl⟩
    obtain ⟨⟨kvs, eF, kd⟩, ⟨es, eT, sb⟩, eq, fw, sm, szL⟩ := W
    refine ⟨_, rfl, _, .inl ⟨es, SqL.of eT, rfl⟩, ?_⟩
    cases hes : es with
    | nil =>
      subst hes
      refine iteF ?_
      cases sb
      have kf : ks.length ≤ names.length := nodup_sub ks names kd.2 fun k hk => hn k ((eq k).mpr (.inl hk))
      refine ⟨_, rfl, fo, kvs, ks, rfl, Rd.of eF, kd.1, by omega, fun ys p pm so np => ?_⟩
      refine q p ys _ (sm.trans (same_upd np)) (sm.free np) (pm.nodup_iff.mpr kd.2) so (fun k => ?_) upd_same
      rw [pm.mem_iff, eq k]
      simp
    | cons e1 es1 =>
      rw [← hes]
      have hne : (!es.isEmpty) = true := by rw [hes]; rfl
      rw [hne]
      refine iteT ?_
      obtain ⟨es', L', pq, pb, pvv, pt, pns, rfl, rfl, sb', hq, hv, hb⟩ := subs_last sb (by rw [hes]; simp)
      refine ⟨fun σ' H' => ∃ ks2 L2 v3 v4 v5 v6 v7, σ' = [some v, some (.ref fo), some (.ref td), v3, v4, v5, v6, v7] ∧ Wl K H H' t fo td ks2 L2 ∧ sizes L2 < sizes (L' ++ [(pt, pns)]), fun σ' H' ⟨ks2, L2, a3, a4, a5, a6, a7, b1, b2, b3⟩ => ⟨_, b3, ks2, L2, a3, a4, a5, a6, a7, b1, b2, rfl⟩, ?_⟩
      refine ⟨_, rfl, .inl ⟨rfl, _, .inl (.inl eT)⟩, td, _, _, rfl, rfl, eT, (last_at es' (.ref pq)).1, ?_⟩
      rw [(last_at es' (.ref pq)).2]
      have t2 : TS K H1 (upd H1 td (.lst es')) := TS.set eT (fun _ z => by cases z) (fun _ _ z => by cases z)
      have nft2 : fo ≠ td := nft
      have eF2 : (upd H1 td (.lst es')) fo = some (.dK kvs) := by rw [upd_ne nft2]; exact eF
      have sm2 : Same H (upd H1 td (.lst es')) := same_set sm ntd0
      have eT2 : (upd H1 td (.lst es')) td = some (.lst es') := upd_same
      generalize upd H1 td (.lst es') = H2 at t2 eF2 sm2 eT2 ⊢
      have sb2 := sb'.keep t2
      have hq2 := t2 _ _ hq
      have hv2 := hv.keep t2
      have hb2 := t2 _ _ hb
      have fp := fw (pt, pns) (List.mem_append_right _ (List.mem_singleton.mpr rfl))
      have szp := size_pos pt
      dsimp only at fp
      refine ⟨pq, _, rfl, hq2, rfl, _, _, rfl, _, _, rfl, rfl, ?_⟩
      -- for name in named(part)
      have isFree : ∀ k, Free k pt → k ∉ pns → k ∈ names := fun k h1 h2 => hn k ((eq k).mpr (.inr ⟨_, List.mem_append_right _ (List.mem_singleton.mpr rfl), h1, h2⟩))
      have line := line_ge
      refine ⟨_, rfl, pvv, pt, rfl, hv2, fun nq H3 s3 hnq => ⟨nq, rfl, ⟨_, hnq⟩, for_tup (K := K) (a := nq) (xs := (nmd pt).map V.str) (fun i σ' H' => ∃ kvs2 ks2 v5, σ' = [some v, some (.ref fo), some (.ref td), some pvv, some (.ref pb), v5, v6, v7] ∧ H' fo = some (.dK kvs2) ∧ KD kvs2 ks2 ∧ (∀ k, k ∈ ks2 ↔ k ∈ ks ∨ (k ∈ (nmd pt).take i ∧ k ∉ pns)) ∧ H' td = some (.lst es') ∧ TS K H3 H' ∧ Same H H')
        ⟨kvs, ks, _, rfl, s3 _ _ eF2, kd, fun k => by simp, s3 _ _ eT2, TS.refl, sm2.trans s3⟩ (fun i σ' H' _ ⟨_, _, _, _, _, _, _, _, t, _⟩ => t _ _ hnq) ?_ ?_⟩⟩
      · rintro i x σ' H4 hx ⟨kvs2, ks2, v5, rfl, eF4, kd4, hk4, eT4, t4, sm4⟩
        obtain ⟨nm, hnm, rfl⟩ : ∃ nm, (nmd pt)[i]? = some nm ∧ x = V.str nm := by
          rw [List.getElem?_map] at hx
          cases e : (nmd pt)[i]? with
          | none =>
            rw [e] at hx
            cases hx
          | some nm =>
            rw [e] at hx
            exact ⟨nm, rfl, (Option.some.inj hx).symm⟩
        have hb4 : SqT K H4 pb (pns.map V.str) := t4 _ _ (TS.same s3 _ _ hb2)
        refine ⟨_, rfl, _, rfl, pb, _, rfl, .inr hb4, rfl, flat_strs _, _, rfl, ?_⟩
        have tk : (nmd pt).take (i + 1) = (nmd pt).take i ++ [nm] := take_snoc hnm
        refine ite2 (fun e => ?_) (fun e => ?_)
        · have e' : (!inV (.str nm) (pns.map V.str)) = true := e
          rw [in_strs] at e'
          have nin : nm ∉ pns := by simpa using e'
          have kl : kvs2.length < sizeLine := by
            have h1 : kvs2.length = ks2.length := by
              have := congrArg List.length kd4.1
              rwa [List.length_map, List.length_map] at this
            have h2 : ks2.length ≤ names.length := nodup_sub ks2 names kd4.2 fun k hk => by
              rcases (hk4 k).mp hk with h | ⟨h, h'⟩
              · exact hn k ((eq k).mpr (.inl h))
              · exact isFree k ((free_iff k pt).mpr (.inl (List.mem_of_mem_take h))) h'
            omega
          obtain ⟨ks3, kd3, hk3⟩ := kd_put kd4 nm (.bl true)
          refine ⟨_, rfl, _, rfl, fo, _, rfl, DPut.k (k := Sum.inr nm) eF4 kl, _, ks3, _, rfl, upd_same, kd3, fun k => ?_, by rw [upd_ne nft.symm]; exact eT4, t4.trans (TS.set eF4 (fun _ z => by cases z) (fun _ _ z => by cases z)), same_set sm4 nfo⟩
          rw [hk3, hk4, tk, List.mem_append, List.mem_singleton]
          constructor
          · rintro ((h | ⟨h, h'⟩) | rfl)
            · exact .inl h
            · exact .inr ⟨.inl h, h'⟩
            · exact .inr ⟨.inr rfl, nin⟩
          · rintro (h | ⟨h | rfl, h'⟩)
            · exact .inl (.inl h)
            · exact .inl (.inr ⟨h, h'⟩)
            · exact .inr rfl
        · have e' : ¬ (!inV (.str nm) (pns.map V.str)) = true := e
          rw [in_strs] at e'
          have isin : nm ∈ pns := by simpa using e'
          refine ⟨kvs2, ks2, _, rfl, eF4, kd4, fun k => ?_, eT4, t4, sm4⟩
          rw [hk4, tk, List.mem_append, List.mem_singleton]
          constructor
          · rintro (h | ⟨h, h'⟩)
            · exact .inl h
            · exact .inr ⟨.inl h, h'⟩
          · rintro (h | ⟨h | rfl, h'⟩)
            · exact .inl h
            · exact .inr ⟨h, h'⟩
            · exact absurd isin h'
      · rintro σ' H4 ⟨kvs2, ks2, v5, rfl, eF4, kd4, hk4, eT4, t4, sm4⟩
        have en : (nmd pt).take ((nmd pt).map V.str).length = nmd pt := List.take_of_length_le (by rw [List.length_map]; exact Nat.le_refl _)
        rw [en] at hk4
        have t34 : TS K H2 H4 := (TS.same s3).trans t4
        have szs := sizes_app L' [(pt, pns)]
        rw [sizes_cons, sizes_nil] at szs
        dsimp only at szs
        -- for inner, names in within(part)
        refine ⟨_, rfl, pvv, pt, rfl, hv2.keep t34, by omega, fun l ws H5 s5 nl el sbw => ⟨l, rfl, ⟨_, SqL.of el⟩, ?_⟩⟩
        have t5 := t34.trans (TS.same s5)
        refine for_list (K := K) (a := l) (xs := ws) (fun j σ' H' => ∃ es2 v6 v7, σ' = [some v, some (.ref fo), some (.ref td), some pvv, some (.ref pb), v5, v6, v7] ∧ H' td = some (.lst es2) ∧ Subs K H' es2 (L' ++ ((wn pt).take j).map fun p => (p.1, pns ++ p.2)) ∧ H' fo = some (.dK kvs2) ∧ TS K H5 H' ∧ Same H H' ∧ H' l = some (.lst ws))
          ⟨es', v6, v7, rfl, s5 _ _ eT4, by simpa using sb2.keep t5, s5 _ _ eF4, TS.refl, sm4.trans s5, el⟩ (fun j σ' H' _ ⟨_, _, _, _, _, _, _, _, _, h⟩ => SqL.of h) ?_ ?_
        · rintro j x σ' H6 hx ⟨es2, a6, a7, rfl, eT6, sb6, eF6, t6, sm6, el6⟩
          obtain ⟨q', b', v', t', ns', rfl, hq', hv', hb', hw⟩ := subs_at _ _ j x sbw hx
          have hj : j < ws.length := (List.getElem?_eq_some_iff.mp hx).1
          have hwm : (t', ns') ∈ wn pt := List.mem_of_getElem? hw
          have each := each_wn pt _ hwm
          dsimp only at each
          refine ⟨q', _, rfl, t6 _ _ hq', rfl, _, _, rfl, _, _, rfl, rfl, ?_⟩
          refine ⟨_, rfl, .inl ⟨rfl, _, .inl (.inl eT6)⟩, _, rfl, _, rfl, _, rfl, ?_⟩
          refine catA_read (t6 _ _ (t5 _ _ hb2)) (t6 _ _ hb') (by rw [List.length_map, List.length_map]; omega) fun c H7 s7 hc => ?_
          refine ⟨by show 2 ≤ sizeLine; decide, fun p np => ?_⟩
          have s8 := s7.trans (same_upd (o := .tup [v', .ref c]) np)
          have tnl : td ≠ l := ne_of_none eT4 nl
          have fnl : fo ≠ l := ne_of_none eF4 nl
          have eT8 := s8 _ _ eT6
          have t9 : TS K H6 (upd (upd H7 p (.tup [v', .ref c])) td (.lst (es2 ++ [.ref p]))) := (TS.same s8).trans (TS.set eT8 (fun _ z => by cases z) (fun _ _ z => by cases z))
          have pnt : p ≠ td := (ne_of_none (s7 _ _ eT6) np).symm
          refine ⟨td, es2, _, rfl, rfl, eT8, ?_, _, _, _, rfl, upd_same, ?_, ?_, t6.trans t9, same_set (sm6.trans s8) ntd0, ?_⟩
          · have h1 := sb6.len
            have h2 := len_sizes L'
            have h3 := len_sizes (wn pt)
            have h4 := sizes_wn pt
            rw [List.length_append, List.length_map, List.length_take] at h1
            omega
          · rw [take_snoc hw, List.map_append, ← List.append_assoc]
            refine (sb6.keep t9).snoc (b := c) (SqT.of ?_) (hv'.keep (t6.trans t9)) ?_
            · rw [upd_ne pnt]
              exact upd_same
            · rw [List.map_append]
              exact (TS.new (K := K) (o := .tup [v', .ref c]) np |>.trans (TS.set eT8 (fun _ z => by cases z) (fun _ _ z => by cases z))) _ _ hc
          · rw [upd_ne nft]
            exact s8 _ _ eF6
          · rw [upd_ne tnl.symm]
            exact s8 _ _ el6
        · rintro σ' H6 ⟨es2, a6, a7, rfl, eT6, sb6, eF6, t6, sm6, el6⟩
          have ew : (wn pt).take ws.length = wn pt := List.take_of_length_le (by rw [sbw.len]; exact Nat.le_refl _)
          rw [ew] at sb6
          have szw := sizes_wn pt
          have szm := sizes_app L' ((wn pt).map fun p => (p.1, pns ++ p.2))
          rw [sizes_map] at szm
          refine ⟨ks2, _, _, _, _, _, _, rfl, ⟨⟨kvs2, eF6, kd4⟩, ⟨es2, eT6, sb6⟩, fun k => ?_, fun p hp => ?_, sm6, by omega⟩, by omega⟩
          · rw [eq k, hk4 k]
            constructor
            · rintro (h | ⟨p, hp, h1, h2⟩)
              · exact .inl (.inl h)
              · rcases List.mem_append.mp hp with hp | hp
                · exact .inr ⟨p, List.mem_append_left _ hp, h1, h2⟩
                · cases List.mem_singleton.mp hp
                  rcases (free_iff k pt).mp h1 with h | ⟨p, hp, h3, h4⟩
                  · exact .inl (.inr ⟨h, h2⟩)
                  · exact .inr ⟨_, List.mem_append_right _ (List.mem_map.mpr ⟨p, hp, rfl⟩), h3, fun z => (List.mem_append.mp z).elim h2 h4⟩
            · rintro ((h | ⟨h, h2⟩) | ⟨p, hp, h1, h2⟩)
              · exact .inl h
              · exact .inr ⟨_, List.mem_append_right _ (List.mem_singleton.mpr rfl), (free_iff k pt).mpr (.inl h), h2⟩
              · rcases List.mem_append.mp hp with hp | hp
                · exact .inr ⟨p, List.mem_append_left _ hp, h1, h2⟩
                · obtain ⟨r, hr, rfl⟩ := List.mem_map.mp hp
                  exact .inr ⟨_, List.mem_append_right _ (List.mem_singleton.mpr rfl), (free_iff k pt).mpr (.inr ⟨r, hr, h1, fun z => h2 (List.mem_append_right _ z)⟩), fun z => h2 (List.mem_append_left _ z)⟩
          · rcases List.mem_append.mp hp with hp | hp
            · exact fw p (List.mem_append_left _ hp)
            · obtain ⟨r, hr, rfl⟩ := List.mem_map.mp hp
              have := each_wn pt r hr
              dsimp only
              rw [List.length_append]
              omega
end
end OwK

set_option Elab.async false
set_option linter.all false
set_option maxRecDepth 100000
set_option maxHeartbeats 8000000
namespace OwK
open PySem PySem.Spec PyProof.Rows L2 Ow OwT
/-- one sign * n -/
theorem op_mul_sign {X : Cx} : OpR X (binaryOp .Mult) (fun x y H Q => ∃ (c : Nat) (n : Int), x = .str ⟨#[c]⟩ ∧ y = .int n ∧ 0 ≤ n ∧ n ≤ 1000 ∧ ∀ z : Str, z.length = n.toNat → (∀ d ∈ z.cps.toList, d = c) → Q (.str z) H) := by
  intro pins s σ H x y v u Q I rx ry h
  obtain ⟨c, n, rfl, rfl, h0, h1, q⟩ := h
  obtain ⟨t, rfl⟩ := rx
  obtain ⟨t', rfl⟩ := ry
  have l1 : (⟨#[c]⟩ : Str).length = 1 := rfl
  have line := line_ge
  refine PySem.P.mul_str ?_ (fun h2 _ => ?_) (fun _ _ => ?_) ?_
  · rw [decide_eq_false (by omega), decide_eq_false (by omega)]
    rfl
  · rw [l1]
    intro z
    have h3 : (1 : Int) ≤ (2 ^ 63 - 1) / n := by
      rw [Int.le_ediv_iff_mul_le (by omega)]
      have : ((2 : Int) ^ 63 - 1) = 9223372036854775807 := by decide
      omega
    have h4 : (((1 : Nat) : Int)) = 1 := rfl
    omega
  · refine decide_eq_false ?_
    rw [l1]
    show ¬ (1 * n.toNat > sizeLine)
    omega
  · by_cases hn : n < 1
    · rw [if_pos hn]
      have e0 : n = 0 := by omega
      subst e0
      exact ⟨by decide, .str Str.empty, H, I.tok _, ⟨_, rfl⟩, q Str.empty rfl fun d hd => by cases hd⟩
    · rw [if_neg hn]
      by_cases e : (n == 1 || (⟨#[c]⟩ : Str).length == 0) = true
      · rw [if_pos e]
        have e1 : n = 1 := by simpa [l1] using e
        subst e1
        exact ⟨.str ⟨#[c]⟩, H, I, ⟨_, rfl⟩, q ⟨#[c]⟩ rfl fun d hd => by simpa using hd⟩
      · rw [if_neg e]
        have key : ∀ (k : Nat) (acc : Array Nat), (∀ d ∈ acc.toList, d = c) → ((List.replicate k (#[c] : Array Nat)).foldl (· ++ ·) acc).size = acc.size + k ∧ ∀ d ∈ ((List.replicate k (#[c] : Array Nat)).foldl (· ++ ·) acc).toList, d = c := by
          intro k
          induction k with
          | zero => exact fun acc h => ⟨rfl, h⟩
          | succ k ih =>
            intro acc h
            rw [List.replicate_succ, List.foldl_cons]
            obtain ⟨a, b⟩ := ih (acc ++ #[c]) (fun d hd => by
              rw [Array.toList_append] at hd
              rcases List.mem_append.mp hd with hd | hd
              · exact h d hd
              · simpa using hd)
            refine ⟨?_, b⟩
            rw [a, Array.size_append]
            show acc.size + 1 + k = acc.size + (k + 1)
            omega
        obtain ⟨a, b⟩ := key n.toNat #[] (fun d hd => by cases hd)
        have a' : (⟨(List.replicate n.toNat (#[c] : Array Nat)).foldl (· ++ ·) #[]⟩ : Str).length = n.toNat := by
          show ((List.replicate n.toNat (#[c] : Array Nat)).foldl (· ++ ·) #[]).size = n.toNat
          rw [a]
          show 0 + n.toNat = n.toNat
          omega
        exact ⟨by rw [a']; omega, .str _, H, I.tok _, ⟨_, rfl⟩, q _ a' b⟩
/-- a name of the law's -/
def NOK (x : Str) : Prop := x.length ≤ 8 ∧ Lo x
theorem az_lo {c : Nat} (h : c ∈ az) : c < 128 := by
  have := (mem_az c).mp h
  omega
theorem mem_map_str {x : V} {ns : List Str} (h : x ∈ ns.map V.str) : ∃ y ∈ ns, x = V.str y := by
  obtain ⟨y, hy, e⟩ := List.mem_map.mp h
  exact ⟨y, hy, e.symm⟩
abbrev W12 : List V := [.str "num", .str "name", .str "fun", .str "call", .str "let", .str "now", .str "letall", .str "made", .str "by", .str "sum", .str "minus", .str "less"]
abbrev W2 : List V := [.str "same", .str "yes"]
def words : List Str := ["num", "name", "fun", "call", "let", "now", "letall", "made", "by", "sum", "minus", "less", "same", "yes"]
theorem words_ok : ∀ x ∈ words, NOK x := by
  have h1 : words.all (fun x => decide (x.length ≤ 8) && x.cps.toList.all fun c => decide (c < 128)) = true := by decide +kernel
  intro x hx
  have := List.all_eq_true.mp h1 x hx
  simp only [Bool.and_eq_true, decide_eq_true_eq, List.all_eq_true] at this
  exact this
abbrev sNames : Stmt := topS 8
abbrev NN : List Str := ["feed", "letters", "first", "tail", "found", "words", "k", "turn"]
theorem scNames : FnScope NN ["feed"] (defScope sNames) := ⟨rfl, rfl, rfl, by decide +kernel, rfl, by decide +kernel, by decide +kernel⟩
/-- told: a new list of eight names -/
def spNames : Sp := fun vs H Q _ => ∃ p, vs = [.ref p] ∧ Fd H p ∧ ∀ (l : Addr) (ns : List Str) (H' : Hp), Fr [p] H H' → H l = none → Fd H' p → l ≠ p → ns.length = 8 → (∀ x ∈ ns, NOK x) → H' l = some (.lst (ns.map V.str)) → Q (.ref l) H'
section
variable {P : Program} {w : World} {K : PySem.W.Frag} {mg : Str → Option Value} {base : Heap}
theorem ok_names {f fT fP : Addr} {fd fdT fdP : FuncData} (F : Fun K "_law_names" "_law_names" sNames f fd)
    (GT : FnOk P w K mg base CX0 1 fT fdT ["feed", "many"] spTake) (gT : mg "_law_take" = some (.ref fT)) (kT : PySem.W.keepIn K (.ref fT) = true) (bT : Binds K fdT ["feed", "many"] [])
    (GP : FnOk P w K mg base CX0 2 fP fdP ["feed", "some"] (spPick K)) (gP : mg "_law_pick" = some (.ref fP)) (kP : PySem.W.keepIn K (.ref fP) = true) (bP : Binds K fdP ["feed", "some"] [])
    (mRange : mg "range" = none) : FnOk P w K mg base CX0 3 f fd ["feed"] spNames := by
  refine F.ok scNames (fun vs H Q E h => ?_) (fun cdv A outer s H vs Q E hr h => ?_)
  · obtain ⟨p, rfl, _⟩ := h
    rfl
  · obtain ⟨p, rfl, hp, q⟩ := h
    have hr1 : Room 1 _ := hr.mono (by decide)
    refine ⟨_, pss_cons (ps_set (i := 1) scNames.nd rfl (.inr rfl) pe_str)
      (pss_cons (ps_asg (pe_tup (pa_cons (pe_call GT hr1 (by rfl) gT kT bT .nil pass0 (pa_cons (pv 0) (pa_cons pe_int pa_nil))) (pa_cons (pe_op op_mul_sign (pe_ix ix_str (pv 1) (pe_call GT hr1 (by rfl) gT kT bT .nil pass0 (pa_cons (pv 0) (pa_cons pe_int pa_nil))) (fun _ _ => rfl)) (pe_call GT hr1 (by rfl) gT kT bT .nil pass0 (pa_cons (pv 0) (pa_cons pe_int pa_nil)))) pa_nil)))
          (pg_tup rfl (pgs_cons (pg_name (i := 2) scNames.nd rfl (.inr rfl)) (pgs_cons (pg_name (i := 3) scNames.nd rfl (.inr rfl)) pgs_nil))))
      (pss_cons (ps_setLc (i := 4) (own := [("k", 6)]) (g := gName 6) (tt := tYes) rfl scNames.nd rfl rfl (sw_true rfl rfl rfl (by decide +kernel)) (pi_range1 (by rfl) mRange (pa_cons pe_int pa_nil)) (blkOk_by (N := NN) (sc := defScope sNames) (by decide +kernel))
          (fun _ _ _ _ _ => pg_name (i := 6) scNames.nd rfl (Or.inl rfl)) (fun _ _ _ _ _ => pts_nil) (fun _ _ _ _ _ => pe_op op_add_str (pe_ix ix_str (pv 1) (pe_op op_mod (pe_op op_add (pv 2) (pe_op op_mul pe_int (pv 6))) pe_int) (fun _ _ => rfl)) (pv 3)))
      (pss_cons (ps_set (i := 5) scNames.nd rfl (.inl rfl) (pe_lst (pa_cons pe_str (pa_cons pe_str (pa_cons pe_str (pa_cons pe_str (pa_cons pe_str (pa_cons pe_str (pa_cons pe_str (pa_cons pe_str (pa_cons pe_str (pa_cons pe_str (pa_cons pe_str (pa_cons pe_str pa_nil))))))))))))))
      (pss_cons (ps_set (i := 5) scNames.nd rfl (.inl rfl) (pe_op op_cat (pv 5) (pe_lst (pa_cons pe_str (pa_cons pe_str pa_nil)))))
      (pss_cons (ps_for PassesOwn.never rfl (pi_range1 (by rfl) mRange (pa_cons (pe_call GP hr (by rfl) gP kP bP .nil pass0 (pa_cons (pv 0) (pa_cons (pe_lst (pa_cons pe_int (pa_cons pe_int (pa_cons pe_int (pa_cons pe_int pa_nil))))) pa_nil))) pa_nil)) (pg_name (i := 7) scNames.nd rfl (.inl rfl))
          (pss_one (ps_asg (pe_call GP hr (by rfl) gP kP bP .nil pass0 (pa_cons (pv 0) (pa_cons (pv 5) pa_nil))) (pg_sub (pv 4) (pe_call GT hr1 (by rfl) gT kT bT .nil pass0 (pa_cons (pv 0) (pa_cons pe_int pa_nil))) set_list))))
      (pss_one (ps_ret (pv 4)))))))), ?_⟩
    have hZ : (Str.ofString "abcdefghijklmnopqrstuvwxyz").cps.toList = az := by decide +kernel
    have hZl : (Str.ofString "abcdefghijklmnopqrstuvwxyz").length = 26 := by decide +kernel
    generalize Str.ofString "abcdefghijklmnopqrstuvwxyz" = Z at hZ hZl ⊢
    have line := line_ge
    have azl : az.length = 26 := rfl
    have at_ : ∀ r : Int, 0 ≤ r → r < 26 → ∃ c, c ∈ az ∧ atI Z.cps.toList r = some c := fun r h0 h1 => by
      rw [hZ]
      have h2 : r.toNat < az.length := by rw [azl]; omega
      refine ⟨az[r.toNat], List.getElem_mem h2, ?_⟩
      have := atI_nat (List.getElem?_eq_getElem h2)
      rwa [Int.toNat_of_nonneg h0] at this
    refine ⟨_, rfl, p, _, rfl, hp, by decide, by decide, fun fi H1 f0 f1 fd1 b1 => ?_⟩
    refine ⟨_, rfl, _, rfl, p, _, rfl, fd1, by decide, by decide, fun r2 H2 a0 a1 fd2 b2 => ?_⟩
    obtain ⟨c2, hc2, ec2⟩ := at_ r2 a0 a1
    refine ⟨Z, r2, c2, rfl, rfl, by omega, ec2, ?_⟩
    refine ⟨_, rfl, p, _, rfl, fd2, by decide, by decide, fun n3 H3 m0 m1 fd3 b3 => ?_⟩
    refine ⟨c2, n3, rfl, rfl, m0, by omega, fun tl ltl htl => ?_⟩
    have r3 : Fr [p] H H3 := (Fr.but b1 (by simp)).trans ((Fr.but b2 (by simp)).trans (Fr.but b3 (by simp)))
    have tlo : Lo tl := fun d hd => by
      rw [htl d hd]
      exact az_lo hc2
    refine ⟨by show 2 ≤ sizeLine; decide, fun tt ntt => ⟨tt, _, rfl, SqT.of upd_same, rfl, _, _, rfl, _, _, rfl, rfl, ?_⟩⟩
    have np : p ≠ tt := by
      obtain ⟨xs, e⟩ := Fd.lst fd3
      exact ne_of_none e ntt
    have fd4 : Fd (upd H3 tt (.tup [.int fi, .str tl])) p := (Fr.new (S := []) ntt).fd fd3 (by simp)
    have r4 : Fr [p] H (upd H3 tt (.tup [.int fi, .str tl])) := r3.trans (Fr.new ntt)
    generalize upd H3 tt (.tup [.int fi, .str tl]) = H4 at fd4 r4 ⊢
    -- found
    refine ⟨8, rfl, by decide, by decide, fun D nD => lc_range (lo := 0) (n := 8) (fun j H' => ∃ ns : List Str, ns.length = j ∧ (∀ x ∈ ns, NOK x) ∧ Same H4 H' ∧ H' D = some (.lst (ns.map V.str))) ⟨[], rfl, (fun x hx => by cases hx), same_upd nD, upd_same⟩ ?_ ?_⟩
    · rintro j H5 hj ⟨ns, ln, hns, s5, eD⟩
      refine ⟨rfl, ?_⟩
      unfold tYes
      refine iteT ?_
      obtain ⟨c5, hc5, ec5⟩ := at_ ((fi + 5 * (0 + (j : Int))) % 26) (Int.emod_nonneg _ (by decide)) (Int.emod_lt_of_pos _ (by decide))
      refine ⟨_, rfl, _, rfl, _, rfl, _, _, rfl, rfl, .inl (by decide), _, _, rfl, rfl, _, _, rfl, rfl, by show (0 : Int) < 26; decide, Z, _, c5, rfl, rfl, by omega, ec5, _, rfl, _, _, rfl, rfl, ?_, _, eD, ?_, ns ++ [(⟨#[c5]⟩ : Str) ++ tl], ?_, ?_, same_set s5 nD, ?_⟩
      · have : (⟨#[c5]⟩ : Str).length = 1 := rfl
        omega
      · rw [List.length_map]
        omega
      · rw [List.length_append, ln]
        rfl
      · intro x hx
        rcases List.mem_append.mp hx with h | h
        · exact hns x h
        · rw [List.mem_singleton.mp h]
          refine ⟨?_, Lo.app (fun d hd => ?_) tlo⟩
          · rw [app_len, ltl]
            have : (⟨#[c5]⟩ : Str).length = 1 := rfl
            omega
          · have e1 : d = c5 := by simpa using hd
            rw [e1]
            exact az_lo hc5
      · rw [upd_same, List.map_append]
        rfl
    · rintro H5 ⟨ns, ln, hns, s5, eD⟩
      have pD : p ≠ D := by
        obtain ⟨xs, e⟩ := Fd.lst fd4
        exact ne_of_none e nD
      have fd5 := (Fr.same (S := []) s5).fd fd4 (by simp)
      have r5 := r4.trans (Fr.same s5)
      have D0 : H D = none := r4.free nD (by simpa using fun z => pD z.symm)
      refine ⟨by show 12 ≤ sizeLine; decide, fun wl nwl => ?_⟩
      refine ⟨_, rfl, by show 2 ≤ sizeLine; decide, fun w2 nw2 => ?_⟩
      have nw : wl ≠ w2 := ne_of_none upd_same nw2
      refine ⟨wl, w2, _, _, rfl, rfl, by rw [upd_ne nw]; exact upd_same, upd_same, by show 14 ≤ sizeLine; decide, fun w3 nw3 => ?_⟩
      have s6 := ((same_upd (o := .lst W12) nwl).trans (same_upd (o := .lst W2) nw2)).trans (same_upd (o := .lst (W12 ++ W2)) nw3)
      have ew : (upd (upd (upd H5 wl (.lst W12)) w2 (.lst W2)) w3 (.lst (W12 ++ W2))) w3 = some (.lst (words.map V.str)) := upd_same
      generalize (upd (upd (upd H5 wl (.lst W12)) w2 (.lst W2)) w3 (.lst (W12 ++ W2))) = H6 at s6 ew ⊢
      have fd6 := (Fr.same (S := []) s6).fd fd5 (by simp)
      have r6 := r5.trans (Fr.same s6)
      have eD6 := s6 _ _ eD
      have w3p : w3 ≠ p := by
        intro z
        rw [z] at ew
        obtain ⟨d, st, e, _⟩ := fd6
        rw [ew] at e
        cases e
      refine ⟨_, rfl, by show 4 ≤ sizeLine; decide, fun ql nql => .inr ⟨p, ql, _, rfl, ?_, .inl (SqL.of upd_same), ?_, by decide, by decide, fun x H7 hx fd7 b7 => ?_⟩⟩
      · obtain ⟨xs, e⟩ := Fd.lst fd6
        exact ne_of_none e nql
      · exact (Fr.new (S := []) nql).fd fd6 (by simp)
      obtain ⟨j, rfl, j0, j4⟩ : ∃ j : Int, x = .int j ∧ 0 ≤ j ∧ j ≤ 4 := by
        simp only [List.mem_cons, List.not_mem_nil, or_false] at hx
        rcases hx with rfl | rfl | rfl | rfl
        all_goals exact ⟨_, rfl, by decide, by decide⟩
      have r7 : Fr [p] H6 H7 := (Fr.new (S := [p]) nql).trans (Fr.but b7 (by simp))
      refine ⟨j, rfl, by omega, by omega, for_range (lo := 0) (n := j.toNat) (fun i σ H' => ∃ (ns : List Str) (v7 : Option V), ns.length = 8 ∧ (∀ x ∈ ns, NOK x) ∧ σ = [some (.ref p), some (.str Z), some (.int fi), some (.str tl), some (.ref D), some (.ref w3), none, v7] ∧ H' D = some (.lst (ns.map V.str)) ∧ H' w3 = some (.lst (words.map V.str)) ∧ Fd H' p ∧ Fr [p] H H')
        ⟨ns, _, ln, hns, rfl, r7 _ _ (by simpa using fun z => pD z.symm) eD6, r7 _ _ (by simpa using w3p) ew, fd7, r6.trans r7⟩ ?_ ?_⟩
      · rintro i σ H8 hi ⟨ns, v7, ln, hns, rfl, eD8, ew8, fd8, r8⟩
        refine ⟨_, rfl, _, rfl, .inr ⟨p, w3, _, rfl, w3p.symm, .inl (SqL.of ew8), fd8, by decide, by decide, fun x H9 hx fd9 b9 => ?_⟩⟩
        obtain ⟨y, hy, rfl⟩ := mem_map_str hx
        refine ⟨_, rfl, _, rfl, p, _, rfl, fd9, by decide, by decide, fun r H10 r0 r1 fd10 b10 => ?_⟩
        have eD10 : H10 D = some (.lst (ns.map V.str)) := by rw [b10 D pD.symm, b9 D pD.symm]; exact eD8
        have ew10 : H10 w3 = some (.lst (words.map V.str)) := by rw [b10 w3 w3p, b9 w3 w3p]; exact ew8
        have nDw : D ≠ w3 := by
          intro z
          rw [z, ew10] at eD10
          have e1 := congrArg List.length (HO.lst.inj (Option.some.inj eD10))
          rw [List.length_map, List.length_map, ln] at e1
          exact absurd e1 (by decide)
        refine ⟨D, _, r, r.toNat, rfl, rfl, eD10, ?_, ns.set r.toNat y, _, by rw [List.length_set, ln], fun z hz => ?_, rfl, by rw [upd_same, List.map_set], by rw [upd_ne nDw.symm]; exact ew10, ?_, ?_⟩
        · unfold ixN
          rw [List.length_map, ln, if_pos r0, if_pos (by omega)]
        · rcases List.mem_or_eq_of_mem_set hz with h | h
          · exact hns z h
          · rw [h]
            exact words_ok y hy
        · exact (Fr.set (S := [D]) (List.mem_singleton.mpr rfl)).fd fd10 (by simpa using pD)
        · exact (r8.trans ((Fr.but b9 (by simp)).trans (Fr.but b10 (by simp)))).late D0
      · rintro σ H8 ⟨ns, v7, ln, hns, rfl, eD8, ew8, fd8, r8⟩
        exact ⟨_, rfl, q D ns H8 r8 D0 fd8 pD.symm ln hns eD8⟩
end
end OwK

set_option Elab.async false
set_option linter.all false
set_option maxRecDepth 100000
set_option maxHeartbeats 8000000
namespace OwK
open PySem PySem.Spec PyProof.Rows L2 Ow OwT
abbrev sFew : Stmt := topS 9
abbrev sMade : Stmt := topS 10
abbrev sLeaf : Stmt := topS 11
theorem scFew : FnScope ["feed", "names", "most", "found", "turn", "name"] ["feed", "names", "most"] (defScope sFew) := ⟨rfl, rfl, rfl, by decide +kernel, rfl, by decide +kernel, by decide +kernel⟩
theorem scMade : FnScope ["feed", "names", "parts", "turn"] ["feed", "names"] (defScope sMade) := ⟨rfl, rfl, rfl, by decide +kernel, rfl, by decide +kernel, by decide +kernel⟩
theorem scLeaf : FnScope ["feed", "names", "way", "word"] ["feed", "names"] (defScope sLeaf) := ⟨rfl, rfl, rfl, by decide +kernel, rfl, by decide +kernel, by decide +kernel⟩
/-- the number source at p and the list of names at nl -/
structure Src (H : Hp) (p nl : Addr) (ns : List Str) : Prop where
  fd : Fd H p
  nl : H nl = some (.lst (ns.map V.str))
  pos : 0 < ns.length
  few : ns.length ≤ 8
  ok : ∀ x ∈ ns, NOK x
theorem Src.ne {H : Hp} {p nl : Addr} {ns : List Str} (s : Src H p nl ns) : nl ≠ p := fun z => by
  obtain ⟨d, st, e, _⟩ := s.fd
  have e2 := s.nl
  rw [z, e] at e2
  have h := s.pos
  cases ns with
  | nil => cases h
  | cons x r => cases e2
theorem Src.fr {H H' : Hp} {p nl : Addr} {ns : List Str} (s : Src H p nl ns) {S : List Addr} (f : Fr S H H') (h : Fd H' p) (n : nl ∉ S) : Src H' p nl ns := ⟨h, f _ _ n s.nl, s.pos, s.few, s.ok⟩
theorem Src.fr1 {H H' : Hp} {p nl : Addr} {ns : List Str} (s : Src H p nl ns) (f : Fr [p] H H') (h : Fd H' p) : Src H' p nl ns := s.fr f h (by simpa using s.ne)
theorem Src.l0 {H : Hp} {p nl : Addr} {ns : List Str} (s : Src H p nl ns) : 0 < (ns.map V.str).length := by
  rw [List.length_map]
  exact s.pos
theorem Src.l1 {H : Hp} {p nl : Addr} {ns : List Str} (s : Src H p nl ns) : (ns.map V.str).length < 1000000 := by
  rw [List.length_map]
  exact Nat.lt_of_le_of_lt s.few (by decide)
theorem Src.but {H H' : Hp} {p nl : Addr} {ns : List Str} (s : Src H p nl ns) (b : But p H H') (h : Fd H' p) : Fr [p] H H' ∧ Src H' p nl ns :=
  ⟨Fr.but b (List.mem_singleton.mpr rfl), s.fr1 (Fr.but b (List.mem_singleton.mpr rfl)) h⟩
/-- told: a tuple of names -/
def spFew (K : PySem.W.Frag) : Sp := fun vs H Q _ => ∃ (p nl : Addr) (ns : List Str) (m : Int), vs = [.ref p, .ref nl, .int m] ∧ Src H p nl ns ∧ 0 ≤ m ∧ m ≤ 6 ∧
  ∀ (q : Addr) (ys : List Str) (H' : Hp), Fr [p] H H' → Src H' p nl ns → SqT K H' q (ys.map V.str) → (ys.length : Int) ≤ m → (∀ y ∈ ys, y ∈ ns) → Q (.ref q) H'
/-- told: a term of one node -/
def spOne (K : PySem.W.Frag) : Sp := fun vs H Q _ => ∃ (p nl : Addr) (ns : List Str), vs = [.ref p, .ref nl] ∧ Src H p nl ns ∧
  ∀ (v : V) (t : T) (H' : Hp), Fr [p] H H' → Src H' p nl ns → Tp K H' v t → Good ns t → nodes t = 1 → deep t = 1 → Q v H'
section
variable {P : Program} {w : World} {K : PySem.W.Frag} {mg : Str → Option Value} {base : Heap}
theorem ok_few {f fT fP : Addr} {fd fdT fdP : FuncData} (F : Fun K "_law_few" "_law_few" sFew f fd)
    (GT : FnOk P w K mg base CX0 1 fT fdT ["feed", "many"] spTake) (gT : mg "_law_take" = some (.ref fT)) (kT : PySem.W.keepIn K (.ref fT) = true) (bT : Binds K fdT ["feed", "many"] [])
    (GP : FnOk P w K mg base CX0 2 fP fdP ["feed", "some"] (spPick K)) (gP : mg "_law_pick" = some (.ref fP)) (kP : PySem.W.keepIn K (.ref fP) = true) (bP : Binds K fdP ["feed", "some"] [])
    (mRange : mg "range" = none) (mTup : mg "tuple" = none) : FnOk P w K mg base CX0 3 f fd ["feed", "names", "most"] (spFew K) := by
  refine F.ok scFew (fun vs H Q E h => ?_) (fun cdv A outer s H vs Q E hr h => ?_)
  · obtain ⟨p, nl, ns, m, rfl, _⟩ := h
    rfl
  · obtain ⟨p, nl, ns, m, rfl, src, m0, m6, q⟩ := h
    have hr1 : Room 1 _ := hr.mono (by decide)
    refine ⟨_, pss_cons (ps_set (i := 3) scFew.nd rfl (.inl rfl) (pe_lst pa_nil))
      (pss_cons (ps_for PassesOwn.never rfl (pi_range1 (by rfl) mRange (pa_cons (pe_call GT hr1 (by rfl) gT kT bT .nil pass0 (pa_cons (pv 0) (pa_cons (pe_op op_add (pv 2) pe_int) pa_nil))) pa_nil)) (pg_name (i := 4) scFew.nd rfl (.inl rfl))
        (pss_cons (ps_set (i := 5) scFew.nd rfl (.inl rfl) (pe_call GP hr (by rfl) gP kP bP .nil pass0 (pa_cons (pv 0) (pa_cons (pv 1) pa_nil))))
        (pss_one (ps_if (pt_cmpR op_notIn_seq (pv 5) (pv 3) rfl) (pss_one (ps_expr (pe_bm PySem.F.plainAttrs_list PySem.F.slot_list_append PySem.F.type_list_append mt_append (pv 3) (pa_cons (pv 5) pa_nil)))) pss_nil))))
      (pss_one (ps_ret (pe_callTy call_tuple_of (by rfl) mTup (by decide +kernel) (pa_cons (pv 3) pa_nil))))), ?_⟩
    have line := line_ge
    refine ⟨by show 0 ≤ sizeLine; decide, fun fo nfo => ?_⟩
    have f1 : Fr [p] H (upd H fo (.lst [])) := Fr.new nfo
    have nfp : fo ≠ p := by
      obtain ⟨xs, e⟩ := Fd.lst src.fd
      exact (ne_of_none e nfo).symm
    have src1 := src.fr1 f1 ((Fr.new (S := []) nfo).fd src.fd (by simp))
    have eF : (upd H fo (.lst [])) fo = some (.lst ([] : List V)) := upd_same
    generalize upd H fo (.lst []) = H1 at f1 src1 eF ⊢
    refine ⟨_, rfl, _, rfl, _, _, rfl, rfl, p, _, rfl, src1.fd, by omega, by omega, fun r H2 r0 r1 fd2 b2 => ?_⟩
    obtain ⟨f2, src2⟩ := src1.but b2 fd2
    refine ⟨r, rfl, by omega, by omega, for_range (lo := 0) (n := r.toNat) (fun i σ H' => ∃ (ys : List Str) (v4 v5 : Option V), ys.length ≤ i ∧ (∀ y ∈ ys, y ∈ ns) ∧ σ = [some (.ref p), some (.ref nl), some (.int m), some (.ref fo), v4, v5] ∧ H' fo = some (.lst (ys.map V.str)) ∧ Src H' p nl ns ∧ Fr [p] H H')
      ⟨[], _, _, Nat.le_refl _, (fun y hy => by cases hy), rfl, f2 _ _ (by simpa using nfp) eF, src2, f1.trans f2⟩ ?_ ?_⟩
    · rintro i σ H3 hi ⟨ys, v4, v5, ly, hy, rfl, eF3, src3, f3⟩
      refine ⟨_, rfl, _, rfl, .inr ⟨p, nl, _, rfl, src3.ne.symm, .inl (SqL.of src3.nl), src3.fd, src3.l0, src3.l1, fun x0 H4 hx0 fdx bx => ?_⟩⟩
      obtain ⟨x, hx, rfl⟩ := mem_map_str hx0
      obtain ⟨f4, src4⟩ := src3.but bx fdx
      have eF4 := f4 _ _ (by simpa using nfp) eF3
      refine ⟨_, rfl, _, rfl, fo, _, rfl, .inl (SqL.of eF4), rfl, flat_strs _, _, rfl, ?_⟩
      refine ite2 (fun _ => ?_) (fun _ => ?_)
      · have f5 : Fr [p] H (upd H4 fo (.lst (ys.map V.str ++ [.str x]))) := (f3.trans f4).late nfo
        refine ⟨_, rfl, .inl ⟨rfl, _, .inl (.inl eF4)⟩, _, rfl, fo, _, _, rfl, rfl, eF4, by rw [List.length_map]; omega, ys ++ [x], _, _, by rw [List.length_append]; show ys.length + 1 ≤ i + 1; omega, fun y h => ?_, rfl, by rw [upd_same, List.map_append]; rfl, ?_, f5⟩
        · rcases List.mem_append.mp h with h | h
          · exact hy y h
          · rw [List.mem_singleton.mp h]
            exact hx
        · have nn : nl ≠ fo := ne_of_none src.nl nfo
          exact src4.fr (S := [fo]) (Fr.set (by simp)) ((Fr.set (S := [fo]) (by simp)).fd src4.fd (by simpa using nfp.symm)) (by simpa using nn)
      · exact ⟨ys, _, _, by omega, hy, rfl, eF4, src4, f3.trans f4⟩
    · rintro σ H3 ⟨ys, v4, v5, ly, hy, rfl, eF3, src3, f3⟩
      refine ⟨_, rfl, fo, _, rfl, .inl ⟨SqL.of eF3, fun o no => ?_⟩⟩
      have s4 := same_upd (o := .tup (ys.map V.str)) no
      exact q o ys _ (f3.trans (Fr.same s4)) (src3.fr1 (Fr.same s4) ((Fr.same (S := []) s4).fd src3.fd (by simp))) (SqT.of upd_same) (by omega) hy
theorem ok_made {f fT fP : Addr} {fd fdT fdP : FuncData} (F : Fun K "_law_made" "_law_made" sMade f fd)
    (GT : FnOk P w K mg base CX0 1 fT fdT ["feed", "many"] spTake) (gT : mg "_law_take" = some (.ref fT)) (kT : PySem.W.keepIn K (.ref fT) = true) (bT : Binds K fdT ["feed", "many"] [])
    (GP : FnOk P w K mg base CX0 2 fP fdP ["feed", "some"] (spPick K)) (gP : mg "_law_pick" = some (.ref fP)) (kP : PySem.W.keepIn K (.ref fP) = true) (bP : Binds K fdP ["feed", "some"] [])
    (mRange : mg "range" = none) (mTup : mg "tuple" = none) : FnOk P w K mg base CX0 3 f fd ["feed", "names"] (spOne K) := by
  refine F.ok scMade (fun vs H Q E h => ?_) (fun cdv A outer s H vs Q E hr h => ?_)
  · obtain ⟨p, nl, ns, rfl, _⟩ := h
    rfl
  · obtain ⟨p, nl, ns, rfl, src, q⟩ := h
    have hr1 : Room 1 _ := hr.mono (by decide)
    refine ⟨_, pss_cons (ps_setLc (i := 2) (own := [("turn", 3)]) (g := gName 3) (tt := tYes) rfl scMade.nd rfl rfl (sw_true rfl rfl rfl (by decide +kernel)) (pi_range1 (by rfl) mRange (pa_cons (pe_call GT hr1 (by rfl) gT kT bT .nil pass0 (pa_cons (pv 0) (pa_cons pe_int pa_nil))) pa_nil)) (blkOk_by (N := ["feed", "names", "parts", "turn"]) (sc := defScope sMade) (by decide +kernel))
          (fun _ _ _ _ _ => pg_name (i := 3) scMade.nd rfl (Or.inl rfl)) (fun _ _ _ _ _ => pts_nil) (fun _ _ _ _ _ => pe_call GP hr (by rfl) gP kP bP .nil pass0 (pa_cons (pv 0) (pa_cons (pv 1) pa_nil))))
      (pss_one (ps_ret (pe_tup (pa_cons pe_str (pa_cons (pe_call GP hr (by rfl) gP kP bP .nil pass0 (pa_cons (pv 0) (pa_cons (pv 1) pa_nil))) (pa_cons (pe_callTy call_tuple_of (by rfl) mTup (by decide +kernel) (pa_cons (pv 2) pa_nil)) pa_nil)))))), ?_⟩
    have line := line_ge
    refine ⟨_, rfl, p, _, rfl, src.fd, by decide, by decide, fun r H1 r0 r1 fd1 b1 => ?_⟩
    obtain ⟨f1, src1⟩ := src.but b1 fd1
    refine ⟨r, rfl, by omega, by omega, fun D nD => lc_range (lo := 0) (n := r.toNat) (fun j H' => ∃ xs : List Str, xs.length = j ∧ (∀ x ∈ xs, x ∈ ns) ∧ Fr [p] H1 H' ∧ Src H' p nl ns ∧ H' D = some (.lst (xs.map V.str))) ?_ ?_ ?_⟩
    · exact ⟨[], rfl, (fun x hx => by cases hx), Fr.new nD, src1.fr1 (Fr.new nD) ((Fr.new (S := []) nD).fd src1.fd (by simp)), upd_same⟩
    · rintro j H2 hj ⟨xs, lx, hx, f2, src2, eD⟩
      have nDp : D ≠ p := by
        obtain ⟨ys, e⟩ := Fd.lst src1.fd
        exact (ne_of_none e nD).symm
      have nn : nl ≠ D := ne_of_none src1.nl nD
      refine ⟨rfl, ?_⟩
      unfold tYes
      refine iteT ?_
      refine ⟨_, rfl, _, rfl, .inr ⟨p, nl, _, rfl, src2.ne.symm, .inl (SqL.of src2.nl), src2.fd, src2.l0, src2.l1, fun x0 H3 hx0 fdx bx => ?_⟩⟩
      obtain ⟨x, h3, rfl⟩ := mem_map_str hx0
      obtain ⟨f3, src3⟩ := src2.but bx fdx
      refine ⟨_, f3 _ _ (by simpa using nDp) eD, by rw [List.length_map]; omega, xs ++ [x], by rw [List.length_append, lx]; rfl, fun y h => ?_, (f2.trans f3).late nD, src3.fr (S := [D]) (Fr.set (by simp)) ((Fr.set (S := [D]) (by simp)).fd src3.fd (by simpa using nDp.symm)) (by simpa using nn), by rw [upd_same, List.map_append]; rfl⟩
      rcases List.mem_append.mp h with h | h
      · exact hx y h
      · rw [List.mem_singleton.mp h]
        exact h3
    · rintro H2 ⟨xs, lx, hx, f2, src2, eD⟩
      have nDp : D ≠ p := by
        obtain ⟨ys, e⟩ := Fd.lst src1.fd
        exact (ne_of_none e nD).symm
      refine ⟨_, rfl, _, rfl, .inr ⟨p, nl, _, rfl, src2.ne.symm, .inl (SqL.of src2.nl), src2.fd, src2.l0, src2.l1, fun x0 H3 hx0 fdx bx => ?_⟩⟩
      obtain ⟨c, hc, rfl⟩ := mem_map_str hx0
      obtain ⟨f3, src3⟩ := src2.but bx fdx
      have eD3 := f3 _ _ (by simpa using nDp) eD
      refine ⟨_, rfl, D, _, rfl, .inl ⟨SqL.of eD3, fun o no => ⟨by show 3 ≤ sizeLine; decide, fun a na => ?_⟩⟩⟩
      have s4 := same_upd (o := .tup (xs.map V.str)) no
      have s5 := same_upd (o := .tup [.str "made", .str c, .ref o]) na
      have f6 : Fr [p] H3 _ := Fr.same (s4.trans s5)
      have e1 : r.toNat = xs.length := lx.symm
      refine q (.ref a) (.mk c xs) _ (f1.trans (f2.trans (f3.trans f6))) (src3.fr1 f6 ((Fr.same (S := []) (s4.trans s5)).fd src3.fd (by simp))) (.mk (SqT.of upd_same) (SqT.of (s5 _ _ upd_same))) ⟨hc, hx, by omega⟩ rfl rfl
theorem ok_leaf {f fT fP fM : Addr} {fd fdT fdP fdM : FuncData} (F : Fun K "_law_leaf" "_law_leaf" sLeaf f fd)
    (GT : FnOk P w K mg base CX0 1 fT fdT ["feed", "many"] spTake) (gT : mg "_law_take" = some (.ref fT)) (kT : PySem.W.keepIn K (.ref fT) = true) (bT : Binds K fdT ["feed", "many"] [])
    (GP : FnOk P w K mg base CX0 2 fP fdP ["feed", "some"] (spPick K)) (gP : mg "_law_pick" = some (.ref fP)) (kP : PySem.W.keepIn K (.ref fP) = true) (bP : Binds K fdP ["feed", "some"] [])
    (GM : FnOk P w K mg base CX0 3 fM fdM ["feed", "names"] (spOne K)) (gM : mg "_law_made" = some (.ref fM)) (kM : PySem.W.keepIn K (.ref fM) = true) (bM : Binds K fdM ["feed", "names"] []) : FnOk P w K mg base CX0 4 f fd ["feed", "names"] (spOne K) := by
  refine F.ok scLeaf (fun vs H Q E h => ?_) (fun cdv A outer s H vs Q E hr h => ?_)
  · obtain ⟨p, nl, ns, rfl, _⟩ := h
    rfl
  · obtain ⟨p, nl, ns, rfl, src, q⟩ := h
    have hr1 : Room 1 _ := hr.mono (by decide)
    have hr2 : Room 2 _ := hr.mono (by decide)
    refine ⟨_, pss_cons (ps_set (i := 2) scLeaf.nd rfl (.inl rfl) (pe_call GT hr1 (by rfl) gT kT bT .nil pass0 (pa_cons (pv 0) (pa_cons pe_int pa_nil))))
      (pss_cons (ps_if (pt_cmpR op_eq (pv 2) pe_int (nomark _)) (pss_one (ps_ret (pe_tup (pa_cons pe_str (pa_cons (pe_call GP hr2 (by rfl) gP kP bP .nil pass0 (pa_cons (pv 0) (pa_cons (pe_lst (pa_cons pe_int (pa_cons pe_int (pa_cons (pe_un un_neg pe_int) (pa_cons (pe_op op_pow pe_int pe_int) (pa_cons (pe_op op_sub pe_int (pe_op op_pow pe_int pe_int))
          (pa_cons (pe_op op_sub (pe_call GT hr1 (by rfl) gT kT bT .nil pass0 (pa_cons (pv 0) (pa_cons pe_int pa_nil))) pe_int) pa_nil))))))) pa_nil))) pa_nil))))) pss_nil)
      (pss_cons (ps_if (pt_cmpR op_eq (pv 2) pe_int (nomark _)) (pss_one (ps_ret (pe_call GM hr (by rfl) gM kM bM .nil pass0 (pa_cons (pv 0) (pa_cons (pv 1) pa_nil))))) pss_nil)
      (pss_cons (ps_if (pt_cmpR op_eq (pv 2) pe_int (nomark _)) (pss_one (ps_ret (pe_tup (pa_cons pe_str (pa_cons (pe_call GP hr2 (by rfl) gP kP bP .nil pass0 (pa_cons (pv 0) (pa_cons (pv 1) pa_nil))) pa_nil))))) pss_nil)
      (pss_cons (ps_set (i := 3) scLeaf.nd rfl (.inl rfl) (pe_call GP hr2 (by rfl) gP kP bP .nil pass0 (pa_cons (pv 0) (pa_cons (pe_lst (pa_cons pe_str (pa_cons pe_str (pa_cons pe_str (pa_cons pe_str (pa_cons pe_str (pa_cons pe_str pa_nil))))))) pa_nil))))
      (pss_one (ps_ret (pe_tup (pa_cons (pv 3) (pa_cons (pe_call GP hr2 (by rfl) gP kP bP .nil pass0 (pa_cons (pv 0) (pa_cons (pv 1) pa_nil))) (pa_cons (pe_call GP hr2 (by rfl) gP kP bP .nil pass0 (pa_cons (pv 0) (pa_cons (pv 1) pa_nil))) pa_nil)))))))))), ?_⟩
    refine ⟨_, rfl, p, _, rfl, src.fd, by decide, by decide, fun r H1 r0 r1 fd1 b1 => ?_⟩
    obtain ⟨f1, src1⟩ := src.but b1 fd1
    refine ⟨_, rfl, rfl, _, rfl, ?_⟩
    refine ite2 (fun _ => ?_) (fun _ => ?_)
    · -- num
      refine ⟨_, rfl, _, rfl, _, _, rfl, rfl, ⟨by decide, by decide, by decide⟩, _, _, rfl, rfl, ⟨by decide, by decide, by decide⟩, _, _, rfl, rfl, _, rfl, p, _, rfl, src1.fd, by decide, by decide, fun r2 H2 a0 a1 fd2 b2 => ?_⟩
      obtain ⟨f2, src2⟩ := src1.but b2 fd2
      refine ⟨_, _, rfl, rfl, by show 6 ≤ sizeLine; decide, fun ql nql => .inr ⟨p, ql, _, rfl, ?_, .inl (SqL.of upd_same), ?_, Nat.zero_lt_succ _, (by show 6 < 1000000; decide), fun x H3 hx fd3 b3 => ?_⟩⟩
      · obtain ⟨xs, e⟩ := Fd.lst src2.fd
        exact ne_of_none e nql
      · exact (Fr.new (S := []) nql).fd src2.fd (by simp)
      obtain ⟨n, rfl, hn⟩ : ∃ n : Int, x = .int n ∧ n.natAbs ≤ 10 ^ 18 := by
        simp only [List.mem_cons, List.not_mem_nil, or_false] at hx
        rcases hx with rfl | rfl | rfl | rfl | rfl | rfl
        · exact ⟨_, rfl, by decide⟩
        · exact ⟨_, rfl, by decide⟩
        · exact ⟨_, rfl, by decide⟩
        · exact ⟨_, rfl, by decide⟩
        · exact ⟨_, rfl, by decide⟩
        · refine ⟨_, rfl, ?_⟩
          show (r2 - 40).natAbs ≤ 10 ^ 18
          have : (10 : Nat) ^ 18 = 1000000000000000000 := by decide
          omega
      have f3 : Fr [p] H2 H3 := (Fr.new (S := [p]) nql).trans (Fr.but b3 (by simp))
      have src3 := src2.fr1 f3 fd3
      refine ⟨by show 2 ≤ sizeLine; decide, fun a na => ?_⟩
      have s5 := same_upd (o := .tup [.str "num", .int n]) na
      exact q (.ref a) (.num n) _ (f1.trans (f2.trans (f3.trans (Fr.same s5)))) (src3.fr1 (Fr.same s5) ((Fr.same (S := []) s5).fd src3.fd (by simp))) (.num (SqT.of upd_same)) hn rfl rfl
    refine ⟨_, rfl, rfl, _, rfl, ?_⟩
    refine ite2 (fun _ => ?_) (fun _ => ?_)
    · exact ⟨_, rfl, _, rfl, p, nl, ns, rfl, src1, fun v t H2 f2 src2 h1 h2 h3 h4 => q v t H2 (f1.trans f2) src2 h1 h2 h3 h4⟩
    refine ⟨_, rfl, rfl, _, rfl, ?_⟩
    refine ite2 (fun _ => ?_) (fun _ => ?_)
    · refine ⟨_, rfl, _, rfl, .inr ⟨p, nl, _, rfl, src1.ne.symm, .inl (SqL.of src1.nl), src1.fd, src1.l0, src1.l1, fun x0 H2 hx0 fdx bx => ?_⟩⟩
      obtain ⟨x, hx, rfl⟩ := mem_map_str hx0
      obtain ⟨f2, src2⟩ := src1.but bx fdx
      refine ⟨by show 2 ≤ sizeLine; decide, fun a na => ?_⟩
      have s5 := same_upd (o := .tup [.str "name", .str x]) na
      exact q (.ref a) (.nam x) _ (f1.trans (f2.trans (Fr.same s5))) (src2.fr1 (Fr.same s5) ((Fr.same (S := []) s5).fd src2.fd (by simp))) (.nam (SqT.of upd_same)) hx rfl rfl
    refine ⟨_, rfl, by show 6 ≤ sizeLine; decide, fun ql nql => .inr ⟨p, ql, _, rfl, ?_, .inl (SqL.of upd_same), ?_, by decide, by decide, fun x H3 hx fd3 b3 => ?_⟩⟩
    · obtain ⟨xs, e⟩ := Fd.lst src1.fd
      exact ne_of_none e nql
    · exact (Fr.new (S := []) nql).fd src1.fd (by simp)
    obtain ⟨wd, rfl, hw⟩ : ∃ wd, x = .str wd ∧ wd ∈ twos := by
      simp only [List.mem_cons, List.not_mem_nil, or_false] at hx
      rcases hx with rfl | rfl | rfl | rfl | rfl | rfl
      all_goals exact ⟨_, rfl, by decide +kernel⟩
    have f3 : Fr [p] H1 H3 := (Fr.new (S := [p]) nql).trans (Fr.but b3 (by simp))
    have src3 := src1.fr1 f3 fd3
    refine ⟨_, rfl, _, rfl, _, rfl, .inr ⟨p, nl, _, rfl, src3.ne.symm, .inl (SqL.of src3.nl), src3.fd, src3.l0, src3.l1, fun x0 H4 hx0 fdx bx => ?_⟩⟩
    obtain ⟨x, hx, rfl⟩ := mem_map_str hx0
    obtain ⟨f4, src4⟩ := src3.but bx fdx
    refine ⟨_, rfl, _, rfl, .inr ⟨p, nl, _, rfl, src4.ne.symm, .inl (SqL.of src4.nl), src4.fd, src4.l0, src4.l1, fun x0 H5 hx0 fdx bx => ?_⟩⟩
    obtain ⟨y, hy, rfl⟩ := mem_map_str hx0
    obtain ⟨f5, src5⟩ := src4.but bx fdx
    refine ⟨by show 3 ≤ sizeLine; decide, fun a na => ?_⟩
    have s6 := same_upd (o := .tup [.str wd, .str x, .str y]) na
    exact q (.ref a) (.two wd x y) _ (f1.trans (f3.trans (f4.trans (f5.trans (Fr.same s6))))) (src5.fr1 (Fr.same s6) ((Fr.same (S := []) s6).fd src5.fd (by simp))) (.two hw (SqT.of upd_same)) ⟨hw, hx, hy⟩ rfl rfl
end
end OwK

set_option Elab.async false
set_option linter.all false
set_option maxRecDepth 100000
set_option maxHeartbeats 8000000
namespace OwK
open PySem PySem.Spec PyProof.Rows L2 Ow OwT
abbrev sWorth : Stmt := topS 12
abbrev sTerm : Stmt := topS 13
abbrev NW : List Str := ["feed", "names", "box", "deep"]
abbrev NT : List Str := ["feed", "names", "box", "deep", "way", "some", "pairs", "lines", "word", "own", "first", "name"]
theorem scWorth : FnScope NW ["feed", "names", "box", "deep"] (defScope sWorth) := ⟨rfl, rfl, rfl, by decide +kernel, rfl, by decide +kernel, by decide +kernel⟩
theorem scTerm : FnScope NT ["feed", "names", "box", "deep"] (defScope sTerm) := ⟨rfl, rfl, rfl, by decide +kernel, rfl, by decide +kernel, by decide +kernel⟩
/-- the box at bx holds b -/
structure Bx (H : Hp) (p nl bx : Addr) (ns : List Str) (b : Int) : Prop where
  src : Src H p nl ns
  bx : H bx = some (.lst [.int b])
theorem Bx.np {H : Hp} {p nl bx : Addr} {ns : List Str} {b : Int} (x : Bx H p nl bx ns b) : bx ≠ p := fun z => by
  obtain ⟨d, st, e, _⟩ := x.src.fd
  have e2 := x.bx
  rw [z, e] at e2
  cases e2
theorem Bx.nn {H : Hp} {p nl bx : Addr} {ns : List Str} {b : Int} (x : Bx H p nl bx ns b) : bx ≠ nl := fun z => by
  have e1 := x.src.nl
  have e2 := x.bx
  have h := x.src.pos
  rw [z, e1] at e2
  cases ns with
  | nil => cases h
  | cons x r => cases e2
theorem Bx.fr {H H' : Hp} {p nl bx : Addr} {ns : List Str} {b : Int} (x : Bx H p nl bx ns b) (f : Fr [p] H H') (s : Src H' p nl ns) : Bx H' p nl bx ns b := ⟨s, f _ _ (by simpa using x.np) x.bx⟩
theorem Bx.but {H H' : Hp} {p nl bx : Addr} {ns : List Str} {b : Int} (x : Bx H p nl bx ns b) (h : But p H H') (fd : Fd H' p) : Fr [p, bx] H H' ∧ Bx H' p nl bx ns b := by
  obtain ⟨f, s⟩ := x.src.but h fd
  exact ⟨f.mono (by simp), x.fr f s⟩
theorem Bx.set {H : Hp} {p nl bx : Addr} {ns : List Str} {b c : Int} (x : Bx H p nl bx ns b) : Fr [p, bx] H (upd H bx (.lst [.int c])) ∧ Bx (upd H bx (.lst [.int c])) p nl bx ns c := by
  have f : Fr [bx] H (upd H bx (.lst [.int c])) := Fr.set (by simp)
  exact ⟨f.mono (by simp), x.src.fr f (f.fd x.src.fd (by simpa using x.np.symm)) (by simpa using x.nn.symm), upd_same⟩
theorem Bx.same {H H' : Hp} {p nl bx : Addr} {ns : List Str} {b : Int} (x : Bx H p nl bx ns b) (s : Same H H') : Bx H' p nl bx ns b := ⟨x.src.fr1 (Fr.same s) ((Fr.same (S := []) s).fd x.src.fd (by simp)), s _ _ x.bx⟩
theorem Bx.ts {K : PySem.W.Frag} {H H' : Hp} {p nl bx : Addr} {ns : List Str} {b : Int} (x : Bx H p nl bx ns b) (f : Fr [p, bx] H H') : TS K H H' := f.ts fun c hc => by
  rcases List.mem_cons.mp hc with rfl | hc
  · exact Fd.lst x.src.fd
  · cases List.mem_singleton.mp hc
    exact ⟨_, x.bx⟩
/-- a new object is laid: neither the source nor the box -/
theorem Bx.late {H H1 : Hp} {p nl bx D : Addr} {ns : List Str} {b b1 : Int} {o : HO} (x : Bx H p nl bx ns b) (y : Bx H1 p nl bx ns b1) (hD : H D = none) : Bx (upd H1 D o) p nl bx ns b1 := by
  have n1 : D ≠ p := fun z => by
    obtain ⟨xs, e⟩ := Fd.lst x.src.fd
    rw [← z, hD] at e
    cases e
  have n2 : D ≠ nl := fun z => by
    have e := x.src.nl
    rw [← z, hD] at e
    cases e
  have n3 : D ≠ bx := fun z => by
    have e := x.bx
    rw [← z, hD] at e
    cases e
  have f : Fr [D] H1 (upd H1 D o) := Fr.set (by simp)
  exact ⟨y.src.fr f (f.fd y.src.fd (by simpa using n1.symm)) (by simpa using n2.symm), f _ _ (by simpa using n3.symm) y.bx⟩
/-- what comes of a term's making: e and f say how deep and how far the box may fall -/
def Made (K : PySem.W.Frag) (H : Hp) (p nl bx : Addr) (ns : List Str) (b : Int) (lo : Int) (dp : Nat) (Q : VK) : Prop :=
  ∀ (v : V) (t : T) (b' : Int) (H' : Hp), Fr [p, bx] H H' → Bx H' p nl bx ns b' → Tp K H' v t → Good ns t → (nodes t : Int) = b - b' → lo ≤ b' → deep t ≤ dp → Q v H'
def spTerm (K : PySem.W.Frag) (n : Nat) : Sp := fun vs H Q _ => ∃ (p nl bx : Addr) (ns : List Str) (b d : Int), vs = [.ref p, .ref nl, .ref bx, .int d] ∧ Bx H p nl bx ns b ∧ d ≤ n ∧ Made K H p nl bx ns b (min (b - 1) (-(16 * (n : Int)))) (2 * n + 1) Q
def spWorth (K : PySem.W.Frag) (n : Nat) : Sp := fun vs H Q _ => ∃ (p nl bx : Addr) (ns : List Str) (b d : Int), vs = [.ref p, .ref nl, .ref bx, .int d] ∧ Bx H p nl bx ns b ∧ d ≤ n ∧
  ∀ (v : V) (t : T) (b' : Int) (H' : Hp), Fr [p, bx] H H' → Bx H' p nl bx ns b' → Tp K H' v t → Good ns t → (nodes t : Int) = b - b' → min (b - 2) (-(16 * (n : Int))) ≤ b' → deep t ≤ 2 * n + 2 → Q v H'
section
variable {P : Program} {w : World} {K : PySem.W.Frag} {mg : Str → Option Value} {base : Heap}
/-- the defs that are called -/
structure Cs (P : Program) (w : World) (K : PySem.W.Frag) (mg : Str → Option Value) (base : Heap) (fT fP fF fM fL fW fR : Addr) (dT dP dF dM dL dW dR : FuncData) : Prop where
  GT : FnOk P w K mg base CX0 1 fT dT ["feed", "many"] spTake
  gT : mg "_law_take" = some (.ref fT)
  kT : PySem.W.keepIn K (.ref fT) = true
  bT : Binds K dT ["feed", "many"] []
  GP : FnOk P w K mg base CX0 2 fP dP ["feed", "some"] (spPick K)
  gP : mg "_law_pick" = some (.ref fP)
  kP : PySem.W.keepIn K (.ref fP) = true
  bP : Binds K dP ["feed", "some"] []
  GF : FnOk P w K mg base CX0 3 fF dF ["feed", "names", "most"] (spFew K)
  gF : mg "_law_few" = some (.ref fF)
  kF : PySem.W.keepIn K (.ref fF) = true
  bF : Binds K dF ["feed", "names", "most"] []
  GM : FnOk P w K mg base CX0 3 fM dM ["feed", "names"] (spOne K)
  gM : mg "_law_made" = some (.ref fM)
  kM : PySem.W.keepIn K (.ref fM) = true
  bM : Binds K dM ["feed", "names"] []
  GL : FnOk P w K mg base CX0 4 fL dL ["feed", "names"] (spOne K)
  gL : mg "_law_leaf" = some (.ref fL)
  kL : PySem.W.keepIn K (.ref fL) = true
  bL : Binds K dL ["feed", "names"] []
  gW : mg "_law_worth" = some (.ref fW)
  kW : PySem.W.keepIn K (.ref fW) = true
  bW : Binds K dW ["feed", "names", "box", "deep"] []
  gR : mg "_law_term" = some (.ref fR)
  kR : PySem.W.keepIn K (.ref fR) = true
  bR : Binds K dR ["feed", "names", "box", "deep"] []
  range : mg "range" = none
  tup : mg "tuple" = none
theorem ok_worth {fT fP fF fM fL fW fR : Addr} {dT dP dF dM dL dW dR : FuncData} (C : Cs P w K mg base fT fP fF fM fL fW fR dT dP dF dM dL dW dR) (FW : Fun K "_law_worth" "_law_worth" sWorth fW dW) {n m k : Nat} (hm : m = n - 1) (hk : 4 ≤ k)
    (GR : FnOk P w K mg base CX0 k fR dR ["feed", "names", "box", "deep"] (spTerm K m)) : FnOk P w K mg base CX0 (k + 1) fW dW ["feed", "names", "box", "deep"] (spWorth K n) := by
  refine FW.ok scWorth (fun vs H Q E h => ?_) (fun cdv A outer s H vs Q E hr h => ?_)
  · obtain ⟨p, nl, bx, ns, b, d, rfl, _⟩ := h
    rfl
  · obtain ⟨p, nl, bx, ns, b, d, rfl, x, hd, q⟩ := h
    have hr1 : Room 1 _ := hr.mono (by omega)
    have hr2 : Room 2 _ := hr.mono (by omega)
    have hr3 : Room 3 _ := hr.mono (by omega)
    refine ⟨_, pss_cons (ps_asg (pe_op op_sub (pe_ix ix_list (pv 2) pe_int (fun _ _ => rfl)) pe_int) (pg_sub (pv 2) pe_int set_list))
      (pss_cons (ps_if (pt_cmpR op_eq (pe_call C.GT hr1 (by rfl) C.gT C.kT C.bT .nil pass0 (pa_cons (pv 0) (pa_cons pe_int pa_nil))) pe_int (nomark _))
          (pss_one (ps_ret (pe_call C.GM hr3 (by rfl) C.gM C.kM C.bM .nil pass0 (pa_cons (pv 0) (pa_cons (pv 1) pa_nil))))) pss_nil)
      (pss_one (ps_ret (pe_tup (pa_cons pe_str (pa_cons (pe_call C.GP hr2 (by rfl) C.gP C.kP C.bP .nil pass0 (pa_cons (pv 0) (pa_cons (pv 1) pa_nil)))
          (pa_cons (pe_call GR hr (by rfl) C.gR C.kR C.bR .nil pass0 (pa_cons (pv 0) (pa_cons (pv 1) (pa_cons (pv 2) (pa_cons (pe_op op_sub (pv 3) pe_int) pa_nil))))) pa_nil))))))), ?_⟩
    refine ⟨_, rfl, bx, _, _, _, rfl, rfl, SqL.of x.bx, atI_nat (j := 0) rfl, _, _, rfl, rfl, ?_⟩
    refine ⟨_, rfl, bx, _, _, 0, rfl, rfl, x.bx, rfl, ?_⟩
    obtain ⟨f1, x1⟩ := x.set (c := b - 1)
    refine ⟨_, rfl, p, _, rfl, x1.src.fd, by decide, by decide, fun r H2 r0 r1 fd2 b2 => ?_⟩
    obtain ⟨f2, x2⟩ := x1.but b2 fd2
    have f12 := f1.trans f2
    refine ⟨rfl, _, rfl, ?_⟩
    refine ite2 (fun _ => ?_) (fun _ => ?_)
    · refine ⟨_, rfl, _, rfl, p, nl, ns, rfl, x2.src, fun v t H3 f3 s3 h1 h2 h3 h4 => ?_⟩
      refine q v t (b - 1) H3 (f12.trans (f3.mono (by simp))) (x2.fr f3 s3) h1 h2 (by rw [h3]; omega) (by omega) (by omega)
    · refine ⟨_, rfl, _, rfl, .inr ⟨p, nl, _, rfl, x2.src.ne.symm, .inl (SqL.of x2.src.nl), x2.src.fd, x2.src.l0, x2.src.l1, fun x0 H3 hx0 fdx bx3 => ?_⟩⟩
      obtain ⟨y, hy, rfl⟩ := mem_map_str hx0
      obtain ⟨f3, x3⟩ := x2.but bx3 fdx
      refine ⟨_, rfl, _, rfl, _, rfl, _, rfl, _, _, rfl, rfl, p, nl, bx, ns, b - 1, _, rfl, x3, by omega, fun v t b' H4 f4 x4 h1 h2 h3 h4 h5 => ?_⟩
      refine ⟨by show 3 ≤ sizeLine; decide, fun a na => ?_⟩
      have s5 := same_upd (o := .tup [.str "fun", .str y, v]) na
      refine q (.ref a) (.fn y t) b' _ (f12.trans (f3.trans (f4.trans (Fr.same s5)))) (x4.same s5) (.fn (SqT.of upd_same) (h1.keep (TS.same s5))) ⟨hy, h2⟩ ?_ ?_ ?_
      · show ((1 + nodes t : Nat) : Int) = b - b'
        omega
      · omega
      · show 1 + deep t ≤ 2 * n + 2
        omega
end
end OwK

set_option Elab.async false
set_option linter.all false
set_option maxRecDepth 100000
set_option maxHeartbeats 8000000
namespace OwK
open PySem PySem.Spec PyProof.Rows L2 Ow OwT
def spTermLt (K : PySem.W.Frag) : Nat → Sp
  | 0 => fun _ _ _ _ => False
  | n + 1 => spTerm K n
def spWorthLt (K : PySem.W.Frag) : Nat → Sp
  | 0 => fun _ _ _ _ => False
  | n + 1 => spWorth K n
theorem cut1 (x : V) (r : List V) : cutV (x :: r) none (some 1) = [x] := by
  unfold cutV HT.sIx
  simp
theorem cutNs {ns : List Str} (h : 0 < ns.length) : ∃ n0, n0 ∈ ns ∧ cutV (ns.map V.str) none (some 1) = [n0].map V.str := by
  cases ns with
  | nil => cases h
  | cons x r => exact ⟨x, List.mem_cons_self, cut1 _ _⟩
theorem go_name {i : Nat} {v : V} {σ : L2.St} {H : Hp} {Q : L2.St → Hp → Prop} (h : Q (σ.set i (some v)) H) : gName i v σ H Q := h
theorem go_seq {t u : TS} {D : Ends} {σ : L2.St} {H : Hp} (h : t { D with nx := u D } σ H) : tSeq t u D σ H := h
theorem go_for_tup {K : PySem.W.Frag} {tl : TE} {g : TG} {tb : TS} {D : Ends} {σ : L2.St} {H : Hp} (R : Addr → List V → Hp → Prop) (hR : ∀ a xs H1, R a xs H1 → SqT K H1 a xs)
    (h : ∀ Qc : VK, (∀ a xs H1, R a xs H1 → Qc (.ref a) H1) → tl σ H Qc)
    (k : ∀ a xs H1, R a xs H1 → ∃ Z : Nat → L2.St → Hp → Prop, Z 0 σ H1 ∧ (∀ j τ H2, j ≤ xs.length → Z j τ H2 → SqT K H2 a xs) ∧
      (∀ j x τ H2, xs[j]? = some x → Z j τ H2 → g x τ H2 fun σ2 H3 => tb { D with bk := D.nx, nx := Z (j + 1), ct := Z (j + 1) } σ2 H3) ∧ (∀ τ H2, Z xs.length τ H2 → D.nx τ H2)) : tFor (iTup K tl) g tb D σ H := by
  refine h _ fun a xs H1 r => ⟨a, rfl, ⟨xs, hR _ _ _ r⟩, ?_⟩
  obtain ⟨Z, z0, zl, zs, zd⟩ := k a xs H1 r
  exact for_tup Z z0 zl zs zd
theorem go_asg {te : TE} {g : TG} {D : Ends} {σ : L2.St} {H : Hp} (h : te σ H fun x H1 => g x σ H1 D.nx) : tAsg te g D σ H := h
section
variable {P : Program} {w : World} {K : PySem.W.Frag} {mg : Str → Option Value} {base : Heap}
theorem ok_nil {x y : Str} {st : Stmt} {f : Addr} {fd : FuncData} {N ps : List Str} {k : Nat} (F : Fun K x y st f fd) (sc : FnScope N ps (defScope st)) : FnOk P w K mg base CX0 (k + 1) f fd ps (fun _ _ _ _ => False) := by
  refine F.ok sc (fun vs H Q E h => h.elim) (fun cdv A outer s H vs Q E hr h => ⟨_, pss_never, h.elim⟩)
theorem ok_term {fT fP fF fM fL fW fR : Addr} {dT dP dF dM dL dW dR : FuncData} (C : Cs P w K mg base fT fP fF fM fL fW fR dT dP dF dM dL dW dR) (FR : Fun K "_law_term" "_law_term" sTerm fR dR) {n k kR kW : Nat} (hk : 4 ≤ k) (hkR : kR ≤ k) (hkW : kW ≤ k)
    (GR : FnOk P w K mg base CX0 kR fR dR ["feed", "names", "box", "deep"] (spTermLt K n))
    (GW : FnOk P w K mg base CX0 kW fW dW ["feed", "names", "box", "deep"] (spWorthLt K n)) : FnOk P w K mg base CX0 (k + 1) fR dR ["feed", "names", "box", "deep"] (spTerm K n) := by
  refine FR.ok scTerm (fun vs H Q E h => ?_) (fun cdv A outer s H vs Q E hr h => ?_)
  · obtain ⟨p, nl, bx, ns, b, d, rfl, _⟩ := h
    rfl
  · obtain ⟨p, nl, bx, ns, b, d, rfl, x, hd, q⟩ := h
    have hr1 : Room 1 _ := hr.mono (by omega)
    have hr2 : Room 2 _ := hr.mono (by omega)
    have hr3 : Room 3 _ := hr.mono (by omega)
    have hr4 : Room 4 _ := hr.mono hk
    have hrR : Room kR _ := hr.mono hkR
    have hrW : Room kW _ := hr.mono hkW
    have hu : (A.deeper (envOfC (Str.ofString "_law_term") (defScope sTerm) s.heap.objs.size fR cdv)).units + 64 < cLine := by
      have := hr.un
      omega
    refine ⟨_, pss_cons (ps_asg (pe_op op_sub (pe_ix ix_list (pv 2) pe_int (fun _ _ => rfl)) pe_int) (pg_sub (pv 2) pe_int set_list))
      (pss_cons (ps_set (i := 4) scTerm.nd rfl (.inl rfl) (pe_call C.GT hr1 (by rfl) C.gT C.kT C.bT .nil pass0 (pa_cons (pv 0) (pa_cons pe_int pa_nil))))
      (pss_cons (ps_if (PW.pt (pw_or (pt_cmpR op_lt (pv 3) pe_int (nomark _)) (pw_or (pt_cmpR op_lt (pe_ix ix_list (pv 2) pe_int (fun _ _ => rfl)) pe_int (nomark _)) (pw_or1 (pt_cmpR op_eq (pv 4) pe_int (nomark _))))))
          (pss_one (ps_ret (pe_call C.GL hr4 (by rfl) C.gL C.kL C.bL .nil pass0 (pa_cons (pv 0) (pa_cons (pv 1) pa_nil))))) pss_nil)
      (pss_cons (ps_if (pt_cmpR op_eq (pv 4) pe_int (nomark _))
          (pss_one (ps_ret (pe_tup (pa_cons pe_str (pa_cons (pe_call C.GP hr2 (by rfl) C.gP C.kP C.bP .nil pass0 (pa_cons (pv 0) (pa_cons (pv 1) pa_nil)))
            (pa_cons (pe_call GR hrR (by rfl) C.gR C.kR C.bR .nil pass0 (pa_cons (pv 0) (pa_cons (pv 1) (pa_cons (pv 2) (pa_cons (pe_op op_sub (pv 3) pe_int) pa_nil))))) pa_nil)))))) pss_nil)
      (pss_cons (ps_if (pt_cmpR op_eq (pv 4) pe_int (nomark _))
          (pss_cons (ps_set (i := 5) scTerm.nd rfl (.inl rfl) (pe_call C.GF hr3 (by rfl) C.gF C.kF C.bF .nil pass0 (pa_cons (pv 0) (pa_cons (pv 1) (pa_cons pe_int pa_nil)))))
          (pss_cons (ps_set (i := 5) scTerm.nd rfl (.inl rfl) (pe_ifExp (pt_cmpR (op_neD hu) (pv 5) (pe_tup pa_nil) (nomark _)) (pv 5) (pe_callTy call_tuple_of (by rfl) C.tup (by decide +kernel) (pa_cons (pe_slice sl_list (pv 1) po_none (po_some pe_int)) pa_nil))))
          (pss_cons (ps_set (i := 6) scTerm.nd rfl (.inl rfl) (pe_callTy call_tuple_of (by rfl) C.tup (by decide +kernel) (pa_cons (pe_lc (own := [("name", 11)]) (g := gName 11) (tt := tYes) rfl scTerm.nd (pi_tup (pv 5)) (blkOk_by (N := NT) (sc := defScope sTerm) (by decide +kernel))
              (fun _ _ _ _ _ => pg_name (i := 11) scTerm.nd rfl (Or.inl rfl)) (fun _ _ _ _ _ => pts_nil) (fun _ _ _ _ _ => pe_tup (pa_cons (pv 11) (pa_cons (pe_call GW hrW (by rfl) C.gW C.kW C.bW .nil pass0 (pa_cons (pv 0) (pa_cons (pv 1) (pa_cons (pv 2) (pa_cons (pe_op op_sub (pv 3) pe_int) pa_nil))))) pa_nil)))) pa_nil)))
          (pss_one (ps_ret (pe_tup (pa_cons pe_str (pa_cons (pv 6) (pa_cons (pe_call GR hrR (by rfl) C.gR C.kR C.bR .nil pass0 (pa_cons (pv 0) (pa_cons (pv 1) (pa_cons (pv 2) (pa_cons (pe_op op_sub (pv 3) pe_int) pa_nil))))) pa_nil)))))))) ) pss_nil)
      (pss_cons (ps_if (pt_cmpR op_eq (pv 4) pe_int (nomark _))
          (pss_cons (ps_set (i := 5) scTerm.nd rfl (.inl rfl) (pe_call C.GF hr3 (by rfl) C.gF C.kF C.bF .nil pass0 (pa_cons (pv 0) (pa_cons (pv 1) (pa_cons pe_int pa_nil)))))
          (pss_cons (ps_set (i := 7) scTerm.nd rfl (.inl rfl) (pe_lst pa_nil))
          (pss_cons (ps_for PassesOwn.never rfl (pi_tup (pe_ifExp (pt_cmpR (op_neD hu) (pv 5) (pe_tup pa_nil) (nomark _)) (pv 5) (pe_callTy call_tuple_of (by rfl) C.tup (by decide +kernel) (pa_cons (pe_slice sl_list (pv 1) po_none (po_some pe_int)) pa_nil)))) (pg_name (i := 8) scTerm.nd rfl (.inl rfl))
            (pss_cons (ps_set (i := 9) scTerm.nd rfl (.inl rfl) (pe_call C.GF hr3 (by rfl) C.gF C.kF C.bF .nil pass0 (pa_cons (pv 0) (pa_cons (pv 1) (pa_cons pe_int pa_nil)))))
            (pss_one (ps_expr (pe_bm PySem.F.plainAttrs_list PySem.F.slot_list_append PySem.F.type_list_append mt_append (pv 7) (pa_cons (pe_tup (pa_cons (pv 8) (pa_cons (pv 9) (pa_cons (pe_call GR hrR (by rfl) C.gR C.kR C.bR .nil pass0 (pa_cons (pv 0) (pa_cons (pv 1) (pa_cons (pv 2) (pa_cons (pe_op op_sub (pv 3) pe_int) pa_nil))))) pa_nil)))) pa_nil))))))
          (pss_one (ps_ret (pe_tup (pa_cons pe_str (pa_cons (pe_call C.GP hr2 (by rfl) C.gP C.kP C.bP .nil pass0 (pa_cons (pv 0) (pa_cons (pv 1) pa_nil))) (pa_cons (pe_callTy call_tuple_of (by rfl) C.tup (by decide +kernel) (pa_cons (pv 7) pa_nil)) pa_nil)))))))) ) pss_nil)
      (pss_cons (ps_set (i := 10) scTerm.nd rfl (.inl rfl) (pe_call GR hrR (by rfl) C.gR C.kR C.bR .nil pass0 (pa_cons (pv 0) (pa_cons (pv 1) (pa_cons (pv 2) (pa_cons (pe_op op_sub (pv 3) pe_int) pa_nil))))))
      (pss_cons (ps_set (i := 8) scTerm.nd rfl (.inl rfl) (pe_call C.GP hr2 (by rfl) C.gP C.kP C.bP .nil pass0 (pa_cons (pv 0) (pa_cons (pe_lst (pa_cons pe_str (pa_cons pe_str (pa_cons pe_str pa_nil)))) pa_nil))))
      (pss_one (ps_ret (pe_tup (pa_cons (pv 8) (pa_cons (pe_call C.GP hr2 (by rfl) C.gP C.kP C.bP .nil pass0 (pa_cons (pv 0) (pa_cons (pv 1) pa_nil))) (pa_cons (pv 10)
          (pa_cons (pe_call GR hrR (by rfl) C.gR C.kR C.bR .nil pass0 (pa_cons (pv 0) (pa_cons (pv 1) (pa_cons (pv 2) (pa_cons (pe_op op_sub (pv 3) pe_int) pa_nil))))) pa_nil)))))))))))))), ?_⟩
    refine ⟨_, rfl, bx, _, _, _, rfl, rfl, SqL.of x.bx, atI_nat (j := 0) rfl, _, _, rfl, rfl, ?_⟩
    refine ⟨_, rfl, bx, _, _, 0, rfl, rfl, x.bx, rfl, ?_⟩
    obtain ⟨f1, x1⟩ := x.set (c := b - 1)
    refine ⟨_, rfl, p, _, rfl, x1.src.fd, by decide, by decide, fun r H2 r0 r1 fd2 b2 => ?_⟩
    obtain ⟨f2, x2⟩ := x1.but b2 fd2
    have f12 := f1.trans f2
    have leaf : (∀ (v : V) (t : T) (H3 : Hp), Fr [p] H2 H3 → Src H3 p nl ns → Tp K H3 v t → Good ns t → nodes t = 1 → deep t = 1 → Q v H3) := fun v t H3 f3 s3 h1 h2 h3 h4 =>
      q v t (b - 1) H3 (f12.trans (f3.mono (by simp))) (x2.fr f3 s3) h1 h2 (by rw [h3]; omega) (by omega) (by omega)
    refine ⟨_, rfl, _, _, rfl, rfl, _, rfl, ?_⟩
    refine ite2 (fun _ => iteT ⟨_, rfl, _, rfl, p, nl, ns, rfl, x2.src, leaf⟩) (fun e1 => ?_)
    refine ⟨_, rfl, bx, _, _, _, rfl, rfl, SqL.of x2.bx, atI_nat (j := 0) rfl, _, _, rfl, rfl, _, rfl, ?_⟩
    refine ite2 (fun _ => iteT ⟨_, rfl, _, rfl, p, nl, ns, rfl, x2.src, leaf⟩) (fun e2 => ?_)
    refine ⟨_, rfl, rfl, _, rfl, ?_⟩
    refine ite2 (fun _ => ⟨_, rfl, _, rfl, p, nl, ns, rfl, x2.src, leaf⟩) (fun _ => ?_)
    have e1' : ¬ d < 1 := fun z => e1 (decide_eq_true z)
    have e2' : ¬ b - 1 < 1 := fun z => e2 (decide_eq_true z)
    cases n with
    | zero => exact absurd hd (by omega)
    | succ m =>
    have hd1 : d - 1 ≤ (m : Int) := by omega
    -- fun
    refine ⟨_, rfl, rfl, _, rfl, ?_⟩
    refine ite2 (fun _ => ?_) (fun _ => ?_)
    · refine ⟨_, rfl, _, rfl, .inr ⟨p, nl, _, rfl, x2.src.ne.symm, .inl (SqL.of x2.src.nl), x2.src.fd, x2.src.l0, x2.src.l1, fun x0 H3 hx0 fdx bx3 => ?_⟩⟩
      obtain ⟨y, hy, rfl⟩ := mem_map_str hx0
      obtain ⟨f3, x3⟩ := x2.but bx3 fdx
      refine ⟨_, rfl, _, rfl, _, rfl, _, rfl, _, _, rfl, rfl, p, nl, bx, ns, b - 1, _, rfl, x3, by omega, fun v t b' H4 f4 x4 h1 h2 h3 h4 h5 => ?_⟩
      refine ⟨by show 3 ≤ sizeLine; decide, fun a na => ?_⟩
      have s5 := same_upd (o := .tup [.str "fun", .str y, v]) na
      refine q (.ref a) (.fn y t) b' _ (f12.trans (f3.trans (f4.trans (Fr.same s5)))) (x4.same s5) (.fn (SqT.of upd_same) (h1.keep (TS.same s5))) ⟨hy, h2⟩ ?_ ?_ ?_
      · show ((1 + nodes t : Nat) : Int) = b - b'
        omega
      · omega
      · show 1 + deep t ≤ 2 * (m + 1) + 1
        omega
    -- letall
    refine ⟨_, rfl, rfl, _, rfl, ?_⟩
    refine ite2 (fun _ => ?_) (fun _ => ?_)
    · refine ⟨_, rfl, _, rfl, p, nl, ns, 6, rfl, x2.src, by decide, by decide, fun qf ys H3 f3 s3 hq hl hm => ?_⟩
      refine go_name ?_
      dsimp only
      refine go_seq ?_
      refine go_asg ?_
      refine (show ∀ Qc : VK, (∀ (q' : Addr) (zs : List Str) (H' : Hp), Same H3 H' → SqT K H' q' (zs.map V.str) → zs.length ≤ 6 → (∀ y ∈ zs, y ∈ ns) → Qc (.ref q') H') → tIf _ _ _ _ H3 Qc from fun Qc k => ?_) _ fun q' zs H4 s4 hz lz mz => ?_
      · refine ⟨_, rfl, by show 0 ≤ sizeLine; decide, fun o no => ?_⟩
        have so := same_upd (o := .tup ([] : List V)) no
        refine ⟨_, _, .tup (TS.same so _ _ hq) (dp_strs ys), .tup (SqT.of upd_same) .nil, shaped_tup (fun y hy => (x2.src.ok y (hm y hy)).2), shaped_tup (l := []) (fun d hd => absurd hd (by simp)), ?_⟩
        refine ⟨_, rfl, ite2 (fun _ => ?_) (fun e => ?_)⟩
        · exact ⟨_, rfl, k qf ys _ so (TS.same so _ _ hq) (by omega) hm⟩
        · refine ⟨_, rfl, _, rfl, nl, _, rfl, SqL.of (so _ _ s3.nl), fun c nc => ?_⟩
          obtain ⟨n0, hn0, ec⟩ := cutNs s3.pos
          rw [ec]
          refine ⟨c, _, rfl, .inl ⟨SqL.of upd_same, fun t nt => ?_⟩⟩
          exact k t [n0] _ (so.trans ((same_upd nc).trans (same_upd nt))) (SqT.of upd_same) (by show 1 ≤ 6; decide) (fun y hy => by rw [List.mem_singleton.mp hy]; exact hn0)
      have line := line_ge
      have f34 : Fr [p, bx] H2 H4 := (f3.mono (by simp)).trans (Fr.same s4)
      have x4 : Bx H4 p nl bx ns (b - 1) := (x2.fr f3 s3).same s4
      refine ⟨_, rfl, q', rfl, ⟨_, hz⟩, fun D nD => lc_tup (K := K) (a := q') (xs := zs.map V.str) (fun i H' => ∃ (acc : List V) (ps : Ps) (c : Int), acc.length = i ∧ PsP K H' acc ps ∧ GoodPs ns ps ∧ (nodesPs ps : Int) = b - 1 - c ∧ -(16 * (m : Int)) - 2 * i ≤ c ∧ deepPs ps ≤ 2 * m + 2 ∧ Bx H' p nl bx ns c ∧ Fr [p, bx] H4 H' ∧ H' D = some (.lst acc)) ?_ ?_ ?_ ?_⟩
      · exact ⟨[], .nil, b - 1, rfl, .nil, trivial, by show ((0 : Nat) : Int) = _; omega, by omega, by show 0 ≤ _; omega, x4.late x4 nD, Fr.new nD, upd_same⟩
      · rintro i H5 _ ⟨_, _, _, _, _, _, _, _, _, _, f5, _⟩
        exact x4.ts f5 _ _ hz
      · rintro i x0 H5 hx ⟨acc, ps, c, la, hp, hg, hn, hc, hdp, x5, f5, eD⟩
        have hi : i < (zs.map V.str).length := (List.getElem?_eq_some_iff.mp hx).1
        rw [List.length_map] at hi
        obtain ⟨nm, hnm, rfl⟩ := mem_map_str (List.mem_of_getElem? hx)
        refine ⟨rfl, ?_⟩
        unfold tYes
        refine iteT ?_
        refine ⟨_, rfl, _, rfl, _, rfl, _, rfl, _, rfl, _, _, rfl, rfl, p, nl, bx, ns, c, _, rfl, x5, hd1, fun v t c' H6 f6 x6 h1 h2 h3 h4 h5 => ?_⟩
        refine ⟨by show 2 ≤ sizeLine; decide, fun a na => ?_⟩
        have nDs : D ∉ [p, bx] := by
          intro z
          rcases List.mem_cons.mp z with rfl | z
          · obtain ⟨xs, e⟩ := Fd.lst x4.src.fd
            rw [e] at nD
            cases nD
          · rw [List.mem_singleton.mp z, x4.bx] at nD
            cases nD
        have eD6 := f6 _ _ nDs eD
        have k7 := same_upd (o := .tup [.str nm, v]) na
        have ne : D ≠ a := ne_of_none eD6 na
        have t8 : TS K H6 (upd (upd H6 a (.tup [.str nm, v])) D (.lst (acc ++ [.ref a]))) := (TS.new na).trans (TS.set (o := .lst acc) (k7 _ _ eD6) (fun _ z => by cases z) (fun _ _ z => by cases z))
        refine ⟨acc, k7 _ _ eD6, by omega, acc ++ [.ref a], ps.snoc nm t, c', by rw [List.length_append, la]; rfl, ?_, snoc_good (mz nm hnm) h2 ps hg, ?_, ?_, ?_, x4.late (x6.same k7) nD, ((f5.trans f6).trans (Fr.same k7)).late nD, upd_same⟩
        · exact ps_snoc (SqT.of (by rw [upd_ne ne.symm]; exact upd_same)) (h1.keep t8) _ _ (hp.keep ((x5.ts f6).trans t8))
        · rw [snoc_nodes]
          omega
        · omega
        · rw [snoc_deep]
          omega
      · rintro H5 ⟨acc, ps, c, la, hp, hg, hn, hc, hdp, x5, f5, eD⟩
        rw [List.length_map] at hc
        refine ⟨D, _, rfl, .inl ⟨SqL.of eD, fun tp ntp => ?_⟩⟩
        have s6 := same_upd (o := .tup acc) ntp
        refine ⟨_, rfl, _, rfl, _, rfl, _, rfl, _, rfl, _, _, rfl, rfl, p, nl, bx, ns, c, _, rfl, x5.same s6, hd1, fun v t c' H7 f7 x7 h1 h2 h3 h4 h5 => ?_⟩
        refine ⟨by show 3 ≤ sizeLine; decide, fun a na => ?_⟩
        have s8 := same_upd (o := .tup [.str "letall", .ref tp, v]) na
        have t7 := (x5.same s6).ts (K := K) f7
        refine q (.ref a) (.all ps t) c' _ (f12.trans (f34.trans (f5.trans ((Fr.same s6).trans (f7.trans (Fr.same s8)))))) (x7.same s8) (.all (SqT.of upd_same) (TS.same s8 _ _ (t7 _ _ (SqT.of upd_same))) (hp.keep ((TS.same s6).trans (t7.trans (TS.same s8)))) (h1.keep (TS.same s8))) ⟨hg, h2⟩ ?_ ?_ ?_
        · show ((1 + nodesPs ps + nodes t : Nat) : Int) = b - c'
          omega
        · omega
        · show 1 + max (deepPs ps) (deep t) ≤ 2 * (m + 1) + 1
          omega
    -- by
    refine ⟨_, rfl, rfl, _, rfl, ?_⟩
    refine ite2 (fun _ => ?_) (fun _ => ?_)
    · refine ⟨_, rfl, _, rfl, p, nl, ns, 6, rfl, x2.src, by decide, by decide, fun qf ys H3' f3' s3' hq' hl hm => ?_⟩
      refine ⟨by show 0 ≤ sizeLine; decide, fun lo nlo => ?_⟩
      have s3a := same_upd (o := .lst ([] : List V)) nlo
      have eL3 : (upd H3' lo (.lst ([] : List V))) lo = some (.lst ([] : List V)) := upd_same
      have x3' := x2.fr f3' s3'
      have nlo2 : H2 lo = none := f3'.free nlo (fun z => by
        obtain ⟨xs, e⟩ := Fd.lst x3'.src.fd
        rw [List.mem_singleton.mp z, e] at nlo
        cases nlo)
      have hq := TS.same (K := K) s3a _ _ hq'
      have f3 : Fr [p] H2 (upd H3' lo (.lst ([] : List V))) := f3'.trans (Fr.same s3a)
      have s3 : Src (upd H3' lo (.lst ([] : List V))) p nl ns := (x3'.same s3a).src
      generalize upd H3' lo (.lst ([] : List V)) = H3 at eL3 hq f3 s3 ⊢
      refine go_name ?_
      dsimp only
      refine go_seq ?_
      refine go_for_tup (K := K) (fun a xs H' => ∃ zs : List Str, Same H3 H' ∧ xs = zs.map V.str ∧ SqT K H' a xs ∧ zs.length ≤ 6 ∧ ∀ y ∈ zs, y ∈ ns) (fun a xs H' ⟨zs, r⟩ => r.2.2.1) (fun Qc k0 => ?_) (fun q' xs H4 ⟨zs, s4, e, hz, lz, mz⟩ => ?_)
      · have k : ∀ (q' : Addr) (zs : List Str) (H' : Hp), Same H3 H' → SqT K H' q' (zs.map V.str) → zs.length ≤ 6 → (∀ y ∈ zs, y ∈ ns) → Qc (.ref q') H' := fun q' zs H' a b c d => k0 q' _ H' ⟨zs, a, rfl, b, c, d⟩
        refine ⟨_, rfl, by show 0 ≤ sizeLine; decide, fun o no => ?_⟩
        have so := same_upd (o := .tup ([] : List V)) no
        refine ⟨_, _, .tup (TS.same so _ _ hq) (dp_strs ys), .tup (SqT.of upd_same) .nil, shaped_tup (fun y hy => (x2.src.ok y (hm y hy)).2), shaped_tup (l := []) (fun d hd => absurd hd (by simp)), ?_⟩
        refine ⟨_, rfl, ite2 (fun _ => ?_) (fun e => ?_)⟩
        · exact ⟨_, rfl, k qf ys _ so (TS.same so _ _ hq) (by omega) hm⟩
        · refine ⟨_, rfl, _, rfl, nl, _, rfl, SqL.of (so _ _ s3.nl), fun c nc => ?_⟩
          obtain ⟨n0, hn0, ec⟩ := cutNs s3.pos
          rw [ec]
          refine ⟨c, _, rfl, .inl ⟨SqL.of upd_same, fun t nt => ?_⟩⟩
          exact k t [n0] _ (so.trans ((same_upd nc).trans (same_upd nt))) (SqT.of upd_same) (by show 1 ≤ 6; decide) (fun y hy => by rw [List.mem_singleton.mp hy]; exact hn0)
      subst e
      have line := line_ge
      have f34 : Fr [p, bx] H2 H4 := (f3.mono (by simp)).trans (Fr.same s4)
      have x4 : Bx H4 p nl bx ns (b - 1) := (x2.fr f3 s3).same s4
      have nls : lo ∉ [p, bx] := by
        intro z
        rcases List.mem_cons.mp z with rfl | z
        · obtain ⟨xs, e⟩ := Fd.lst x2.src.fd
          rw [e] at nlo2
          cases nlo2
        · rw [List.mem_singleton.mp z, x2.bx] at nlo2
          cases nlo2
      refine ⟨(fun i σ' H' => ∃ (acc : List V) (bs : Bs) (c : Int) (v8 v9 : Option V), σ' = [some (.ref p), some (.ref nl), some (.ref bx), some (.int d), some (.int r), some (.ref qf), none, some (.ref lo), v8, v9, none, none] ∧ acc.length = i ∧ BsP K H' acc bs ∧ GoodBs ns bs ∧ (nodesBs bs : Int) = b - 1 - c ∧ -(16 * (m : Int)) - i ≤ c ∧ deepBs bs ≤ 2 * m + 1 ∧ Bx H' p nl bx ns c ∧ Fr [p, bx] H2 H' ∧ H' lo = some (.lst acc) ∧ TS K H4 H'), ?_, ?_, ?_, ?_⟩
      · exact ⟨[], .nil, b - 1, _, _, rfl, rfl, .nil, trivial, by show ((0 : Nat) : Int) = _; omega, by omega, by show 0 ≤ _; omega, x4, f34, s4 _ _ eL3, TS.refl⟩
      · rintro i σ' H5 _ ⟨_, _, _, _, _, _, _, _, _, _, _, _, _, _, _, t5⟩
        exact t5 _ _ hz
      · rintro i x0 σ' H5 hx ⟨acc, bs, c, v8, v9, rfl, la, hp, hg, hn, hc, hdp, x5, f5, eL, t5⟩
        have hi : i < (zs.map V.str).length := (List.getElem?_eq_some_iff.mp hx).1
        rw [List.length_map] at hi
        obtain ⟨nm, hnm, rfl⟩ := mem_map_str (List.mem_of_getElem? hx)
        refine ⟨_, rfl, _, rfl, p, nl, ns, 3, rfl, x5.src, by decide, by decide, fun qo os H6 f6 s6 ho lh mo => ?_⟩
        have f6' : Fr [p, bx] H5 H6 := f6.mono (by simp)
        have x6 := x5.fr f6 s6
        have eL6 := f6' _ _ nls eL
        refine ⟨_, rfl, .inl ⟨rfl, _, .inl (.inl eL6)⟩, _, rfl, _, rfl, _, rfl, _, rfl, _, rfl, _, rfl, _, _, rfl, rfl, p, nl, bx, ns, c, _, rfl, x6, hd1, fun v t c' H7 f7 x7 h1 h2 h3 h4 h5 => ⟨by show 3 ≤ sizeLine; decide, fun a na => ?_⟩⟩
        have eL7 := f7 _ _ nls eL6
        have k7 := same_upd (o := .tup [.str nm, .ref qo, v]) na
        have ne : lo ≠ a := ne_of_none eL7 na
        have t8 : TS K H7 (upd (upd H7 a (.tup [.str nm, .ref qo, v])) lo (.lst (acc ++ [.ref a]))) := (TS.new na).trans (TS.set (o := .lst acc) (k7 _ _ eL7) (fun _ z => by cases z) (fun _ _ z => by cases z))
        have t67 := x6.ts (K := K) f7
        refine ⟨lo, _, _, rfl, rfl, k7 _ _ eL7, by omega, acc ++ [.ref a], bs.snoc nm os t, c', _, _, rfl, by rw [List.length_append, la]; rfl, ?_, bsnoc_good (mz nm hnm) mo (by omega) h2 bs hg, ?_, ?_, ?_, x2.late (x7.same k7) nlo2, ((f5.trans (f6'.trans f7)).trans (Fr.same k7)).late nlo2, upd_same, t5.trans ((x5.ts f6').trans (t67.trans t8))⟩
        · exact bs_snoc (SqT.of (by rw [upd_ne ne.symm]; exact upd_same)) (t8 _ _ (t67 _ _ ho)) (h1.keep t8) _ _ (hp.keep ((x5.ts f6').trans (t67.trans t8)))
        · rw [bsnoc_nodes]
          omega
        · omega
        · rw [bsnoc_deep]
          omega
      · rintro σ' H5 ⟨acc, bs, c, v8, v9, rfl, la, hp, hg, hn, hc, hdp, x5, f5, eL, t5⟩
        rw [List.length_map] at hc
        refine ⟨_, rfl, _, rfl, .inr ⟨p, nl, _, rfl, x5.src.ne.symm, .inl (SqL.of x5.src.nl), x5.src.fd, x5.src.l0, x5.src.l1, fun x0 H6 hx0 fdx bx6 => ?_⟩⟩
        obtain ⟨y, hy, rfl⟩ := mem_map_str hx0
        obtain ⟨f6, x6⟩ := x5.but bx6 fdx
        have eL6 := f6 _ _ nls eL
        refine ⟨_, rfl, lo, _, rfl, .inl ⟨SqL.of eL6, fun tp ntp => ⟨by show 3 ≤ sizeLine; decide, fun a na => ?_⟩⟩⟩
        have s7 := same_upd (o := .tup acc) ntp
        have s8 := same_upd (o := .tup [.str "by", .str y, .ref tp]) na
        refine q (.ref a) (.by_ y bs) c _ (f12.trans (f5.trans (f6.trans (Fr.same (s7.trans s8))))) (x6.same (s7.trans s8)) (.by_ (SqT.of upd_same) (SqT.of (s8 _ _ upd_same)) (hp.keep ((x5.ts f6).trans (TS.same (s7.trans s8))))) ⟨hy, hg⟩ ?_ ?_ ?_
        · show ((1 + nodesBs bs : Nat) : Int) = b - c
          omega
        · omega
        · show 1 + deepBs bs ≤ 2 * (m + 1) + 1
          omega
    -- let, now
    refine ⟨_, rfl, _, rfl, _, rfl, _, rfl, _, _, rfl, rfl, p, nl, bx, ns, b - 1, _, rfl, x2, by omega, fun v t b' H3 f3 x3 h1 h2 h3 h4 h5 => ?_⟩
    refine ⟨_, rfl, (by show 3 ≤ sizeLine; decide), fun ql nql => .inr ⟨p, ql, _, rfl, ?_, .inl (SqL.of upd_same), ?_, Nat.zero_lt_succ _, (by show 3 < 1000000; decide), fun w0 H4 hw fd4 b4 => ?_⟩⟩
    · obtain ⟨xs, e⟩ := Fd.lst x3.src.fd
      exact ne_of_none e nql
    · exact (Fr.new (S := []) nql).fd x3.src.fd (by simp)
    obtain ⟨wd, rfl, hwd⟩ : ∃ s : Str, w0 = .str s ∧ (s = "let" ∨ s = "now") := by
      simp only [List.mem_cons, List.not_mem_nil, or_false] at hw
      rcases hw with rfl | rfl | rfl
      · exact ⟨_, rfl, .inl rfl⟩
      · exact ⟨_, rfl, .inl rfl⟩
      · exact ⟨_, rfl, .inr rfl⟩
    have s3 := same_upd (o := .lst [.str "let", .str "let", .str "now"]) nql
    obtain ⟨f4, x4⟩ := (x3.same s3).but b4 fd4
    have f34 : Fr [p, bx] H3 H4 := (Fr.same s3).trans f4
    refine ⟨_, rfl, _, rfl, _, rfl, .inr ⟨p, nl, _, rfl, x4.src.ne.symm, .inl (SqL.of x4.src.nl), x4.src.fd, x4.src.l0, x4.src.l1, fun x0 H5 hx0 fdx bx5 => ?_⟩⟩
    obtain ⟨y, hy, rfl⟩ := mem_map_str hx0
    obtain ⟨f5, x5⟩ := x4.but bx5 fdx
    refine ⟨_, rfl, _, rfl, _, rfl, _, rfl, _, rfl, _, _, rfl, rfl, p, nl, bx, ns, b', _, rfl, x5, by omega, fun v2 t2 c' H6 f6 x6 g1 g2 g3 g4 g5 => ?_⟩
    refine ⟨by show 4 ≤ sizeLine; decide, fun a na => ?_⟩
    have s7 := same_upd (o := .tup [.str wd, .str y, v, v2]) na
    have f36 := f34.trans (f5.trans f6)
    refine q (.ref a) (.lt wd y t t2) c' _ (f12.trans (f3.trans (f36.trans (Fr.same s7)))) (x6.same s7) (.lt hwd (SqT.of upd_same) ((h1.keep (x3.ts f36)).keep (TS.same s7)) (g1.keep (TS.same s7))) ⟨hwd, hy, h2, g2⟩ ?_ ?_ ?_
    · show ((1 + nodes t + nodes t2 : Nat) : Int) = b - c'
      omega
    · omega
    · show 1 + max (deep t) (deep t2) ≤ 2 * (m + 1) + 1
      omega
theorem ok_terms {fT fP fF fM fL fW fR : Addr} {dT dP dF dM dL dW dR : FuncData} (C : Cs P w K mg base fT fP fF fM fL fW fR dT dP dF dM dL dW dR) (FR : Fun K "_law_term" "_law_term" sTerm fR dR) (FW : Fun K "_law_worth" "_law_worth" sWorth fW dW) :
    ∀ n : Nat, FnOk P w K mg base CX0 (5 + 2 * n) fR dR ["feed", "names", "box", "deep"] (spTerm K n) ∧ ∃ j, j ≤ 6 + 2 * n ∧ FnOk P w K mg base CX0 j fW dW ["feed", "names", "box", "deep"] (spWorth K n)
  | 0 => by
    have h : FnOk P w K mg base CX0 5 fR dR ["feed", "names", "box", "deep"] (spTerm K 0) := ok_term C FR (n := 0) (k := 4) (Nat.le_refl _) (Nat.le_refl _) (Nat.le_refl _) (ok_nil FR scTerm) (ok_nil FW scWorth)
    exact ⟨h, 6, Nat.le_refl _, ok_worth C FW (n := 0) (m := 0) rfl (by decide) h⟩
  | n + 1 => by
    obtain ⟨h, j, hj, hw⟩ := ok_terms C FR FW n
    have h2 : FnOk P w K mg base CX0 (6 + 2 * n + 1) fR dR ["feed", "names", "box", "deep"] (spTerm K (n + 1)) := ok_term C FR (n := n + 1) (k := 6 + 2 * n) (by omega) (by omega) hj h hw
    refine ⟨?_, 6 + 2 * n, by omega, ?_⟩
    · have e : 5 + 2 * (n + 1) = 6 + 2 * n + 1 := by omega
      rw [e]
      exact h2
    · have h3 := ok_worth C FW (n := n + 1) (m := n) rfl (k := 5 + 2 * n) (by omega) h
      have e : 6 + 2 * n = 5 + 2 * n + 1 := by omega
      rw [e]
      exact h3
end
end OwK

set_option Elab.async false
set_option linter.all false
set_option maxRecDepth 100000
set_option maxHeartbeats 8000000
namespace OwK
open PySem PySem.Spec PyProof.Rows L2 Ow OwT
abbrev sOpen : Stmt := topS 14
abbrev NO : List Str := ["term", "bound", "word", "found", "inner", "own", "below", "more", "row", "pair", "name"]
theorem scOpen : FnScope NO ["term", "bound"] (defScope sOpen) := ⟨rfl, rfl, rfl, by decide +kernel, rfl, by decide +kernel, by decide +kernel⟩
inductive LS (K : PySem.W.Frag) (H : Hp) : List V → List (T × List Str) → Prop
  | nil : LS K H [] []
  | cons {q b : Addr} {v : V} {t : T} {ns : List Str} {vs : List V} {l : List (T × List Str)} : SqT K H q [v, .ref b] → Tp K H v t → H b = some (.lst (ns.map V.str)) → LS K H vs l → LS K H (.ref q :: vs) ((t, ns) :: l)
theorem LS.keep {K : PySem.W.Frag} {H H' : Hp} (s : Same H H') : ∀ {vs : List V} {l : List (T × List Str)}, LS K H vs l → LS K H' vs l
  | _, _, .nil => .nil
  | _, _, .cons a b c d => .cons (TS.same s _ _ a) (b.keep (TS.same s)) (s _ _ c) (d.keep s)
theorem LS.app {K : PySem.W.Frag} {H : Hp} {us : List V} {m : List (T × List Str)} (k : LS K H us m) : ∀ {vs : List V} {l : List (T × List Str)}, LS K H vs l → LS K H (vs ++ us) (l ++ m)
  | _, _, .nil => k
  | _, _, .cons a b c d => .cons a b c (LS.app k d)
theorem LS.len {K : PySem.W.Frag} {H : Hp} : ∀ {vs : List V} {l : List (T × List Str)}, LS K H vs l → vs.length = l.length
  | _, _, .nil => rfl
  | _, _, .cons _ _ _ d => congrArg (· + 1) d.len
theorem ls_at {K : PySem.W.Frag} {H : Hp} : ∀ (vs : List V) (l : List (T × List Str)) (i : Nat) (x : V), LS K H vs l → vs[i]? = some x → ∃ q b v t ns, x = .ref q ∧ SqT K H q [v, .ref b] ∧ Tp K H v t ∧ H b = some (.lst (ns.map V.str)) ∧ l[i]? = some (t, ns)
  | _, _, 0, _, .cons a b c d, h => ⟨_, _, _, _, _, (Option.some.inj h).symm, a, b, c, rfl⟩
  | _, _, i + 1, _, .cons a b c d, h => ls_at _ _ i _ d h
/-- as LS, and none of the lists of names is D -/
inductive LD (K : PySem.W.Frag) (D : Addr) (H : Hp) : List V → List (T × List Str) → Prop
  | nil : LD K D H [] []
  | cons {q b : Addr} {v : V} {t : T} {ns : List Str} {vs : List V} {l : List (T × List Str)} : b ≠ D → SqT K H q [v, .ref b] → Tp K H v t → H b = some (.lst (ns.map V.str)) → LD K D H vs l → LD K D H (.ref q :: vs) ((t, ns) :: l)
theorem LD.ls {K : PySem.W.Frag} {D : Addr} {H : Hp} : ∀ {vs : List V} {l : List (T × List Str)}, LD K D H vs l → LS K H vs l
  | _, _, .nil => .nil
  | _, _, .cons _ a b c d => .cons a b c d.ls
theorem LD.keep {K : PySem.W.Frag} {D : Addr} {H H' : Hp} (f : Fr [D] H H') (s : TS K H H') : ∀ {vs : List V} {l : List (T × List Str)}, LD K D H vs l → LD K D H' vs l
  | _, _, .nil => .nil
  | _, _, .cons n a b c d => .cons n (s _ _ a) (b.keep s) (f _ _ (by simpa using n) c) (d.keep f s)
theorem LD.app {K : PySem.W.Frag} {D : Addr} {H : Hp} {us : List V} {m : List (T × List Str)} (k : LD K D H us m) : ∀ {vs : List V} {l : List (T × List Str)}, LD K D H vs l → LD K D H (vs ++ us) (l ++ m)
  | _, _, .nil => k
  | _, _, .cons n a b c d => .cons n a b c (LD.app k d)
theorem each_deepPs (ns : List Str) : ∀ ps : Ps, ∀ p ∈ ps.subs ns, deep p.1 ≤ deepPs ps
  | .nil, p, h => by cases h
  | .cons x e r, p, h => by
    show deep p.1 ≤ max (deep e) (deepPs r)
    rcases List.mem_cons.mp h with rfl | h
    · exact Nat.le_max_left _ _
    · have := each_deepPs ns r p h
      omega
theorem each_deepBs : ∀ bs : Bs, ∀ p ∈ bs.subs, deep p.1 ≤ deepBs bs
  | .nil, p, h => by cases h
  | .cons c ys e r, p, h => by
    show deep p.1 ≤ max (deep e) (deepBs r)
    rcases List.mem_cons.mp h with rfl | h
    · exact Nat.le_max_left _ _
    · have := each_deepBs r p h
      omega
theorem each_deep (t : T) : ∀ p ∈ wn t, deep p.1 + 1 ≤ deep t := by
  intro p hp
  cases t with
  | num n => cases hp
  | nam x => cases hp
  | fn x e =>
    cases List.mem_singleton.mp hp
    show deep e + 1 ≤ 1 + deep e
    omega
  | two w x y => cases hp
  | lt w x e b =>
    unfold wn at hp
    rcases List.mem_cons.mp hp with rfl | hp
    · show deep e + 1 ≤ 1 + max (deep e) (deep b)
      omega
    · cases List.mem_singleton.mp hp
      show deep b + 1 ≤ 1 + max (deep e) (deep b)
      omega
  | all ps b =>
    unfold wn at hp
    rcases List.mem_append.mp hp with hp | hp
    · have := each_deepPs _ ps p hp
      show deep p.1 + 1 ≤ 1 + max (deepPs ps) (deep b)
      omega
    · cases List.mem_singleton.mp hp
      show deep b + 1 ≤ 1 + max (deepPs ps) (deep b)
      omega
  | mk c xs => cases hp
  | by_ x bs =>
    have := each_deepBs bs p hp
    show deep p.1 + 1 ≤ 1 + deepBs bs
    omega
theorem nmd_few (t : T) : (nmd t).length + 2 * sizes (wn t) ≤ 2 * size t := by
  have h := sizes_wn t
  cases t with
  | num n => show 0 + 2 * sizes (wn (.num n)) ≤ _; omega
  | nam x => show 1 + 2 * sizes (wn (.nam x)) ≤ _; omega
  | fn x e => show 0 + 2 * sizes (wn (.fn x e)) ≤ _; omega
  | two w x y => show 2 + 2 * sizes (wn (.two w x y)) ≤ _; omega
  | lt w x e b => show 0 + 2 * sizes (wn (.lt w x e b)) ≤ _; omega
  | all ps b => show 0 + 2 * sizes (wn (.all ps b)) ≤ _; omega
  | mk c xs => show xs.length + 2 * 0 ≤ 2 * (1 + xs.length); omega
  | by_ x bs => show 1 + 2 * sizes (wn (.by_ x bs)) ≤ _; omega
theorem go_cut {t : TS} {nx : L2.St → Hp → Prop} {rt : VK} {bk ct : L2.St → Hp → Prop} {σ : L2.St} {H : Hp} (Z : L2.St → Hp → Prop) (h : ∀ Nx : L2.St → Hp → Prop, (∀ τ H2, Z τ H2 → Nx τ H2) → t ⟨Nx, rt, bk, ct⟩ σ H)
    (k : ∀ τ H2, Z τ H2 → nx τ H2) : t ⟨nx, rt, bk, ct⟩ σ H := h nx k
def w3 : List Str := ["name", "call", "sum", "minus", "less", "same"]
def Od (K : PySem.W.Frag) (H : Hp) (t : T) (wd : Str) (rest : List V) : Prop :=
  (wd = "num" ∧ nmd t = [] ∧ wn t = []) ∨ (wd = "made" ∧ ∃ x q xs, rest = [x, .ref q] ∧ SqT K H q (xs.map V.str) ∧ nmd t = xs ∧ wn t = []) ∨
  (wd = "by" ∧ ∃ x q vs bs, rest = [.str x, .ref q] ∧ SqT K H q vs ∧ BsP K H vs bs ∧ nmd t = [x] ∧ wn t = bs.subs) ∨
  (wd = "fun" ∧ ∃ x v e, rest = [.str x, v] ∧ Tp K H v e ∧ nmd t = [] ∧ wn t = [(e, [x])]) ∨
  ((wd = "let" ∨ wd = "now") ∧ ∃ x v u e b, rest = [.str x, v, u] ∧ Tp K H v e ∧ Tp K H u b ∧ nmd t = [] ∧ wn t = [(e, []), (b, [x])]) ∨
  (wd = "letall" ∧ ∃ q vs u ps b, rest = [.ref q, u] ∧ SqT K H q vs ∧ PsP K H vs ps ∧ Tp K H u b ∧ nmd t = [] ∧ wn t = ps.subs ps.names ++ [(b, ps.names)]) ∨
  (wd ∈ w3 ∧ ∃ xs, rest = xs.map V.str ∧ nmd t = xs ∧ wn t = [] ∧ 0 < xs.length)
theorem od_of {K : PySem.W.Frag} {H : Hp} {v : V} {t : T} (h : Tp K H v t) : ∃ a wd rest, v = .ref a ∧ SqT K H a (.str wd :: rest) ∧ Od K H t wd rest := by
  cases h with
  | num h => exact ⟨_, _, _, rfl, h, .inl ⟨rfl, rfl, rfl⟩⟩
  | nam h => exact ⟨_, _, _, rfl, h, .inr (.inr (.inr (.inr (.inr (.inr ⟨by decide, [_], rfl, rfl, rfl, Nat.zero_lt_one⟩)))))⟩
  | fn h e => exact ⟨_, _, _, rfl, h, .inr (.inr (.inr (.inl ⟨rfl, _, _, _, rfl, e, rfl, rfl⟩)))⟩
  | two w h =>
    have w2 : ∀ x ∈ twos, x ∈ w3 := by decide
    exact ⟨_, _, _, rfl, h, .inr (.inr (.inr (.inr (.inr (.inr ⟨w2 _ w, [_, _], rfl, rfl, rfl, Nat.zero_lt_succ _⟩)))))⟩
  | lt w h e b => exact ⟨_, _, _, rfl, h, .inr (.inr (.inr (.inr (.inl ⟨w, _, _, _, _, _, rfl, e, b, rfl, rfl⟩))))⟩
  | all h q ps b => exact ⟨_, _, _, rfl, h, .inr (.inr (.inr (.inr (.inr (.inl ⟨rfl, _, _, _, _, _, rfl, q, ps, b, rfl, rfl⟩)))))⟩
  | mk h q => exact ⟨_, _, _, rfl, h, .inr (.inl ⟨rfl, _, _, _, rfl, q, rfl, rfl⟩)⟩
  | by_ h q bs => exact ⟨_, _, _, rfl, h, .inr (.inr (.inl ⟨rfl, _, _, _, _, rfl, q, bs, rfl, rfl⟩))⟩
theorem od_num {K : PySem.W.Frag} {H : Hp} {t : T} {rest : List V} (h : Od K H t "num" rest) : nmd t = [] ∧ wn t = [] := by
  rcases h with h | h | h | h | h | h | h
  · exact h.2
  · exact absurd h.1 (by decide)
  · exact absurd h.1 (by decide)
  · exact absurd h.1 (by decide)
  · exact absurd h.1 (by decide)
  · exact absurd h.1 (by decide)
  · exact absurd h.1 (by decide)
theorem cut1n (x : V) (r : List V) : cutV (x :: r) (some 1) none = r := by
  unfold cutV
  have e1 : HT.sIx (x :: r).length 0 (some 1) = 1 := by
    rw [show ((1 : Int)) = ((1 : Nat) : Int) from rfl, HT.sIx_nat, List.length_cons]
    omega
  have e2 : HT.sIx (x :: r).length (x :: r).length none = r.length + 1 := rfl
  rw [e1, e2]
  show r.take (r.length + 1 - 1) = r
  exact List.take_of_length_le (by omega)
theorem no_if {x y : Str} {A B : Prop} (h : x ≠ y) (b : B) : if decide (V.str x = V.str y) = true then A else B := (if_neg (fun z => h (V.str.inj (of_decide_eq_true z)))).mpr b
theorem yes_if {x : Str} {A B : Prop} (a : A) : if decide (V.str x = V.str x) = true then A else B := (if_pos (decide_eq_true rfl)).mpr a
/-- told: a new list of the names that are free in the term and not bound -/
def spOpen (K : PySem.W.Frag) (n : Nat) : Sp := fun vs H Q _ => ∃ (v : V) (bq : Addr) (t : T) (bs : List Str), vs = [v, .ref bq] ∧ Tp K H v t ∧ deep t ≤ n ∧ H bq = some (.lst (bs.map V.str)) ∧ bs.length + size t ≤ 100000 ∧
  ∀ (l : Addr) (res : List Str) (H' : Hp), Same H H' → H' l = some (.lst (res.map V.str)) → (∀ k, k ∈ res ↔ Free k t ∧ k ∉ bs) → res.length ≤ 2 * size t → Q (.ref l) H'
def spOpenLt (K : PySem.W.Frag) : Nat → Sp
  | 0 => fun _ _ _ _ => False
  | n + 1 => spOpen K n
section
variable {P : Program} {w : World} {K : PySem.W.Frag} {mg : Str → Option Value} {base : Heap}
theorem ok_open {f : Addr} {fd : FuncData} (F : Fun K "_law_open" "_law_open" sOpen f fd) {n k : Nat} (gO : mg "_law_open" = some (.ref f)) (kO : PySem.W.keepIn K (.ref f) = true) (bO : Binds K fd ["term", "bound"] [])
    (mList : mg "list" = none) (G : FnOk P w K mg base CX0 k f fd ["term", "bound"] (spOpenLt K n)) : FnOk P w K mg base CX0 (k + 1) f fd ["term", "bound"] (spOpen K n) := by
  refine F.ok scOpen (fun vs H Q E h => ?_) (fun cdv A outer s H vs Q E hr h => ?_)
  · obtain ⟨v, bq, t, bs, rfl, _⟩ := h
    rfl
  · obtain ⟨v, bq, t, bs, rfl, hT, hd, hb, few, q⟩ := h
    refine ⟨_, (pss_cons (ps_set (i := 2) scOpen.nd rfl (.inl rfl) (pe_ix ix_tup (pv 0) pe_int (fun _ _ => rfl))) (pss_cons (ps_if (pt_cmpR op_eq (pv 2) pe_str (nomark _)) (pss_one (ps_ret (pe_lst pa_nil))) pss_nil) (pss_cons (ps_set (i := 3) scOpen.nd rfl (.inl rfl) (pe_lst pa_nil)) (pss_cons (ps_set (i := 4) scOpen.nd rfl (.inl rfl) (pe_lst pa_nil)) (pss_cons (ps_if (pt_cmpR op_eq (pv 2) pe_str (nomark _)) (pss_one (ps_set (i := 3) scOpen.nd rfl (.inl rfl) (pe_callTy call_list_of (by rfl) mList (by decide +kernel) (pa_cons (pe_ix ix_tup (pv 0) pe_int (fun _ _ => rfl)) pa_nil)))) (pss_one (ps_if (pt_cmpR op_eq (pv 2) pe_str (nomark _)) (pss_cons (ps_set (i := 3) scOpen.nd rfl (.inl rfl) (pe_lst (pa_cons (pe_ix ix_tup (pv 0) pe_int (fun _ _ => rfl)) pa_nil))) (pss_one (ps_setLc (i := 4) (own := [("row", 8)]) (g := gName 8) (tt := tYes) (te := tTup (tCons (tOp (rIxT K) (tVar 8) (tC (.int 2))) (tCons (tCB (fun xs H Q => ∃ p ys, xs = [.ref p] ∧ (SqL K H p ys ∨ SqT K H p ys) ∧ ∀ l, H l = none → Q (.ref l) (upd H l (.lst ys))) (tCons (tOp (rIxT K) (tVar 8) (tC (.int 1))) tNil)) tNil))) rfl scOpen.nd rfl rfl (sw_true rfl rfl rfl (by decide +kernel)) (pi_tup (pe_ix ix_tup (pv 0) pe_int (fun _ _ => rfl))) (blkOk_by (N := NO) (sc := defScope sOpen) (by decide +kernel)) (fun _ _ _ _ _ => pg_name (i := 8) scOpen.nd rfl (Or.inl rfl)) (fun _ _ _ _ _ => pts_nil) (fun _ _ _ _ _ => (pe_tup (pa_cons (pe_ix ix_tup (pv 8) pe_int (fun _ _ => rfl)) (pa_cons (pe_callTy call_list_of (by rfl) mList (by decide +kernel) (pa_cons (pe_ix ix_tup (pv 8) pe_int (fun _ _ => rfl)) pa_nil)) pa_nil))))))) (pss_one (ps_if (pt_cmpR op_eq (pv 2) pe_str (nomark _)) (pss_one (ps_set (i := 4) scOpen.nd rfl (.inl rfl) (pe_lst (pa_cons (pe_tup (pa_cons (pe_ix ix_tup (pv 0) pe_int (fun _ _ => rfl)) (pa_cons (pe_lst (pa_cons (pe_ix ix_tup (pv 0) pe_int (fun _ _ => rfl)) pa_nil)) pa_nil))) pa_nil)))) (pss_one (ps_if (pt_cmpR op_in_seq (pv 2) (pe_lst (pa_cons pe_str (pa_cons pe_str pa_nil))) rfl) (pss_one (ps_set (i := 4) scOpen.nd rfl (.inl rfl) (pe_lst (pa_cons (pe_tup (pa_cons (pe_ix ix_tup (pv 0) pe_int (fun _ _ => rfl)) (pa_cons (pe_lst pa_nil) pa_nil))) (pa_cons (pe_tup (pa_cons (pe_ix ix_tup (pv 0) pe_int (fun _ _ => rfl)) (pa_cons (pe_lst (pa_cons (pe_ix ix_tup (pv 0) pe_int (fun _ _ => rfl)) pa_nil)) pa_nil))) pa_nil))))) (pss_one (ps_if (pt_cmpR op_eq (pv 2) pe_str (nomark _)) (pss_cons (ps_set (i := 5) scOpen.nd rfl (.inr rfl) (pe_lc (own := [("pair", 9)]) (g := gName 9) (tt := tYes) (te := tOp (rIxT K) (tVar 9) (tC (.int 0))) rfl scOpen.nd (pi_tup (pe_ix ix_tup (pv 0) pe_int (fun _ _ => rfl))) (blkOk_by (N := NO) (sc := defScope sOpen) (by decide +kernel)) (fun _ _ _ _ _ => pg_name (i := 9) scOpen.nd rfl (Or.inl rfl)) (fun _ _ _ _ _ => pts_nil) (fun _ _ _ _ _ => (pe_ix ix_tup (pv 9) pe_int (fun _ _ => rfl))))) (pss_one (ps_set (i := 4) scOpen.nd rfl (.inl rfl) (pe_op op_cat (pe_lc (own := [("pair", 9)]) (g := gName 9) (tt := tYes) (te := tTup (tCons (tOp (rIxT K) (tVar 9) (tC (.int 1))) (tCons (tVar 5) tNil))) rfl scOpen.nd (pi_tup (pe_ix ix_tup (pv 0) pe_int (fun _ _ => rfl))) (blkOk_by (N := NO) (sc := defScope sOpen) (by decide +kernel)) (fun _ _ _ _ _ => pg_name (i := 9) scOpen.nd rfl (Or.inl rfl)) (fun _ _ _ _ _ => pts_nil) (fun _ _ _ _ _ => (pe_tup (pa_cons (pe_ix ix_tup (pv 9) pe_int (fun _ _ => rfl)) (pa_cons (pv 5) pa_nil))))) (pe_lst (pa_cons (pe_tup (pa_cons (pe_ix ix_tup (pv 0) pe_int (fun _ _ => rfl)) (pa_cons (pv 5) pa_nil))) pa_nil)))))) (pss_one (ps_set (i := 3) scOpen.nd rfl (.inl rfl) (pe_callTy call_list_of (by rfl) mList (by decide +kernel) (pa_cons (pe_slice sl_tup (pv 0) (po_some pe_int) po_none) pa_nil))))))))))))) (pss_cons (ps_setLc (i := 3) (own := [("name", 10)]) (g := gName 10) (tt := tTest (tOp (rIn K true) (tVar 10) (tVar 1))) rfl scOpen.nd rfl rfl (sw_true rfl rfl rfl (by decide +kernel)) (pi_list (pv 3)) (blkOk_by (N := NO) (sc := defScope sOpen) (by decide +kernel)) (fun _ _ _ _ _ => pg_name (i := 10) scOpen.nd rfl (Or.inl rfl)) (fun _ _ _ _ _ => pts_one (pt_cmpR op_notIn_seq (pv 10) (pv 1) rfl)) (fun _ _ _ _ _ => pv 10)) (pss_cons (ps_for PassesOwn.never rfl (pi_list (pv 4)) (pg_tup rfl (pgs_cons (pg_name (i := 6) scOpen.nd rfl (.inl rfl)) (pgs_cons (pg_name (i := 7) scOpen.nd rfl (.inl rfl)) pgs_nil))) (pss_one (ps_set (i := 3) scOpen.nd rfl (.inl rfl) (pe_op op_cat (pv 3) (pe_call G hr (by rfl) gO kO bO .nil pass0 (pa_cons (pv 6) (pa_cons (pe_op op_cat (pv 1) (pv 7)) pa_nil))))))) (pss_one (ps_ret (pv 3)))))))))), ?_⟩
    have line := line_ge
    obtain ⟨a, wd, rest, rfl, hS, od⟩ := od_of hT
    refine ⟨_, rfl, a, _, _, _, rfl, rfl, hS, atI_nat (j := 0) rfl, ?_⟩
    refine ⟨_, rfl, rfl, _, rfl, ?_⟩
    refine ite2 (fun e => ?_) (fun e0 => ?_)
    · have ew : wd = "num" := V.str.inj (of_decide_eq_true e)
      subst ew
      obtain ⟨en, ew⟩ := od_num od
      refine ⟨by show 0 ≤ sizeLine; decide, fun l nl => q l [] _ (same_upd nl) upd_same (fun k => ⟨(fun z => by cases z), fun z => ?_⟩) (Nat.zero_le _)⟩
      rcases (free_iff k t).mp z.1 with z | ⟨p, hp, _⟩
      · rw [en] at z
        cases z
      · rw [ew] at hp
        cases hp
    refine ⟨by show 0 ≤ sizeLine; decide, fun fo nfo => ⟨by show 0 ≤ sizeLine; decide, fun io nio => ?_⟩⟩
    have sm1 := (same_upd (o := .lst ([] : List V)) nfo).trans (same_upd (o := .lst ([] : List V)) nio)
    have eF1 : (upd (upd H fo (.lst ([] : List V))) io (.lst ([] : List V))) fo = some (.lst (([] : List Str).map V.str)) := (same_upd (o := .lst ([] : List V)) nio) _ _ upd_same
    have eI1 : (upd (upd H fo (.lst ([] : List V))) io (.lst ([] : List V))) io = some (.lst ([] : List V)) := upd_same
    generalize upd (upd H fo (.lst ([] : List V))) io (.lst ([] : List V)) = H1 at sm1 eF1 eI1 ⊢
    refine go_name ?_
    dsimp only
    refine go_seq ?_
    refine go_cut (fun τ H2 => ∃ (fo io : Addr) (es : List V) (v5 : Option V), τ = [some (.ref a), some (.ref bq), some (.str wd), some (.ref fo), some (.ref io), v5, none, none, none, none, none] ∧ Same H H2 ∧ H2 fo = some (.lst ((nmd t).map V.str)) ∧ H2 io = some (.lst es) ∧ LS K H2 es (wn t)) (fun Nx kk => ?_) ?_
    · have odq := od
      rcases od with ⟨rfl, _⟩ | ⟨rfl, x, z, xs, rfl, hz, en, ew⟩ | ⟨rfl, x, z, vs, bb, rfl, hz, hbs, en, ew⟩ | ⟨rfl, x, u, e1, rfl, he1, en, ew⟩ | ⟨hlt, x, u1, u2, e1, e2, rfl, he1, he2, en, ew⟩ | ⟨rfl, z, vs, u, ps, e2, rfl, hz, hps, he2, en, ew⟩ | ⟨hw3, xs, rfl, en, ew, pos⟩
      · exact absurd (decide_eq_true rfl) e0
      · -- made
        refine ⟨_, rfl, rfl, _, rfl, yes_if ?_⟩
        refine ⟨_, rfl, a, _, _, _, rfl, rfl, TS.same sm1 _ _ hS, atI_nat (j := 2) rfl, z, _, rfl, .inr (TS.same sm1 _ _ hz), fun l nl => ?_⟩
        have s2 := same_upd (o := .lst (xs.map V.str)) nl
        exact kk _ _ ⟨l, io, [], _, rfl, sm1.trans s2, by rw [en]; exact upd_same, s2 _ _ eI1, by rw [ew]; exact .nil⟩
      · -- by
        refine ⟨_, rfl, rfl, _, rfl, no_if (by decide) ?_⟩
        refine ⟨_, rfl, rfl, _, rfl, yes_if ?_⟩
        refine ⟨_, rfl, a, _, _, _, rfl, rfl, TS.same sm1 _ _ hS, atI_nat (j := 1) rfl, by show 1 ≤ sizeLine; decide, fun l nl => ?_⟩
        have s2 := same_upd (o := .lst [V.str x]) nl
        have eL2 : (upd H1 l (.lst [V.str x])) l = some (.lst [V.str x]) := upd_same
        generalize upd H1 l (.lst [V.str x]) = H2 at s2 eL2 ⊢
        have s02 := sm1.trans s2
        refine ⟨_, rfl, a, _, _, _, rfl, rfl, TS.same s02 _ _ hS, atI_nat (j := 2) rfl, z, rfl, ⟨_, TS.same s02 _ _ hz⟩, fun D nD => lc_tup (K := K) (a := z) (xs := vs) (fun i H' => Same H2 H' ∧ ∃ acc, H' D = some (.lst acc) ∧ acc.length = i ∧ LD K D H' acc (bb.subs.take i)) ⟨same_upd nD, [], upd_same, rfl, .nil⟩ (fun i H' _ r => TS.same (s02.trans r.1) _ _ hz) ?_ ?_⟩
        · rintro i x0 H3 hx ⟨s3, acc, eD, la, ls⟩
          obtain ⟨q', c, z', ys, v', e', rfl, hq, hz', he, hn⟩ := bs_at _ _ i x0 hbs hx
          have hi : i < vs.length := (List.getElem?_eq_some_iff.mp hx).1
          have hvs : vs.length ≤ 100000 := by
            have h1 := len_sizes (wn t)
            have h2 := sizes_wn t
            have h3 : (wn t).length = vs.length := by rw [ew]; exact hbs.lenS
            omega
          refine ⟨rfl, ?_⟩
          unfold tYes
          refine iteT ?_
          have t3 := TS.same (K := K) (s02.trans s3)
          refine ⟨_, rfl, q', _, _, _, rfl, rfl, t3 _ _ hq, atI_nat (j := 2) rfl, _, rfl, q', _, _, _, rfl, rfl, t3 _ _ hq, atI_nat (j := 1) rfl, z', _, rfl, .inr (t3 _ _ hz'), fun nl2 nnl2 => ⟨by show 2 ≤ sizeLine; decide, fun p np => ?_⟩⟩
          have k1 := same_upd (o := .lst (ys.map V.str)) nnl2
          have k2 := same_upd (o := .tup [v', .ref nl2]) np
          have k12 := k1.trans k2
          have eD4 := k12 _ _ eD
          have ne : D ≠ p := ne_of_none (k1 _ _ eD) np
          have ne2 : D ≠ nl2 := ne_of_none eD nnl2
          have k3 : Same H2 (upd (upd (upd H3 nl2 (.lst (ys.map V.str))) p (.tup [v', .ref nl2])) D (.lst (acc ++ [.ref p]))) := same_set (s3.trans k12) nD
          have e1 : (upd (upd (upd H3 nl2 (.lst (ys.map V.str))) p (.tup [v', .ref nl2])) D (.lst (acc ++ [.ref p]))) p = some (.tup [v', .ref nl2]) := by rw [upd_ne ne.symm]; exact upd_same
          have e2 : (upd (upd (upd H3 nl2 (.lst (ys.map V.str))) p (.tup [v', .ref nl2])) D (.lst (acc ++ [.ref p]))) nl2 = some (.lst (ys.map V.str)) := by rw [upd_ne ne2.symm]; exact k2 _ _ upd_same
          refine ⟨acc, eD4, by omega, k3, _, upd_same, by rw [List.length_append, la]; rfl, ?_⟩
          rw [take_snoc hn]
          exact LD.app (us := [.ref p]) (.cons (b := nl2) ne2.symm (SqT.of e1) (he.keep (TS.same (s02.trans k3))) e2 .nil) (ls.keep ((Fr.same k12).trans (Fr.set (by simp))) ((TS.same k12).trans (TS.set eD4 (fun _ z => by cases z) (fun _ _ z => by cases z))))
        · rintro H3 ⟨s3, acc, eD, la, ls⟩
          rw [← hbs.lenS, List.take_of_length_le (Nat.le_refl _)] at ls
          exact kk _ _ ⟨l, D, acc, _, rfl, s02.trans s3, by rw [en]; exact s3 _ _ eL2, eD, by rw [ew]; exact ls.ls⟩
      · -- fun
        refine ⟨_, rfl, rfl, _, rfl, no_if (by decide) ?_⟩
        refine ⟨_, rfl, rfl, _, rfl, no_if (by decide) ?_⟩
        refine ⟨_, rfl, rfl, _, rfl, yes_if ?_⟩
        refine ⟨_, rfl, a, _, _, _, rfl, rfl, TS.same sm1 _ _ hS, atI_nat (j := 2) rfl, _, rfl, a, _, _, _, rfl, rfl, TS.same sm1 _ _ hS, atI_nat (j := 1) rfl, by show 1 ≤ sizeLine; decide, fun l nl => ⟨by show 2 ≤ sizeLine; decide, fun p np => ⟨by show 1 ≤ sizeLine; decide, fun o no => ?_⟩⟩⟩
        have k1 := same_upd (o := .lst [V.str x]) nl
        have k2 := same_upd (o := .tup [u, .ref l]) np
        have k3 := same_upd (o := .lst [V.ref p]) no
        have k13 := k1.trans (k2.trans k3)
        exact kk _ _ ⟨fo, o, [.ref p], _, rfl, sm1.trans k13, by rw [en]; exact k13 _ _ eF1, upd_same, by rw [ew]; exact .cons (b := l) (SqT.of (k3 _ _ upd_same)) (he1.keep (TS.same (sm1.trans k13))) (k3 _ _ (k2 _ _ upd_same)) .nil⟩
      · -- let, now
        have nm : wd ≠ "made" := by rcases hlt with rfl | rfl <;> decide
        have nb' : wd ≠ "by" := by rcases hlt with rfl | rfl <;> decide
        have nf : wd ≠ "fun" := by rcases hlt with rfl | rfl <;> decide
        have hin : inV (.str wd) [V.str "let", V.str "now"] = true := by rcases hlt with rfl | rfl <;> decide +kernel
        refine ⟨_, rfl, rfl, _, rfl, no_if nm ?_⟩
        refine ⟨_, rfl, rfl, _, rfl, no_if nb' ?_⟩
        refine ⟨_, rfl, rfl, _, rfl, no_if nf ?_⟩
        refine ⟨_, rfl, by show 2 ≤ sizeLine; decide, fun nb nnb => ⟨nb, _, rfl, .inl (SqL.of upd_same), rfl, rfl, _, rfl, (if_pos hin).mpr ?_⟩⟩
        have s1 := same_upd (o := .lst [V.str "let", V.str "now"]) nnb
        have s2 := sm1.trans s1
        have eF2 := s1 _ _ eF1
        generalize upd H1 nb (.lst [V.str "let", V.str "now"]) = H2 at s1 s2 eF2 ⊢
        refine ⟨_, rfl, a, _, _, _, rfl, rfl, TS.same s2 _ _ hS, atI_nat (j := 2) rfl, by show 0 ≤ sizeLine; decide, fun l nl => ⟨by show 2 ≤ sizeLine; decide, fun p np => ?_⟩⟩
        have k1 := same_upd (o := .lst ([] : List V)) nl
        have k2 := same_upd (o := .tup [u1, .ref l]) np
        have s3 := s2.trans (k1.trans k2)
        refine ⟨_, rfl, a, _, _, _, rfl, rfl, TS.same s3 _ _ hS, atI_nat (j := 3) rfl, _, rfl, a, _, _, _, rfl, rfl, TS.same s3 _ _ hS, atI_nat (j := 1) rfl, by show 1 ≤ sizeLine; decide, fun l2 nl2 => ⟨by show 2 ≤ sizeLine; decide, fun p2 np2 => ⟨by show 2 ≤ sizeLine; decide, fun o no => ?_⟩⟩⟩
        have k3 := same_upd (o := .lst [V.str x]) nl2
        have k4 := same_upd (o := .tup [u2, .ref l2]) np2
        have k5 := same_upd (o := .lst [V.ref p, V.ref p2]) no
        have k35 := k3.trans (k4.trans k5)
        have k15 := (k1.trans k2).trans k35
        have s5 := s2.trans k15
        exact kk _ _ ⟨fo, o, [.ref p, .ref p2], _, rfl, s5, by rw [en]; exact k15 _ _ eF2, upd_same, by rw [ew]; exact .cons (b := l) (ns := []) (SqT.of (k35 _ _ upd_same)) (he1.keep (TS.same s5)) (k35 _ _ (k2 _ _ upd_same)) (.cons (b := l2) (SqT.of (k5 _ _ upd_same)) (he2.keep (TS.same s5)) (k5 _ _ (k4 _ _ upd_same)) .nil)⟩
      · -- letall
        refine ⟨_, rfl, rfl, _, rfl, no_if (by decide) ?_⟩
        refine ⟨_, rfl, rfl, _, rfl, no_if (by decide) ?_⟩
        refine ⟨_, rfl, rfl, _, rfl, no_if (by decide) ?_⟩
        refine ⟨_, rfl, by show 2 ≤ sizeLine; decide, fun nb nnb => ⟨nb, _, rfl, .inl (SqL.of upd_same), rfl, rfl, _, rfl, (if_neg (by decide +kernel)).mpr ?_⟩⟩
        have s1 := same_upd (o := .lst [V.str "let", V.str "now"]) nnb
        have s2 := sm1.trans s1
        have eF2 := s1 _ _ eF1
        generalize upd H1 nb (.lst [V.str "let", V.str "now"]) = H2 at s1 s2 eF2 ⊢
        refine ⟨_, rfl, rfl, _, rfl, yes_if ?_⟩
        have hvs : vs.length ≤ 100000 := by
          have h1 := len_sizes (wn t)
          have h2 := sizes_wn t
          have h3 : (wn t).length = vs.length + 1 := by rw [ew, List.length_append, hps.lenS]; rfl
          omega
        refine ⟨_, rfl, a, _, _, _, rfl, rfl, TS.same s2 _ _ hS, atI_nat (j := 1) rfl, z, rfl, ⟨_, TS.same s2 _ _ hz⟩, fun D nD => lc_tup (K := K) (a := z) (xs := vs) (fun i H' => Same H2 H' ∧ H' D = some (.lst ((ps.names.take i).map V.str))) ⟨same_upd nD, upd_same⟩ (fun i H' _ r => TS.same (s2.trans r.1) _ _ hz) ?_ ?_⟩
        · rintro i x0 H3 hx ⟨s3, eD⟩
          obtain ⟨q', nm, v', e', rfl, hq, he, hn, _⟩ := ps_at [] _ _ i x0 hps hx
          have hi : i < vs.length := (List.getElem?_eq_some_iff.mp hx).1
          refine ⟨rfl, ?_⟩
          unfold tYes
          refine iteT ?_
          refine ⟨_, rfl, q', _, _, _, rfl, rfl, TS.same (s2.trans s3) _ _ hq, atI_nat (j := 0) rfl, _, eD, ?_, same_set s3 nD, ?_⟩
          · rw [List.length_map, List.length_take]
            omega
          · rw [upd_same, take_snoc hn, List.map_append]
            rfl
        · rintro H3 ⟨s3, eD⟩
          have ea : ps.names.take vs.length = ps.names := List.take_of_length_le (by rw [hps.len]; exact Nat.le_refl _)
          rw [ea] at eD
          have s03 := s2.trans s3
          refine ⟨_, rfl, a, _, _, _, rfl, rfl, TS.same s03 _ _ hS, atI_nat (j := 1) rfl, z, rfl, ⟨_, TS.same s03 _ _ hz⟩, fun D2 nD2 => lc_tup (K := K) (a := z) (xs := vs) (fun i H' => Same H3 H' ∧ ∃ acc, H' D2 = some (.lst acc) ∧ acc.length = i ∧ LD K D2 H' acc ((ps.subs ps.names).take i)) ⟨same_upd nD2, [], upd_same, rfl, .nil⟩ (fun i H' _ r => TS.same (s03.trans r.1) _ _ hz) ?_ ?_⟩
          · rintro i x0 H4 hx ⟨s4, acc, eD2, la, ls⟩
            obtain ⟨q', nm, v', e', rfl, hq, he, _, hn⟩ := ps_at ps.names _ _ i x0 hps hx
            have hi : i < vs.length := (List.getElem?_eq_some_iff.mp hx).1
            refine ⟨rfl, ?_⟩
            unfold tYes
            refine iteT ?_
            refine ⟨_, rfl, q', _, _, _, rfl, rfl, TS.same (s03.trans s4) _ _ hq, atI_nat (j := 1) rfl, _, rfl, by show 2 ≤ sizeLine; decide, fun p np => ?_⟩
            have k2 := same_upd (o := .tup [v', .ref D]) np
            have ne : D2 ≠ p := ne_of_none eD2 np
            have k3 : Same H3 (upd (upd H4 p (.tup [v', .ref D])) D2 (.lst (acc ++ [.ref p]))) := same_set (s4.trans k2) nD2
            have e1 : (upd (upd H4 p (.tup [v', .ref D])) D2 (.lst (acc ++ [.ref p]))) p = some (.tup [v', .ref D]) := by rw [upd_ne ne.symm]; exact upd_same
            refine ⟨acc, k2 _ _ eD2, by omega, k3, _, upd_same, by rw [List.length_append, la]; rfl, ?_⟩
            rw [take_snoc hn]
            exact LD.app (us := [.ref p]) (.cons (b := D) (ne_of_none eD nD2) (SqT.of e1) (he.keep (TS.same (s03.trans k3))) (k3 _ _ eD) .nil) (ls.keep ((Fr.same k2).trans (Fr.set (by simp))) ((TS.same k2).trans (TS.set (k2 _ _ eD2) (fun _ z => by cases z) (fun _ _ z => by cases z))))
          · rintro H4 ⟨s4, acc, eD2, la, ls⟩
            rw [← hps.lenS ps.names, List.take_of_length_le (Nat.le_refl _)] at ls
            have s04 := s03.trans s4
            refine ⟨_, rfl, a, _, _, _, rfl, rfl, TS.same s04 _ _ hS, atI_nat (j := 2) rfl, _, rfl, by show 2 ≤ sizeLine; decide, fun p np => ⟨by show 1 ≤ sizeLine; decide, fun o no => ?_⟩⟩
            have k1 := same_upd (o := .tup [u, .ref D]) np
            have k2 := same_upd (o := .lst [V.ref p]) no
            refine ⟨D2, o, acc, _, rfl, rfl, (k1.trans k2) _ _ eD2, upd_same, by rw [la]; show vs.length + 1 ≤ sizeLine; omega, fun l nl => ?_⟩
            have k3 := same_upd (o := .lst (acc ++ [V.ref p])) nl
            have k13 := k1.trans (k2.trans k3)
            exact kk _ _ ⟨fo, l, acc ++ [.ref p], _, rfl, s04.trans k13, by rw [en]; exact (s3.trans (s4.trans k13)) _ _ eF2, upd_same, by
              rw [ew]
              exact LS.app (us := [.ref p]) (.cons (b := D) (SqT.of ((k2.trans k3) _ _ upd_same)) (he2.keep (TS.same (s04.trans k13))) ((s4.trans k13) _ _ eD) .nil) (ls.ls.keep k13)⟩
      · -- the rest
        have nm : wd ≠ "made" := fun z => by subst z; revert hw3; decide
        have nb' : wd ≠ "by" := fun z => by subst z; revert hw3; decide
        have nf : wd ≠ "fun" := fun z => by subst z; revert hw3; decide
        have na : wd ≠ "letall" := fun z => by subst z; revert hw3; decide
        have hin : inV (.str wd) [V.str "let", V.str "now"] = false := by
          have h := in_strs wd ["let", "now"]
          rw [show ([V.str "let", V.str "now"] : List V) = (["let", "now"] : List Str).map V.str from rfl, h]
          refine decide_eq_false fun z => ?_
          rcases List.mem_cons.mp z with rfl | z
          · revert hw3
            decide
          · cases List.mem_singleton.mp z
            revert hw3
            decide
        refine ⟨_, rfl, rfl, _, rfl, no_if nm ?_⟩
        refine ⟨_, rfl, rfl, _, rfl, no_if nb' ?_⟩
        refine ⟨_, rfl, rfl, _, rfl, no_if nf ?_⟩
        refine ⟨_, rfl, by show 2 ≤ sizeLine; decide, fun nb nnb => ⟨nb, _, rfl, .inl (SqL.of upd_same), rfl, rfl, _, rfl, (if_neg (by rw [hin]; decide)).mpr ?_⟩⟩
        have s1 := same_upd (o := .lst [V.str "let", V.str "now"]) nnb
        have s2 := sm1.trans s1
        have eI2 := s1 _ _ eI1
        generalize upd H1 nb (.lst [V.str "let", V.str "now"]) = H2 at s1 s2 eI2 ⊢
        refine ⟨_, rfl, rfl, _, rfl, no_if na ?_⟩
        refine ⟨_, rfl, _, rfl, a, _, rfl, TS.same s2 _ _ hS, fun z => absurd z.1 (not0 _ _), fun p np => ?_⟩
        rw [cut1n]
        refine ⟨p, _, rfl, .inr (SqT.of upd_same), fun l nl => ?_⟩
        have k1 := same_upd (o := .tup (xs.map V.str)) np
        have k2 := same_upd (o := .lst (xs.map V.str)) nl
        exact kk _ _ ⟨l, io, [], _, rfl, s2.trans (k1.trans k2), by rw [en]; exact upd_same, (k1.trans k2) _ _ eI2, by rw [ew]; exact .nil⟩
    · rintro τ H2 ⟨fo, io, es, v5, rfl, sm2, eF, eI, ls⟩
      have fewN := nmd_few t
      have sz : size t ≤ 100000 := by omega
      refine ⟨_, rfl, fo, rfl, ⟨_, SqL.of eF⟩, fun D nD => lc_list (K := K) (a := fo) (xs := (nmd t).map V.str) (fun i H' => Same H2 H' ∧ ∃ acc : List Str, H' D = some (.lst (acc.map V.str)) ∧ (∀ k, k ∈ acc ↔ k ∈ (nmd t).take i ∧ k ∉ bs) ∧ acc.length ≤ i) ?_ ?_ ?_ ?_⟩
      · exact ⟨same_upd nD, [], upd_same, (fun k => ⟨(fun z => by cases z), (fun z => by cases z.1)⟩), Nat.le_refl _⟩
      · rintro i H3 _ ⟨s3, _⟩
        exact SqL.of (s3 _ _ eF)
      · rintro i x H3 hx ⟨s3, acc, eD, hk, la⟩
        obtain ⟨nm, hnm, rfl⟩ : ∃ nm, (nmd t)[i]? = some nm ∧ x = V.str nm := by
          rw [List.getElem?_map] at hx
          cases e : (nmd t)[i]? with
          | none =>
            rw [e] at hx
            cases hx
          | some nm =>
            rw [e] at hx
            exact ⟨nm, rfl, (Option.some.inj hx).symm⟩
        have hi : i < (nmd t).length := (List.getElem?_eq_some_iff.mp hnm).1
        refine ⟨rfl, ?_⟩
        refine ⟨_, rfl, _, rfl, bq, _, rfl, .inl (SqL.of (s3 _ _ (sm2 _ _ hb))), rfl, flat_strs _, _, rfl, ?_⟩
        refine ite2 (fun e => ?_) (fun e => ?_)
        · have hn : nm ∉ bs := by
            intro z
            rw [in_strs, decide_eq_true z] at e
            cases e
          refine ⟨_, rfl, _, eD, by rw [List.length_map]; omega, same_set s3 nD, acc ++ [nm], by rw [upd_same, List.map_append]; rfl, fun k => ?_, by rw [List.length_append]; show acc.length + 1 ≤ i + 1; omega⟩
          rw [take_snoc hnm, List.mem_append, List.mem_append, hk, List.mem_singleton]
          constructor
          · rintro (⟨z1, z2⟩ | rfl)
            · exact ⟨.inl z1, z2⟩
            · exact ⟨.inr rfl, hn⟩
          · rintro ⟨z1 | rfl, z2⟩
            · exact .inl ⟨z1, z2⟩
            · exact .inr rfl
        · have hn : nm ∈ bs := by
            by_cases z : nm ∈ bs
            · exact z
            · rw [in_strs, decide_eq_false z] at e
              exact absurd rfl e
          refine ⟨s3, acc, eD, fun k => ?_, by omega⟩
          rw [take_snoc hnm, List.mem_append, hk, List.mem_singleton]
          constructor
          · rintro ⟨z1, z2⟩
            exact ⟨.inl z1, z2⟩
          · rintro ⟨z1 | rfl, z2⟩
            · exact ⟨z1, z2⟩
            · exact absurd hn z2
      · rintro H3 ⟨s3, acc, eD, hk, la⟩
        rw [List.length_map] at la hk
        rw [List.take_of_length_le (Nat.le_refl _)] at hk
        have s3H := sm2.trans s3
        have ls3 := ls.keep s3
        refine ⟨_, rfl, io, rfl, ⟨_, SqL.of (s3 _ _ eI)⟩, for_list (K := K) (a := io) (xs := es) (fun i σ' H' => ∃ (fo' : Addr) (res : List Str) (v6 v7 : Option V), σ' = [some (.ref a), some (.ref bq), some (.str wd), some (.ref fo'), some (.ref io), v5, v6, v7, none, none, none] ∧ Same H3 H' ∧ H' fo' = some (.lst (res.map V.str)) ∧ (∀ k, k ∈ res ↔ (k ∈ nmd t ∧ k ∉ bs) ∨ ∃ p ∈ (wn t).take i, Free k p.1 ∧ k ∉ bs ++ p.2) ∧ res.length ≤ (nmd t).length + 2 * sizes ((wn t).take i)) ?_ ?_ ?_ ?_⟩
        · refine ⟨D, acc, _, _, rfl, Same.refl _, eD, fun k => ?_, by show acc.length ≤ _ + 2 * 0; omega⟩
          rw [hk]
          constructor
          · exact .inl
          · rintro (z | ⟨p, hp, _⟩)
            · exact z
            · cases hp
        · rintro i σ' H' _ ⟨_, _, _, _, _, s4, _⟩
          exact SqL.of (s4 _ _ (s3 _ _ eI))
        · rintro i x σ' H4 hx ⟨fo', res, v6, v7, rfl, s4, eF4, hr4, lr⟩
          obtain ⟨q', b', v', t', ns', rfl, hq', hv', hb', hl'⟩ := ls_at _ _ i x (ls3.keep s4) hx
          have hp := List.mem_of_getElem? hl'
          have hdp : deep t' + 1 ≤ deep t := each_deep t _ hp
          have hwn : ns'.length + size t' + 1 ≤ size t := each_wn t _ hp
          have hsz := sizes_wn t
          have lsz : sizes ((wn t).take (i + 1)) = sizes ((wn t).take i) + size t' := by rw [take_snoc hl', sizes_app, sizes_cons, sizes_nil]; rfl
          have lsz2 : sizes ((wn t).take (i + 1)) + sizes ((wn t).drop (i + 1)) = sizes (wn t) := by rw [← sizes_app, List.take_append_drop]
          cases n with
          | zero => exact absurd hd (by omega)
          | succ m =>
          refine ⟨q', _, rfl, hq', rfl, _, _, rfl, _, _, rfl, rfl, ?_⟩
          refine ⟨_, rfl, _, rfl, _, rfl, _, rfl, bq, b', _, _, rfl, rfl, s4 _ _ (s3H _ _ hb), hb', by rw [List.length_map, List.length_map]; show bs.length + ns'.length ≤ _; omega, fun bl nbl => ?_⟩
          have s5 := same_upd (o := .lst (bs.map V.str ++ ns'.map V.str)) nbl
          refine ⟨v', bl, t', bs ++ ns', rfl, hv'.keep (TS.same s5), by show deep t' ≤ m; omega, by rw [upd_same, List.map_append], by rw [List.length_append]; show bs.length + ns'.length + size t' ≤ _; omega, fun l res' H6 s6 el hk6 hl6 => ?_⟩
          have s46 := s5.trans s6
          refine ⟨fo', l, _, _, rfl, rfl, s46 _ _ eF4, el, by rw [List.length_map, List.length_map]; omega, fun l2 nl2 => ?_⟩
          have s7 := same_upd (o := .lst (res.map V.str ++ res'.map V.str)) nl2
          refine ⟨l2, res ++ res', _, _, rfl, s4.trans (s46.trans s7), by rw [upd_same, List.map_append], fun k => ?_, by rw [List.length_append, lsz]; omega⟩
          rw [List.mem_append, hr4, hk6, take_snoc hl']
          constructor
          · rintro ((z | ⟨p, hp, z⟩) | z)
            · exact .inl z
            · exact .inr ⟨p, List.mem_append.mpr (.inl hp), z⟩
            · exact .inr ⟨(t', ns'), List.mem_append.mpr (.inr (List.mem_singleton.mpr rfl)), z⟩
          · rintro (z | ⟨p, hp, z⟩)
            · exact .inl (.inl z)
            · rcases List.mem_append.mp hp with hp | hp
              · exact .inl (.inr ⟨p, hp, z⟩)
              · rw [List.mem_singleton.mp hp] at z
                exact .inr z
        · rintro σ' H4 ⟨fo', res, v6, v7, rfl, s4, eF4, hr4, lr⟩
          have la2 : es.length = (wn t).length := ls.len
          rw [la2, List.take_of_length_le (Nat.le_refl _)] at hr4 lr
          refine ⟨_, rfl, q fo' res H4 (s3H.trans s4) eF4 (fun k => ?_) (by omega)⟩
          rw [hr4, free_iff]
          constructor
          · rintro (⟨z1, z2⟩ | ⟨p, hp, z1, z2⟩)
            · exact ⟨.inl z1, z2⟩
            · exact ⟨.inr ⟨p, hp, z1, fun z => z2 (List.mem_append.mpr (.inr z))⟩, fun z => z2 (List.mem_append.mpr (.inl z))⟩
          · rintro ⟨z1 | ⟨p, hp, z1, z3⟩, z2⟩
            · exact .inl ⟨z1, z2⟩
            · refine .inr ⟨p, hp, z1, fun z => ?_⟩
              rcases List.mem_append.mp z with z | z
              · exact z2 z
              · exact z3 z
theorem ok_opens {f : Addr} {fd : FuncData} (F : Fun K "_law_open" "_law_open" sOpen f fd) (gO : mg "_law_open" = some (.ref f)) (kO : PySem.W.keepIn K (.ref f) = true) (bO : Binds K fd ["term", "bound"] [])
    (mList : mg "list" = none) : ∀ n : Nat, FnOk P w K mg base CX0 (n + 2) f fd ["term", "bound"] (spOpen K n)
  | 0 => ok_open F gO kO bO mList (n := 0) (ok_nil (k := 0) F scOpen)
  | n + 1 => ok_open F gO kO bO mList (n := n + 1) (ok_opens F gO kO bO mList n)
end
end OwK

set_option Elab.async false
set_option linter.all false
set_option maxRecDepth 100000
set_option maxHeartbeats 8000000
namespace OwK
open PySem PySem.Spec PyProof.Rows L2 Ow OwT
abbrev sInner : Stmt := topS 15
abbrev NI : List Str := ["term", "word", "pair", "row"]
theorem scInner : FnScope NI ["term"] (defScope sInner) := ⟨rfl, rfl, rfl, by decide +kernel, rfl, by decide +kernel, by decide +kernel⟩
inductive TL (K : PySem.W.Frag) (H : Hp) : List V → List T → Prop
  | nil : TL K H [] []
  | cons {v : V} {t : T} {vs : List V} {l : List T} : Tp K H v t → TL K H vs l → TL K H (v :: vs) (t :: l)
theorem TL.keep {K : PySem.W.Frag} {H H' : Hp} (s : TS K H H') : ∀ {vs : List V} {l : List T}, TL K H vs l → TL K H' vs l
  | _, _, .nil => .nil
  | _, _, .cons b d => .cons (b.keep s) (d.keep s)
theorem TL.app {K : PySem.W.Frag} {H : Hp} {us : List V} {m : List T} (k : TL K H us m) : ∀ {vs : List V} {l : List T}, TL K H vs l → TL K H (vs ++ us) (l ++ m)
  | _, _, .nil => k
  | _, _, .cons b d => .cons b (TL.app k d)
theorem TL.len {K : PySem.W.Frag} {H : Hp} : ∀ {vs : List V} {l : List T}, TL K H vs l → vs.length = l.length
  | _, _, .nil => rfl
  | _, _, .cons _ d => congrArg (· + 1) d.len
def fs (l : List (T × List Str)) : List T := l.map (·.1)
theorem fs_snoc {l : List (T × List Str)} {i : Nat} {e : T} {ns : List Str} (h : l[i]? = some (e, ns)) : fs (l.take (i + 1)) = fs (l.take i) ++ [e] := by
  unfold fs
  rw [take_snoc h, List.map_append]
  rfl
theorem cut2n (x y : V) (r : List V) : cutV (x :: y :: r) (some 2) none = r := by
  unfold cutV
  have e1 : HT.sIx (x :: y :: r).length 0 (some 2) = 2 := by
    rw [show ((2 : Int)) = ((2 : Nat) : Int) from rfl, HT.sIx_nat, List.length_cons, List.length_cons]
    omega
  have e2 : HT.sIx (x :: y :: r).length (x :: y :: r).length none = r.length + 2 := rfl
  rw [e1, e2]
  show r.take (r.length + 2 - 2) = r
  exact List.take_of_length_le (by omega)
theorem not02 (x y : V) (r : List V) : HT.sIx (x :: y :: r).length 0 (some 2) ≠ 0 := by
  rw [show ((2 : Int)) = ((2 : Nat) : Int) from rfl, HT.sIx_nat, List.length_cons, List.length_cons]
  omega
/-- told: a new list of the terms right within -/
def spInner (K : PySem.W.Frag) : Sp := fun vs H Q _ => ∃ (v : V) (t : T), vs = [v] ∧ Tp K H v t ∧ size t ≤ 100000 ∧ ∀ (l : Addr) (es : List V) (H' : Hp), Same H H' → H l = none → H' l = some (.lst es) → TL K H' es (fs (wn t)) → Q (.ref l) H'
section
variable {P : Program} {w : World} {K : PySem.W.Frag} {mg : Str → Option Value} {base : Heap}
theorem ok_inner {f : Addr} {fd : FuncData} {k : Nat} (F : Fun K "_law_inner" "_law_inner" sInner f fd) (mList : mg "list" = none) : FnOk P w K mg base CX0 (k + 1) f fd ["term"] (spInner K) := by
  refine F.ok scInner (fun vs H Q E h => ?_) (fun cdv A outer s H vs Q E hr h => ?_)
  · obtain ⟨v, t, rfl, _⟩ := h
    rfl
  · obtain ⟨v, t, rfl, hT, few, q⟩ := h
    refine ⟨_, (pss_cons (ps_set (i := 1) scInner.nd rfl (.inl rfl) (pe_ix ix_tup (pv 0) pe_int (fun _ _ => rfl))) (pss_cons (ps_if (pt_cmpR op_in_seq (pv 1) (pe_lst (pa_cons pe_str (pa_cons pe_str (pa_cons pe_str pa_nil)))) rfl) (pss_one (ps_ret (pe_callTy call_list_of (by rfl) mList (by decide +kernel) (pa_cons (pe_slice sl_tup (pv 0) (po_some pe_int) po_none) pa_nil)))) pss_nil) (pss_cons (ps_if (pt_cmpR op_eq (pv 1) pe_str (nomark _)) (pss_one (ps_ret (pe_op op_cat (pe_lc (own := [("pair", 2)]) (g := gName 2) (tt := tYes) (te := tOp (rIxT K) (tVar 2) (tC (.int 1))) rfl scInner.nd (pi_tup (pe_ix ix_tup (pv 0) pe_int (fun _ _ => rfl))) (blkOk_by (N := NI) (sc := defScope sInner) (by decide +kernel)) (fun _ _ _ _ _ => pg_name (i := 2) scInner.nd rfl (Or.inl rfl)) (fun _ _ _ _ _ => pts_nil) (fun _ _ _ _ _ => (pe_ix ix_tup (pv 2) pe_int (fun _ _ => rfl)))) (pe_lst (pa_cons (pe_ix ix_tup (pv 0) pe_int (fun _ _ => rfl)) pa_nil))))) pss_nil) (pss_one (ps_ret (pe_ifExp (pt_cmpR op_eq (pv 1) pe_str (nomark _)) (pe_lc (own := [("row", 3)]) (g := gName 3) (tt := tYes) (te := tOp (rIxT K) (tVar 3) (tC (.int 2))) rfl scInner.nd (pi_tup (pe_ix ix_tup (pv 0) pe_int (fun _ _ => rfl))) (blkOk_by (N := NI) (sc := defScope sInner) (by decide +kernel)) (fun _ _ _ _ _ => pg_name (i := 3) scInner.nd rfl (Or.inl rfl)) (fun _ _ _ _ _ => pts_nil) (fun _ _ _ _ _ => (pe_ix ix_tup (pv 3) pe_int (fun _ _ => rfl)))) (pe_lst pa_nil))))))), ?_⟩
    have line := line_ge
    obtain ⟨a, wd, rest, rfl, hS, od⟩ := od_of hT
    refine ⟨_, rfl, a, _, _, _, rfl, rfl, hS, atI_nat (j := 0) rfl, ?_⟩
    refine ⟨_, rfl, by show 3 ≤ sizeLine; decide, fun nb nnb => ⟨nb, _, rfl, .inl (SqL.of upd_same), rfl, rfl, _, rfl, ?_⟩⟩
    have s1 := same_upd (o := .lst [V.str "fun", V.str "let", V.str "now"]) nnb
    have ein : inV (.str wd) [V.str "fun", V.str "let", V.str "now"] = decide (wd ∈ (["fun", "let", "now"] : List Str)) := in_strs wd ["fun", "let", "now"]
    rw [ein]
    generalize upd H nb (.lst [V.str "fun", V.str "let", V.str "now"]) = H1 at s1 ⊢
    have t1 := TS.same (K := K) s1
    have go3 : wd ∈ (["fun", "let", "now"] : List Str) → ∃ x r, rest = x :: r ∧ TL K H r (fs (wn t)) := by
      intro hw
      rcases od with ⟨rfl, _⟩ | ⟨rfl, _⟩ | ⟨rfl, _⟩ | ⟨rfl, x, u, e1, rfl, he1, en, ew⟩ | ⟨hlt, x, u1, u2, e1, e2, rfl, he1, he2, en, ew⟩ | ⟨rfl, _⟩ | ⟨hw3, _⟩
      · exact absurd hw (by decide)
      · exact absurd hw (by decide)
      · exact absurd hw (by decide)
      · exact ⟨_, _, rfl, by rw [ew]; exact .cons he1 .nil⟩
      · exact ⟨_, _, rfl, by rw [ew]; exact .cons he1 (.cons he2 .nil)⟩
      · exact absurd hw (by decide)
      · have : ∀ z ∈ w3, z ∉ (["fun", "let", "now"] : List Str) := by decide
        exact absurd hw (this _ hw3)
    refine ite2 (fun e => ?_) (fun e0 => ?_)
    · obtain ⟨x, r, rfl, tl⟩ := go3 (of_decide_eq_true e)
      refine ⟨_, rfl, _, rfl, a, _, rfl, t1 _ _ hS, fun z => absurd z.1 (not02 _ _ _), fun p np => ?_⟩
      rw [cut2n]
      refine ⟨p, _, rfl, .inr (SqT.of upd_same), fun l nl => ?_⟩
      have k1 := same_upd (o := .tup r) np
      have s3 := s1.trans (k1.trans (same_upd (o := .lst r) nl))
      exact q l r _ s3 ((s1.trans k1).free nl) upd_same (tl.keep (TS.same s3))
    have nw : wd ∉ (["fun", "let", "now"] : List Str) := fun z => e0 (decide_eq_true z)
    refine ⟨_, rfl, rfl, _, rfl, ?_⟩
    refine ite2 (fun e => ?_) (fun e1 => ?_)
    · have ew : wd = "letall" := V.str.inj (of_decide_eq_true e)
      subst ew
      obtain ⟨z, vs, u, ps, e2, rfl, hz, hps, he2, en, ew⟩ : ∃ q vs u ps b, rest = [.ref q, u] ∧ SqT K H q vs ∧ PsP K H vs ps ∧ Tp K H u b ∧ nmd t = [] ∧ wn t = ps.subs ps.names ++ [(b, ps.names)] := by
        rcases od with h | h | h | h | h | h | h
        · exact absurd h.1 (by decide)
        · exact absurd h.1 (by decide)
        · exact absurd h.1 (by decide)
        · exact absurd h.1 (by decide)
        · exact absurd h.1 (by decide)
        · exact h.2
        · exact absurd h.1 (by decide)
      have hvs : vs.length ≤ 100000 := by
        have h1 := len_sizes (wn t)
        have h2 := sizes_wn t
        have h3 : (wn t).length = vs.length + 1 := by rw [ew, List.length_append, hps.lenS]; rfl
        omega
      refine ⟨_, rfl, a, _, _, _, rfl, rfl, t1 _ _ hS, atI_nat (j := 1) rfl, z, rfl, ⟨_, t1 _ _ hz⟩, fun D nD => lc_tup (K := K) (a := z) (xs := vs) (fun i H' => Same H1 H' ∧ ∃ acc, H' D = some (.lst acc) ∧ acc.length = i ∧ TL K H' acc (fs ((ps.subs ps.names).take i))) ⟨same_upd nD, [], upd_same, rfl, .nil⟩ (fun i H' _ r => TS.same (s1.trans r.1) _ _ hz) ?_ ?_⟩
      · rintro i x0 H4 hx ⟨s4, acc, eD, la, ls⟩
        obtain ⟨q', nm, v', e', rfl, hq, he, _, hn⟩ := ps_at ps.names _ _ i x0 hps hx
        have hi : i < vs.length := (List.getElem?_eq_some_iff.mp hx).1
        refine ⟨rfl, ?_⟩
        unfold tYes
        refine iteT ?_
        have k3 : Same H1 (upd H4 D (.lst (acc ++ [v']))) := same_set s4 nD
        refine ⟨_, rfl, q', _, _, _, rfl, rfl, TS.same (s1.trans s4) _ _ hq, atI_nat (j := 1) rfl, acc, eD, by omega, k3, _, upd_same, by rw [List.length_append, la]; rfl, ?_⟩
        rw [fs_snoc hn]
        exact TL.app (us := [v']) (.cons (he.keep (TS.same (s1.trans k3))) .nil) (ls.keep (TS.set eD (fun _ z => by cases z) (fun _ _ z => by cases z)))
      · rintro H4 ⟨s4, acc, eD, la, ls⟩
        rw [← hps.lenS ps.names, List.take_of_length_le (Nat.le_refl _)] at ls
        have s04 := s1.trans s4
        refine ⟨_, rfl, a, _, _, _, rfl, rfl, TS.same s04 _ _ hS, atI_nat (j := 2) rfl, by show 1 ≤ sizeLine; decide, fun o no => ?_⟩
        have k1 := same_upd (o := .lst [u]) no
        refine ⟨D, o, acc, _, rfl, rfl, k1 _ _ eD, upd_same, by rw [la]; show vs.length + 1 ≤ sizeLine; omega, fun l nl => ?_⟩
        have k2 := same_upd (o := .lst (acc ++ [u])) nl
        have s5 := s04.trans (k1.trans k2)
        refine q l _ _ s5 ((s04.trans k1).free nl) upd_same ?_
        rw [ew]
        unfold fs
        rw [List.map_append]
        exact TL.app (us := [u]) (.cons (he2.keep (TS.same s5)) .nil) (ls.keep (TS.same (k1.trans k2)))
    refine ⟨_, rfl, rfl, _, rfl, ?_⟩
    refine ite2 (fun e => ?_) (fun e2 => ?_)
    · have ew : wd = "by" := V.str.inj (of_decide_eq_true e)
      subst ew
      obtain ⟨x, z, vs, bb, rfl, hz, hbs, en, ew⟩ : ∃ x q vs bs, rest = [.str x, .ref q] ∧ SqT K H q vs ∧ BsP K H vs bs ∧ nmd t = [x] ∧ wn t = bs.subs := by
        rcases od with h | h | h | h | h | h | h
        · exact absurd h.1 (by decide)
        · exact absurd h.1 (by decide)
        · exact h.2
        · exact absurd h.1 (by decide)
        · exact absurd h.1 (by decide)
        · exact absurd h.1 (by decide)
        · exact absurd h.1 (by decide)
      have hvs : vs.length ≤ 100000 := by
        have h1 := len_sizes (wn t)
        have h2 := sizes_wn t
        have h3 : (wn t).length = vs.length := by rw [ew]; exact hbs.lenS
        omega
      refine ⟨_, rfl, a, _, _, _, rfl, rfl, t1 _ _ hS, atI_nat (j := 2) rfl, z, rfl, ⟨_, t1 _ _ hz⟩, fun D nD => lc_tup (K := K) (a := z) (xs := vs) (fun i H' => Same H1 H' ∧ ∃ acc, H' D = some (.lst acc) ∧ acc.length = i ∧ TL K H' acc (fs (bb.subs.take i))) ⟨same_upd nD, [], upd_same, rfl, .nil⟩ (fun i H' _ r => TS.same (s1.trans r.1) _ _ hz) ?_ ?_⟩
      · rintro i x0 H4 hx ⟨s4, acc, eD, la, ls⟩
        obtain ⟨q', c, z', ys, v', e', rfl, hq, hz', he, hn⟩ := bs_at _ _ i x0 hbs hx
        have hi : i < vs.length := (List.getElem?_eq_some_iff.mp hx).1
        refine ⟨rfl, ?_⟩
        unfold tYes
        refine iteT ?_
        have k3 : Same H1 (upd H4 D (.lst (acc ++ [v']))) := same_set s4 nD
        refine ⟨_, rfl, q', _, _, _, rfl, rfl, TS.same (s1.trans s4) _ _ hq, atI_nat (j := 2) rfl, acc, eD, by omega, k3, _, upd_same, by rw [List.length_append, la]; rfl, ?_⟩
        rw [fs_snoc hn]
        exact TL.app (us := [v']) (.cons (he.keep (TS.same (s1.trans k3))) .nil) (ls.keep (TS.set eD (fun _ z => by cases z) (fun _ _ z => by cases z)))
      · rintro H4 ⟨s4, acc, eD, la, ls⟩
        rw [← hbs.lenS, List.take_of_length_le (Nat.le_refl _)] at ls
        exact q D acc _ (s1.trans s4) (s1.free nD) eD (by rw [ew]; exact ls)
    · have hno : wn t = [] := by
        rcases od with h | h | h | h | h | h | h
        · exact h.2.2
        · obtain ⟨_, _, _, _, _, _, _, h⟩ := h
          exact h
        · exact absurd (decide_eq_true (congrArg V.str h.1)) e2
        · exact absurd (by rw [h.1]; decide) nw
        · exact absurd (by rcases h.1 with z | z <;> (rw [z]; decide)) nw
        · exact absurd (decide_eq_true (congrArg V.str h.1)) e1
        · obtain ⟨_, _, _, _, h, _⟩ := h
          exact h
      refine ⟨by show 0 ≤ sizeLine; decide, fun l nl => q l [] _ (s1.trans (same_upd nl)) (s1.free nl) upd_same ?_⟩
      rw [hno]
      exact .nil
end
end OwK

set_option Elab.async false
set_option linter.all false
set_option maxRecDepth 100000
set_option maxHeartbeats 8000000
namespace OwK
open PySem PySem.Spec PyProof.Rows L2 Ow OwT
mutual
def dat : T → PyData
  | .num n => .tuple [.str "num", .int n]
  | .nam x => .tuple [.str "name", .str x]
  | .fn x e => .tuple [.str "fun", .str x, dat e]
  | .two w x y => .tuple [.str w, .str x, .str y]
  | .lt w x e b => .tuple [.str w, .str x, dat e, dat b]
  | .all ps b => .tuple [.str "letall", .tuple (datPs ps), dat b]
  | .mk c xs => .tuple [.str "made", .str c, .tuple (xs.map PyData.str)]
  | .by_ x bs => .tuple [.str "by", .str x, .tuple (datBs bs)]
def datPs : Ps → List PyData
  | .nil => []
  | .cons x e r => .tuple [.str x, dat e] :: datPs r
def datBs : Bs → List PyData
  | .nil => []
  | .cons c ys e r => .tuple [.str c, .tuple (ys.map PyData.str), dat e] :: datBs r
end
section
variable {K : PySem.W.Frag} {H : Hp}
mutual
theorem tp_dp : ∀ {v : V} {t : T}, Tp K H v t → Dp K H v (dat t)
  | _, _, .num h => .tup h (.cons (.str _) (.cons (.int _) .nil))
  | _, _, .nam h => .tup h (.cons (.str _) (.cons (.str _) .nil))
  | _, _, .fn h e => .tup h (.cons (.str _) (.cons (.str _) (.cons (tp_dp e) .nil)))
  | _, _, .two _ h => .tup h (.cons (.str _) (.cons (.str _) (.cons (.str _) .nil)))
  | _, _, .lt _ h e b => .tup h (.cons (.str _) (.cons (.str _) (.cons (tp_dp e) (.cons (tp_dp b) .nil))))
  | _, _, .all h q ps b => .tup h (.cons (.str _) (.cons (.tup q (ps_dp ps)) (.cons (tp_dp b) .nil)))
  | _, _, .mk h q => .tup h (.cons (.str _) (.cons (.str _) (.cons (.tup q (dp_strs _)) .nil)))
  | _, _, .by_ h q bs => .tup h (.cons (.str _) (.cons (.str _) (.cons (.tup q (bs_dp bs)) .nil)))
theorem ps_dp : ∀ {vs : List V} {ps : Ps}, PsP K H vs ps → DpAll K H vs (datPs ps)
  | _, _, .nil => .nil
  | _, _, .cons a b d => .cons (.tup a (.cons (.str _) (.cons (tp_dp b) .nil))) (ps_dp d)
theorem bs_dp : ∀ {vs : List V} {bs : Bs}, BsP K H vs bs → DpAll K H vs (datBs bs)
  | _, _, .nil => .nil
  | _, _, .cons a b c d => .cons (.tup a (.cons (.str _) (.cons (.tup b (dp_strs _)) (.cons (tp_dp c) .nil)))) (bs_dp d)
end
theorem tl_dp : ∀ {vs : List V} {ts : List T}, TL K H vs ts → DpAll K H vs (ts.map dat)
  | _, _, .nil => .nil
  | _, _, .cons a d => .cons (tp_dp a) (tl_dp d)
end
structure Ok (d : PyData) (dp ln : Nat) : Prop where
  lay : d.canLay0 = true
  sh : d.showable = true
  dp : d.depth ≤ dp
  ln : d.shown.length ≤ ln
structure OkA (ds : List PyData) (dp ln : Nat) : Prop where
  lay : PyData.canLayAll0 ds = true
  sh : PyData.showableAll ds = true
  dp : PyData.depthAll ds ≤ dp
  ln : piled (PyData.shownAll ds) ≤ ln
theorem Ok.mono {d : PyData} {a b c e : Nat} (h : Ok d a b) (h1 : a ≤ c) (h2 : b ≤ e) : Ok d c e := ⟨h.lay, h.sh, Nat.le_trans h.dp h1, Nat.le_trans h.ln h2⟩
theorem OkA.mono {d : List PyData} {a b c e : Nat} (h : OkA d a b) (h1 : a ≤ c) (h2 : b ≤ e) : OkA d c e := ⟨h.lay, h.sh, Nat.le_trans h.dp h1, Nat.le_trans h.ln h2⟩
theorem OkA.nil {dp : Nat} : OkA [] dp 0 := ⟨rfl, rfl, Nat.zero_le _, Nat.le_refl _⟩
theorem OkA.cons {d : PyData} {ds : List PyData} {dp a b : Nat} (h : Ok d dp a) (k : OkA ds dp b) : OkA (d :: ds) dp (a + 2 + b) := by
  refine ⟨?_, ?_, ?_, ?_⟩
  · unfold PyData.canLayAll0
    rw [h.lay, k.lay]
    rfl
  · unfold PyData.showableAll
    rw [h.sh, k.sh]
    rfl
  · unfold PyData.depthAll
    exact Nat.max_le.mpr ⟨h.dp, k.dp⟩
  · unfold PyData.shownAll
    rw [piled_cons]
    have := h.ln
    have := k.ln
    omega
theorem tupleText_len (ts : List Str) : (tupleText ts).length ≤ piled ts + 3 := by
  unfold tupleText
  rw [app_len, app_len]
  have h1 : ((if ts.length == 1 then ",)" else ")" : String) : Str).length ≤ 2 := by
    split
    · decide
    · decide
  have h2 : (("(" : String) : Str).length = 1 := rfl
  cases ts with
  | nil =>
    have : (Str.join ", " []).length = 0 := rfl
    omega
  | cons x r =>
    have := join_length_add (x :: r) (by simp)
    omega
theorem Ok.tup {ds : List PyData} {dp a : Nat} (h : OkA ds dp a) : Ok (.tuple ds) (dp + 1) (a + 3) := by
  refine ⟨?_, ?_, ?_, ?_⟩
  · unfold PyData.canLay0
    exact h.lay
  · unfold PyData.showable
    exact h.sh
  · unfold PyData.depth
    exact Nat.succ_le_succ h.dp
  · unfold PyData.shown
    have := tupleText_len (PyData.shownAll ds)
    have := h.ln
    omega
theorem Ok.str {x : Str} (h : NOK x) {dp : Nat} : Ok (.str x) dp 82 := by
  refine ⟨?_, ?_, ?_, ?_⟩
  · have := lay_strs [x] (fun y hy => by rw [List.mem_singleton.mp hy]; exact h.2)
    unfold List.map PyData.canLayAll0 at this
    exact (Bool.and_eq_true_iff.mp this).1
  · unfold PyData.showable
    rfl
  · unfold PyData.depth
    exact Nat.zero_le _
  · unfold PyData.shown
    have := StrLaws.reprText_len x (fun c hc => Nat.lt_trans (h.2 c hc) (by decide))
    have := h.1
    omega
theorem Ok.int {n : Int} (h : n.natAbs ≤ 10 ^ 18) {dp : Nat} : Ok (.int n) dp 1921 := by
  have h1 : n.natAbs.log2 < 1920 := by
    have h2 : n.natAbs < 2 ^ 64 := Nat.lt_of_le_of_lt h (by decide)
    rcases Nat.eq_zero_or_pos n.natAbs with z | z
    · rw [z]
      decide
    · have := (Nat.log2_lt (by omega)).mpr h2
      omega
  refine ⟨?_, ?_, ?_, ?_⟩
  · unfold PyData.canLay0
    rfl
  · unfold PyData.showable
    exact decide_eq_true h1
  · unfold PyData.depth
    exact Nat.zero_le _
  · unfold PyData.shown
    exact int_text_len_1921 h1
theorem OkA.strs : ∀ xs : List Str, (∀ x ∈ xs, NOK x) → OkA (xs.map PyData.str) 0 (84 * xs.length)
  | [], _ => OkA.nil
  | x :: r, h => by
    have k := OkA.strs r fun y hy => h y (List.mem_cons_of_mem _ hy)
    refine (OkA.cons (Ok.str (h x List.mem_cons_self)) k).mono (Nat.le_refl _) ?_
    rw [List.length_cons]
    omega
theorem nodes_pos (t : T) : 1 ≤ nodes t := by
  cases t <;> (unfold nodes; omega)
theorem deep_pos (t : T) : 1 ≤ deep t := by
  cases t <;> (unfold deep; omega)
section
variable {ns : List Str} (hn : ∀ x ∈ ns, NOK x)
include hn
mutual
theorem good_ok : ∀ t : T, Good ns t → Ok (dat t) (3 * deep t) (2500 * nodes t - 400)
  | .num n, h => (Ok.tup (dp := 0) (.cons (.str (words_ok _ (by decide))) (.cons (.int h) .nil))).mono (by show 0 + 1 ≤ 3 * 1; decide) (by show 82 + 2 + (1921 + 2 + 0) + 3 ≤ 2500 * 1 - 400; decide)
  | .nam x, h => (Ok.tup (dp := 0) (.cons (.str (words_ok _ (by decide))) (.cons (.str (hn x h)) .nil))).mono (by show 0 + 1 ≤ 3 * 1; decide) (by show 82 + 2 + (82 + 2 + 0) + 3 ≤ 2500 * 1 - 400; decide)
  | .fn x e, h => by
    have k := good_ok e h.2
    have := nodes_pos e
    refine (Ok.tup (.cons (.str (words_ok _ (by decide))) (.cons (.str (hn x h.1)) (.cons k .nil)))).mono ?_ ?_
    · show 3 * deep e + 1 ≤ 3 * (1 + deep e)
      omega
    · show _ ≤ 2500 * (1 + nodes e) - 400
      omega
  | .two w x y, h => (Ok.tup (dp := 0) (.cons (.str (words_ok _ ((by decide : ∀ z ∈ twos, z ∈ words) _ h.1))) (.cons (.str (hn x h.2.1)) (.cons (.str (hn y h.2.2)) .nil)))).mono (by show 0 + 1 ≤ 3 * 1; decide) (by show 82 + 2 + (82 + 2 + (82 + 2 + 0)) + 3 ≤ 2500 * 1 - 400; decide)
  | .lt w x e b, h => by
    have k := good_ok e h.2.2.1
    have k2 := good_ok b h.2.2.2
    have := nodes_pos e
    have := nodes_pos b
    refine (Ok.tup (dp := 3 * max (deep e) (deep b)) (.cons (.str (words_ok _ (by rcases h.1 with rfl | rfl <;> decide))) (.cons (.str (hn x h.2.1)) (.cons (k.mono (by omega) (Nat.le_refl _)) (.cons (k2.mono (by omega) (Nat.le_refl _)) .nil))))).mono ?_ ?_
    · show 3 * max (deep e) (deep b) + 1 ≤ 3 * (1 + max (deep e) (deep b))
      omega
    · show _ ≤ 2500 * (1 + nodes e + nodes b) - 400
      omega
  | .all ps b, h => by
    have k := good_okPs ps h.1
    have k2 := good_ok b h.2
    have := nodes_pos b
    refine (Ok.tup (dp := 3 * max (deepPs ps) (deep b) + 2) (.cons (.str (words_ok _ (by decide))) (.cons ((Ok.tup k).mono (by omega) (Nat.le_refl _)) (.cons (k2.mono (by omega) (Nat.le_refl _)) .nil)))).mono ?_ ?_
    · show 3 * max (deepPs ps) (deep b) + 2 + 1 ≤ 3 * (1 + max (deepPs ps) (deep b))
      omega
    · show _ ≤ 2500 * (1 + nodesPs ps + nodes b) - 400
      omega
  | .mk c xs, h => by
    have l := h.2.2
    refine (Ok.tup (dp := 1) (.cons (.str (words_ok _ (by decide))) (.cons (.str (hn c h.1)) (.cons (Ok.tup (OkA.strs xs fun x hx => hn x (h.2.1 x hx))) .nil)))).mono (by show 1 + 1 ≤ 3 * 1; decide) ?_
    show _ ≤ 2500 * 1 - 400
    omega
  | .by_ x bs, h => by
    have k := good_okBs bs h.2
    refine (Ok.tup (.cons (.str (words_ok _ (by decide))) (.cons (.str (hn x h.1)) (.cons (Ok.tup k) .nil)))).mono ?_ ?_
    · show 3 * deepBs bs + 1 + 1 + 1 ≤ 3 * (1 + deepBs bs)
      omega
    · show _ ≤ 2500 * (1 + nodesBs bs) - 400
      omega
theorem good_okPs : ∀ ps : Ps, GoodPs ns ps → OkA (datPs ps) (3 * deepPs ps + 1) (2500 * nodesPs ps)
  | .nil, _ => OkA.nil
  | .cons x e r, h => by
    have k := good_ok e h.2.1
    have k2 := good_okPs r h.2.2
    have := nodes_pos e
    refine (OkA.cons (dp := 3 * max (deep e) (deepPs r) + 1) ((Ok.tup (.cons (.str (hn x h.1)) (.cons k .nil))).mono (by omega) (Nat.le_refl _)) (k2.mono (by omega) (Nat.le_refl _))).mono (Nat.le_refl _) ?_
    show _ ≤ 2500 * (nodes e + nodesPs r)
    omega
theorem good_okBs : ∀ bs : Bs, GoodBs ns bs → OkA (datBs bs) (3 * deepBs bs + 1) (2500 * nodesBs bs)
  | .nil, _ => OkA.nil
  | .cons c ys e r, h => by
    have k := good_ok e h.2.2.2.1
    have k2 := good_okBs r h.2.2.2.2
    have := nodes_pos e
    have := deep_pos e
    have l := h.2.2.1
    refine (OkA.cons (dp := 3 * max (deep e) (deepBs r) + 1) ((Ok.tup (dp := 3 * deep e) (.cons (.str (hn c h.1)) (.cons ((Ok.tup (OkA.strs ys fun y hy => hn y (h.2.1 y hy))).mono (by omega) (Nat.le_refl _)) (.cons k .nil)))).mono (by omega) (Nat.le_refl _)) (k2.mono (by omega) (Nat.le_refl _))).mono (Nat.le_refl _) ?_
    show _ ≤ 2500 * (nodes e + nodesBs r)
    omega
end
end
end OwK

set_option Elab.async false
set_option linter.all false
set_option maxRecDepth 100000
set_option maxHeartbeats 8000000
namespace OwK
open PySem PySem.Spec PyProof.Rows L2 Ow OwT
def le (a b : Str) : Prop := ltCps b.cps.toList a.cps.toList = false
theorem le_iff (a b : Str) : le a b ↔ a.cps.toList ≤ b.cps.toList := by
  unfold le
  rw [ltCps_eq, decide_eq_false_iff_not]
  exact List.not_lt
theorem le_trans' {a b c : Str} (h : le a b) (k : le b c) : le a c := (le_iff a c).mpr (List.le_trans ((le_iff a b).mp h) ((le_iff b c).mp k))
theorem le_anti {a b : Str} (h : le a b) (k : le b a) : a = b := by
  have e := List.le_antisymm ((le_iff a b).mp h) ((le_iff b a).mp k)
  cases a with | mk x =>
  cases b with | mk y =>
  have : x = y := Array.ext' e
  rw [this]
theorem rising_pair : ∀ (p : Str) (l : List Str), risingS p l = true → (p :: l).Pairwise le
  | p, [], _ => List.pairwise_singleton _ _
  | p, x :: r, h => by
    unfold risingS at h
    obtain ⟨h1, h2⟩ := Bool.and_eq_true_iff.mp h
    have k := rising_pair x r h2
    have h3 : le p x := by
      unfold le
      simpa using h1
    refine List.pairwise_cons.mpr ⟨fun y hy => ?_, k⟩
    rcases List.mem_cons.mp hy with rfl | hy
    · exact h3
    · exact le_trans' h3 (List.rel_of_pairwise_cons k hy)
theorem sorted_pair : ∀ l : List Str, sortedS l = true → l.Pairwise le
  | [], _ => List.Pairwise.nil
  | x :: r, h => rising_pair x r h
theorem sorted_eq {xs ys : List Str} (hx : xs.Nodup) (hy : ys.Nodup) (sx : sortedS xs = true) (sy : sortedS ys = true) (h : ∀ k, k ∈ xs ↔ k ∈ ys) : xs = ys :=
  List.Perm.eq_of_pairwise (le := le) (fun a b _ _ h k => le_anti h k) (sorted_pair xs sx) (sorted_pair ys sy) ((List.perm_ext_iff_of_nodup hx hy).mpr h)
theorem sql_same {K : PySem.W.Frag} {H H' : Hp} {a : Addr} {xs : List V} (s : Same H H') (h : SqL K H a xs) : SqL K H' a xs := by
  rcases h with (h | ⟨o, h⟩) | h
  · exact .inl (.inl (s _ _ h))
  · exact .inl (.inr ⟨o, s _ _ h⟩)
  · exact .inr h
theorem but_same {H H' : Hp} {p : Addr} (b : But p H H') (n : H p = none) : Same H H' := fun c o e => by
  rw [b c (fun z => by rw [z, n] at e; cases e)]
  exact e
theorem fr_same {H0 H H' : Hp} {S : List Addr} (s : Same H0 H) (f : Fr S H H') (n : ∀ b ∈ S, H0 b = none) : Same H0 H' := fun c o e => f c o (fun z => by rw [n c z] at e; cases e) (s c o e)
theorem tl_last {K : PySem.W.Frag} {H : Hp} {vs : List V} {ts : List T} (h : TL K H vs ts) : vs ≠ [] → ∃ vs' ts' v t, vs = vs' ++ [v] ∧ ts = ts' ++ [t] ∧ TL K H vs' ts' ∧ Tp K H v t := by
  induction h with
  | nil => exact fun z => absurd rfl z
  | cons a d ih =>
    rename_i v t vs l
    intro _
    cases d with
    | nil => exact ⟨[], [], v, t, rfl, rfl, .nil, a⟩
    | cons b e =>
      obtain ⟨vs', ts', v', t', e1, e2, k1, k2⟩ := ih (by simp)
      exact ⟨v :: vs', t :: ts', v', t', by rw [e1]; rfl, by rw [e2]; rfl, .cons a k1, k2⟩
def nsum (ts : List T) : Nat := (ts.map nodes).sum
theorem nsum_app (a b : List T) : nsum (a ++ b) = nsum a + nsum b := by
  unfold nsum
  rw [List.map_append, List.sum_append]
theorem nsum_one (t : T) : nsum [t] = nodes t := by
  unfold nsum
  simp
theorem nsum_subs (ns : List Str) : ∀ ps : Ps, nsum (fs (ps.subs ns)) = nodesPs ps
  | .nil => rfl
  | .cons x e r => by
    have := nsum_subs ns r
    unfold fs nsum at this ⊢
    unfold Ps.subs nodesPs
    simp only [List.map_cons, List.sum_cons]
    omega
theorem nsum_bsubs : ∀ bs : Bs, nsum (fs bs.subs) = nodesBs bs
  | .nil => rfl
  | .cons c ys e r => by
    have := nsum_bsubs r
    unfold fs nsum at this ⊢
    unfold Bs.subs nodesBs
    simp only [List.map_cons, List.sum_cons]
    omega
theorem nsum_wn (t : T) : nsum (fs (wn t)) + 1 ≤ nodes t := by
  cases t with
  | num n => show 0 + 1 ≤ 1; decide
  | nam x => show 0 + 1 ≤ 1; decide
  | fn x e => show nodes e + 0 + 1 ≤ 1 + nodes e; omega
  | two w x y => show 0 + 1 ≤ 1; decide
  | lt w x e b => show nodes e + (nodes b + 0) + 1 ≤ 1 + nodes e + nodes b; omega
  | all ps b =>
    have := nsum_subs ps.names ps
    unfold wn fs
    rw [List.map_append, nsum_app]
    show nsum (fs (ps.subs ps.names)) + nsum [b] + 1 ≤ 1 + nodesPs ps + nodes b
    rw [nsum_one]
    omega
  | mk c xs => show 0 + 1 ≤ 1; decide
  | by_ x bs =>
    have := nsum_bsubs bs
    show nsum (fs bs.subs) + 1 ≤ 1 + nodesBs bs
    omega
theorem good_subs (ms ns : List Str) : ∀ ps : Ps, GoodPs ns ps → ∀ p ∈ ps.subs ms, Good ns p.1
  | .nil, _, p, hp => by cases hp
  | .cons x e r, h, p, hp => by
    rcases List.mem_cons.mp hp with rfl | hp
    · exact h.2.1
    · exact good_subs ms ns r h.2.2 p hp
theorem good_bsubs (ns : List Str) : ∀ bs : Bs, GoodBs ns bs → ∀ p ∈ bs.subs, Good ns p.1
  | .nil, _, p, hp => by cases hp
  | .cons c ys e r, h, p, hp => by
    rcases List.mem_cons.mp hp with rfl | hp
    · exact h.2.2.2.1
    · exact good_bsubs ns r h.2.2.2.2 p hp
theorem good_wn {ns : List Str} (t : T) (h : Good ns t) : ∀ p ∈ wn t, Good ns p.1 := by
  intro p hp
  cases t with
  | num n => cases hp
  | nam x => cases hp
  | fn x e =>
    cases List.mem_singleton.mp hp
    exact h.2
  | two w x y => cases hp
  | lt w x e b =>
    unfold wn at hp
    rcases List.mem_cons.mp hp with rfl | hp
    · exact h.2.2.1
    · cases List.mem_singleton.mp hp
      exact h.2.2.2
  | all ps b =>
    unfold wn at hp
    rcases List.mem_append.mp hp with hp | hp
    · exact good_subs _ _ ps h.1 p hp
    · cases List.mem_singleton.mp hp
      exact h.2
  | mk c xs => cases hp
  | by_ x bs => exact good_bsubs _ bs h.2 p hp
mutual
theorem free_good {ns : List Str} {k : Str} : ∀ t : T, Good ns t → Free k t → k ∈ ns
  | .num n, _, f => f.elim
  | .nam x, h, f => by cases f; exact h
  | .fn x e, h, f => free_good e h.2 f.1
  | .two w x y, h, f => by
    rcases f with rfl | rfl
    · exact h.2.1
    · exact h.2.2
  | .lt w x e b, h, f => by
    rcases f with f | f
    · exact free_good e h.2.2.1 f
    · exact free_good b h.2.2.2 f.1
  | .all ps b, h, f => by
    rcases f.1 with f | f
    · exact free_goodPs ps h.1 f
    · exact free_good b h.2 f
  | .mk c xs, h, f => h.2.1 k f
  | .by_ x bs, h, f => by
    rcases f with rfl | f
    · exact h.1
    · exact free_goodBs bs h.2 f
theorem free_goodPs {ns : List Str} {k : Str} : ∀ ps : Ps, GoodPs ns ps → FreePs k ps → k ∈ ns
  | .nil, _, f => f.elim
  | .cons x e r, h, f => by
    rcases f with f | f
    · exact free_good e h.2.1 f
    · exact free_goodPs r h.2.2 f
theorem free_goodBs {ns : List Str} {k : Str} : ∀ bs : Bs, GoodBs ns bs → FreeBs k bs → k ∈ ns
  | .nil, _, f => f.elim
  | .cons c ys e r, h, f => by
    rcases f with f | f
    · exact free_good e h.2.2.2.1 f.1
    · exact free_goodBs r h.2.2.2.2 f
end
theorem tops_ok {ts : List T} {ns : List Str} (hn : ∀ x ∈ ns, NOK x) : (∀ t ∈ ts, Good ns t ∧ deep t ≤ 17) → SeqAt.shaped (.list (ts.map dat)) = true := by
  intro h
  have k : PyData.canLayAll0 (ts.map dat) = true ∧ PyData.depthAll (ts.map dat) ≤ 51 := by
    induction ts with
    | nil => exact ⟨rfl, Nat.zero_le _⟩
    | cons t r ih =>
      obtain ⟨a, b⟩ := ih fun x hx => h x (List.mem_cons_of_mem _ hx)
      obtain ⟨g, d⟩ := h t List.mem_cons_self
      have o := good_ok hn t g
      rw [List.map_cons]
      constructor
      · unfold PyData.canLayAll0
        rw [o.lay, a]
        rfl
      · unfold PyData.depthAll
        have := o.dp
        exact Nat.max_le.mpr ⟨by omega, b⟩
  unfold SeqAt.shaped
  rw [Bool.and_eq_true]
  constructor
  · unfold PyData.canLay0
    exact k.1
  · unfold PyData.depth
    exact decide_eq_true (by omega)
theorem eqv_tops : ∀ ts : List T, PyData.eqv (.list (ts.map dat)) (.list []) = ts.isEmpty
  | [] => by simp [PyData.eqv, PyData.eqvAll]
  | _ :: _ => by simp [PyData.eqv, PyData.eqvAll]
end OwK

set_option Elab.async false
set_option linter.all false
set_option maxRecDepth 100000
set_option maxHeartbeats 8000000
namespace OwK
open PySem PySem.Spec PyProof.Rows L2 Ow OwT OwS
abbrev sLaw : Stmt := topS 16
abbrev NL : List Str := ["script", "k", "feed", "names", "left", "term", "seen", "due", "turn", "found"]
theorem scLaw : FnScope NL ["script"] (defScope sLaw) := ⟨rfl, rfl, rfl, by decide +kernel, rfl, by decide +kernel, by decide +kernel⟩
theorem mm {n : Int} (h : 0 ≤ n) : (2 ≤ if (if n < 6 then n else 6) > 2 then (if n < 6 then n else 6) else 2) ∧ (if (if n < 6 then n else 6) > 2 then (if n < 6 then n else 6) else 2) ≤ 6 := by
  repeat' split
  all_goals omega
structure Mg (mg : Str → Option Value) (fE fT fP fN fR fO fI fG : Addr) : Prop where
  range : mg "range" = none
  max : mg "max" = none
  min : mg "min" = none
  len : mg "len" = none
  isi : mg "isinstance" = none
  list : mg "list" = none
  repr : mg "repr" = none
  set : mg "set" = none
  sorted : mg "sorted" = none
  feed : mg "_law_feed" = some (.ref fE)
  take : mg "_law_take" = some (.ref fT)
  pick : mg "_law_pick" = some (.ref fP)
  names : mg "_law_names" = some (.ref fN)
  term : mg "_law_term" = some (.ref fR)
  open_ : mg "_law_open" = some (.ref fO)
  inner : mg "_law_inner" = some (.ref fI)
  free : mg "free_names" = some (.ref fG)
def spLaw (K : PySem.W.Frag) : Sp := fun vs H Q _ => ∃ (a : Addr) (ns : List Int), vs = [.ref a] ∧ SqL K H a (ns.map V.int) ∧ ns.length ≤ 63 ∧ ∀ H', Q (.bl true) H'
theorem cutPre {ns : List Str} (h : ns.length = 8) (r : Int) (h0 : 0 ≤ r) (h1 : r < 8) : ∃ ms : List Str, cutV (ns.map V.str) none (some (1 + r)) = ms.map V.str ∧ 0 < ms.length ∧ ms.length ≤ 8 ∧ ∀ x ∈ ms, x ∈ ns := by
  refine ⟨ns.take (1 + r.toNat), ?_, by rw [List.length_take]; omega, by rw [List.length_take]; omega, fun x hx => List.mem_of_mem_take hx⟩
  unfold cutV
  have e0 : HT.sIx (ns.map V.str).length 0 none = 0 := rfl
  have e1 : HT.sIx (ns.map V.str).length (ns.map V.str).length (some (1 + r)) = 1 + r.toNat := by
    rw [show (1 + r : Int) = ((1 + r.toNat : Nat) : Int) by omega, HT.sIx_nat, List.length_map, h]
    omega
  rw [e0, e1, List.drop_zero, Nat.sub_zero, List.map_take]
theorem shaped_strs {l : List Str} (h : ∀ x ∈ l, Lo x) : SeqAt.shaped (.list (l.map PyData.str)) = true := by
  unfold SeqAt.shaped
  rw [Bool.and_eq_true]
  constructor
  · unfold PyData.canLay0
    exact lay_strs l h
  · unfold PyData.depth
    rw [depth_strs l]
    decide
theorem eqv_same {l : List Str} (h : ∀ x ∈ l, Lo x) : PyData.eqv (.list (l.map PyData.str)) (.list (l.map PyData.str)) = true := by
  refine SeqAt.eqv_refl _ ?_
  unfold PyData.canLay0
  exact lay_strs l h
theorem len_nsum : ∀ ts : List T, ts.length ≤ nsum ts
  | [] => Nat.zero_le _
  | t :: r => by
    have := len_nsum r
    have := nodes_pos t
    have e : nsum (t :: r) = nodes t + nsum r := by
      unfold nsum
      rw [List.map_cons, List.sum_cons]
    rw [List.length_cons, e]
    omega
theorem fr0 {H H' : Hp} (f : Fr [] H H') : Same H H' := fun c o e => f c o (by simp) e
section
variable {P : Program} {w : World} {K : PySem.W.Frag} {mg : Str → Option Value} {base : Heap}
theorem ok_law {f fE fT fP fN fR fO fI fG : Addr} {fd fdE fdT fdP fdN fdR fdO fdI fdG : FuncData} (F : Fun K "law" "law" sLaw f fd) (m : Mg mg fE fT fP fN fR fO fI fG)
    (GE : FnOk P w K mg base CX0 1 fE fdE ["script", "k"] (spFeed K)) (kE : PySem.W.keepIn K (.ref fE) = true) (bE : Binds K fdE ["script", "k"] [])
    (GT : FnOk P w K mg base CX0 1 fT fdT ["feed", "many"] spTake) (kT : PySem.W.keepIn K (.ref fT) = true) (bT : Binds K fdT ["feed", "many"] [])
    (GP : FnOk P w K mg base CX0 2 fP fdP ["feed", "some"] (spPick K)) (kP : PySem.W.keepIn K (.ref fP) = true) (bP : Binds K fdP ["feed", "some"] [])
    (GN : FnOk P w K mg base CX0 3 fN fdN ["feed"] spNames) (kN : PySem.W.keepIn K (.ref fN) = true) (bN : Binds K fdN ["feed"] [])
    (GR : FnOk P w K mg base CX0 21 fR fdR ["feed", "names", "box", "deep"] (spTerm K 8)) (kR : PySem.W.keepIn K (.ref fR) = true) (bR : Binds K fdR ["feed", "names", "box", "deep"] [])
    (GO : FnOk P w K mg base CX0 19 fO fdO ["term", "bound"] (spOpen K 17)) (kO : PySem.W.keepIn K (.ref fO) = true) (bO : Binds K fdO ["term", "bound"] [])
    (GI : FnOk P w K mg base CX0 1 fI fdI ["term"] (spInner K)) (kI : PySem.W.keepIn K (.ref fI) = true) (bI : Binds K fdI ["term"] [])
    (GG : FnOk P w K mg base CX0 2 fG fdG ["term"] (spFree K)) (kG : PySem.W.keepIn K (.ref fG) = true) (bG : Binds K fdG ["term"] [])
    (hrA : Room 22 callerA) :
    RunAt P w K mg base callerA f fd ["script"] (spLaw K) := by
  refine run_at F scLaw (fun vs H Q E h => ?_) hrA (fun cdv outer s H vs Q E hr h => ?_)
  · obtain ⟨a, ns, rfl, _⟩ := h
    rfl
  · obtain ⟨a, ns, rfl, hS, hlen, q⟩ := h
    have hr1 : Room 1 _ := hr.mono (by decide)
    have hr2 : Room 2 _ := hr.mono (by decide)
    have hr3 : Room 3 _ := hr.mono (by decide)
    have hr19 : Room 19 _ := hr.mono (by decide)
    have hu : (callerA.deeper (envOfC (Str.ofString "law") (defScope sLaw) s.heap.objs.size f cdv)).units + 64 < cLine := by
      have := hr.un
      omega
    refine ⟨_, (pss_cons (ps_for PassesOwn.never rfl (pi_range1 (by rfl) m.range (pa_cons (pe_callB (call_max2 rfl) (by rfl) m.max (by decide +kernel) (pa_cons pe_int (pa_cons (pe_callB (call_min2 rfl) (by rfl) m.min (by decide +kernel) (pa_cons pe_int (pa_cons (pe_callB call_len_seq (by rfl) m.len PySem.boot_len (pa_cons (pv 0) pa_nil)) pa_nil))) pa_nil))) pa_nil)) (pg_name (i := 1) scLaw.nd rfl (.inl rfl)) (pss_cons (ps_set (i := 2) scLaw.nd rfl (.inl rfl) (pe_call GE hr1 (by rfl) m.feed kE bE .nil pass0 (pa_cons (pv 0) (pa_cons (pv 1) pa_nil)))) (pss_cons (ps_set (i := 3) scLaw.nd rfl (.inl rfl) (pe_slice sl_list (pe_call GN hr3 (by rfl) m.names kN bN .nil pass0 (pa_cons (pv 2) pa_nil)) po_none (po_some (pe_op op_add pe_int (pe_call GT hr1 (by rfl) m.take kT bT .nil pass0 (pa_cons (pv 2) (pa_cons pe_int pa_nil))))))) (pss_cons (ps_set (i := 4) scLaw.nd rfl (.inl rfl) (pe_lst (pa_cons (pe_call GR hr (by rfl) m.term kR bR .nil pass0 (pa_cons (pv 2) (pa_cons (pv 3) (pa_cons (pe_lst (pa_cons (pe_call GP hr2 (by rfl) m.pick kP bP .nil pass0 (pa_cons (pv 2) (pa_cons (pe_lst (pa_cons pe_int (pa_cons pe_int (pa_cons pe_int (pa_cons pe_int pa_nil))))) pa_nil))) pa_nil)) (pa_cons (pe_op op_add pe_int (pe_call GT hr1 (by rfl) m.take kT bT .nil pass0 (pa_cons (pv 2) (pa_cons pe_int pa_nil)))) pa_nil))))) pa_nil))) (pss_one (ps_while PassesOwn.never (pt_cmpR (op_neD hu) (pv 4) (pe_lst pa_nil) (nomark _)) (pss_cons (ps_set (i := 5) scLaw.nd rfl (.inl rfl) (pe_bm0 PySem.F.plainAttrs_list PySem.F.slot_list_pop PySem.F.type_list_pop mt_pop (pv 4))) (pss_cons (ps_set (i := 4) scLaw.nd rfl (.inl rfl) (pe_op op_cat (pv 4) (pe_call GI hr1 (by rfl) m.inner kI bI .nil pass0 (pa_cons (pv 5) pa_nil)))) (pss_cons (ps_set (i := 6) scLaw.nd rfl (.inl rfl) (pe_callB (call_repr rfl) (by rfl) m.repr (by decide +kernel) (pa_cons (pv 5) pa_nil))) (pss_cons (ps_set (i := 7) scLaw.nd rfl (.inl rfl) (pe_callB (call_sortTx rfl) (by rfl) m.sorted (by decide +kernel) (pa_cons (pe_callTy (call_setTx rfl) (by rfl) m.set (by decide +kernel) (pa_cons (pe_call GO hr19 (by rfl) m.open_ kO bO .nil pass0 (pa_cons (pv 5) (pa_cons (pe_lst pa_nil) pa_nil))) pa_nil)) pa_nil))) (pss_one (ps_for PassesOwn.never rfl (pi_range1 (by rfl) m.range (pa_cons pe_int pa_nil)) (pg_name (i := 8) scLaw.nd rfl (.inl rfl)) (pss_cons (ps_set (i := 9) scLaw.nd rfl (.inl rfl) (pe_call GG hr2 (by rfl) m.free kG bG .nil pass0 (pa_cons (pv 5) pa_nil))) (pss_cons (ps_if (PW.pt (pw_or (pt_not (pt_val (pe_callB call_isi (by rfl) m.isi boot_isinstance (pa_cons (pv 9) (pa_cons (pe_bltn (v := .ty "list") (by rfl) m.list (by decide +kernel) rfl) pa_nil))))) (pw_or (pt_cmpR (op_neD hu) (pv 9) (pv 7) (nomark _)) (pw_or1 (pt_cmpR op_ne (pe_callB (call_repr rfl) (by rfl) m.repr (by decide +kernel) (pa_cons (pv 5) pa_nil)) (pv 6) (nomark _)))))) (pss_one (ps_ret pe_bl)) pss_nil) (pss_one (ps_expr (pe_bm PySem.F.plainAttrs_list PySem.F.slot_list_append PySem.F.type_list_append mt_append (pv 9) (pa_cons pe_str pa_nil)))))))))))))))))) (pss_one (ps_ret pe_bl))), ?_⟩
    refine ⟨_, rfl, _, _, rfl, .inl hS, _, _, rfl, _, _, rfl, _, rfl, ?_, ?_, for_range (lo := 0) (n := _) (fun i σ H' => ∃ v1 v2 v3 v4 v5 v6 v7 v8 v9 : Option V, σ = [some (.ref a), v1, v2, v3, v4, v5, v6, v7, v8, v9] ∧ Same H H')
      ⟨_, _, _, _, _, _, _, _, _, rfl, Same.refl _⟩ ?_ ?_⟩
    · have := (mm (n := ((ns.map V.int).length : Nat)) (by omega)).1
      have e : (-(2 ^ 62) : Int) ≤ 2 := by decide
      exact Int.le_trans e this
    · have := (mm (n := ((ns.map V.int).length : Nat)) (by omega)).2
      have e : (6 : Int) < 2 ^ 62 := by decide
      exact Int.lt_of_le_of_lt this e
    · rintro i σ H1 hi ⟨v1, v2, v3, v4, v5, v6, v7, v8, v9, rfl, s1⟩
      have hi2 : i < 1000000 := by
        have := (mm (n := ((ns.map V.int).length : Nat)) (by omega)).2
        omega
      have line := line_ge
      refine ⟨_, rfl, _, rfl, a, ns, i, by rw [Int.zero_add]; rfl, sql_same s1 hS, hi2, fun p H2 np fd2 but2 => ?_⟩
      have s2 := s1.trans (but_same but2 np)
      have np0 : H p = none := s1.free np
      refine ⟨_, rfl, p, rfl, fd2, fun l8 ns8 H3 fr3 nl8 fd3 nlp len8 ok8 e8 => ?_⟩
      have s3 : Same H H3 := fr_same s2 fr3 (by simpa using np0)
      refine ⟨_, rfl, p, _, rfl, fd3, by decide, by decide, fun r H4 r0 r1 fd4 but4 => ?_⟩
      have s4 : Same H H4 := fr_same s3 (Fr.but but4 (S := [p]) (by simp)) (by simpa using np0)
      have e4 : H4 l8 = some (.lst (ns8.map V.str)) := by rw [but4 _ nlp]; exact e8
      refine ⟨_, _, rfl, rfl, _, rfl, l8, _, rfl, SqL.of e4, fun nl nnl => ?_⟩
      obtain ⟨ms, ems, mpos, mfew, mok⟩ := cutPre len8 r r0 r1
      rw [ems]
      have s5 := s4.trans (same_upd (o := .lst (ms.map V.str)) nnl)
      have fd5 : Fd (upd H4 nl (.lst (ms.map V.str))) p := (Fr.new (S := []) nnl).fd fd4 (by simp)
      have src5 : Src (upd H4 nl (.lst (ms.map V.str))) p nl ms := ⟨fd5, upd_same, mpos, mfew, fun x hx => ok8 x (mok x hx)⟩
      have okm : ∀ x ∈ ms, NOK x := fun x hx => ok8 x (mok x hx)
      generalize upd H4 nl (.lst (ms.map V.str)) = H5 at s5 fd5 src5 ⊢
      refine ⟨_, rfl, _, rfl, _, rfl, (by show 4 ≤ sizeLine; decide), fun ql nql => .inr ⟨p, ql, _, rfl, ?_, .inl (SqL.of upd_same), ?_, Nat.zero_lt_succ _, (by show 4 < 1000000; decide), fun x0 H6 hx0 fd6 but6 => ?_⟩⟩
      · obtain ⟨xs, e⟩ := Fd.lst fd5
        exact ne_of_none e nql
      · exact (Fr.new (S := []) nql).fd fd5 (by simp)
      obtain ⟨b, rfl, hb3, hb60⟩ : ∃ b : Int, x0 = .int b ∧ 3 ≤ b ∧ b ≤ 60 := by
        simp only [List.mem_cons, List.not_mem_nil, or_false] at hx0
        rcases hx0 with rfl | rfl | rfl | rfl
        · exact ⟨_, rfl, by decide, by decide⟩
        · exact ⟨_, rfl, by decide, by decide⟩
        · exact ⟨_, rfl, by decide, by decide⟩
        · exact ⟨_, rfl, by decide, by decide⟩
      have f6 : Fr [p] H5 H6 := (Fr.new nql).trans (Fr.but but6 (by simp))
      have src6 := src5.fr1 f6 fd6
      have s6 : Same H H6 := fr_same s5 f6 (by simpa using np0)
      refine ⟨by show 1 ≤ sizeLine; decide, fun bx nbx => ?_⟩
      have s7 := same_upd (o := .lst [V.int b]) nbx
      have src7 : Src (upd H6 bx (.lst [V.int b])) p nl ms := src6.fr1 (Fr.same s7) ((Fr.same (S := []) s7).fd fd6 (by simp))
      have x7 : Bx (upd H6 bx (.lst [V.int b])) p nl bx ms b := ⟨src7, upd_same⟩
      have nb0 : H bx = none := s6.free nbx
      have s07 := s6.trans s7
      generalize upd H6 bx (.lst [V.int b]) = H7 at src7 x7 s07 ⊢
      refine ⟨_, rfl, p, _, rfl, src7.fd, by decide, by decide, fun r2 H8 a0 a1 fd8 but8 => ?_⟩
      obtain ⟨f8, x8⟩ := x7.but but8 fd8
      have npb : ∀ b ∈ [p, bx], H b = none := fun c hc => by
        rcases List.mem_cons.mp hc with rfl | hc
        · exact np0
        · rw [List.mem_singleton.mp hc]
          exact nb0
      have s8 : Same H H8 := fr_same s07 f8 npb
      refine ⟨_, _, rfl, rfl, p, nl, bx, ms, b, _, rfl, x8, by omega, fun v t b' H9 f9 x9 hT9 hG9 hn9 hlo9 hd9 => ?_⟩
      have s9 : Same H H9 := fr_same s8 f9 npb
      refine ⟨by show 1 ≤ sizeLine; decide, fun lf nlf => ?_⟩
      have s10 := s9.trans (same_upd (o := .lst [v]) nlf)
      have hT10 := hT9.keep (TS.same (K := K) (same_upd (o := .lst [v]) nlf))
      have nlf0 : H lf = none := s9.free nlf
      have e10 : (upd H9 lf (.lst [v])) lf = some (.lst [v]) := upd_same
      generalize upd H9 lf (.lst [v]) = H10 at s10 hT10 e10 ⊢
      have ndn : nodes t ≤ 200 := by omega
      refine ⟨fun mm σ H' => ∃ (lf : Addr) (vs : List V) (ts : List T) (v5 v6 v7 v8 v9 : Option V), σ = [some (.ref a), some (.int (0 + (i : Int))), some (.ref p), some (.ref nl), some (.ref lf), v5, v6, v7, v8, v9] ∧ H' lf = some (.lst vs) ∧ H lf = none ∧ TL K H' vs ts ∧ (∀ t ∈ ts, Good ms t ∧ deep t ≤ 17) ∧ nsum ts ≤ 200 ∧ Same H H' ∧ mm = nsum ts,
        ⟨_, lf, [v], [t], _, _, _, _, _, rfl, e10, nlf0, .cons hT10 .nil, (fun t' ht => by cases List.mem_singleton.mp ht; exact ⟨hG9, hd9⟩), by rw [nsum_one]; exact ndn, s10, rfl⟩, ?_⟩
      rintro mm σ HA ⟨lf, vs, ts, v5, v6, v7, v8, v9, rfl, eA, nlfA, tlA, okA, smA, sA, rfl⟩
      refine ⟨_, rfl, by show 0 ≤ sizeLine; decide, fun o no => ?_⟩
      have so := same_upd (o := .lst ([] : List V)) no
      refine ⟨_, _, .lst (SqL.of (so _ _ eA)) (tl_dp (tlA.keep (TS.same so))), .lst (SqL.of upd_same) .nil, tops_ok okm okA, tops_ok (ts := []) okm (fun t ht => by cases ht), _, rfl, ?_⟩
      rw [show PyData.eqv (.list (ts.map dat)) (.list []) = ts.isEmpty from eqv_tops ts]
      have eB := so _ _ eA
      have tlB := tlA.keep (TS.same (K := K) so)
      have sB := sA.trans so
      generalize upd HA o (.lst ([] : List V)) = HB at eB tlB sB ⊢
      cases hts : ts with
      | nil =>
        subst hts
        refine iteF ?_
        exact ⟨_, _, _, _, _, _, _, _, _, rfl, sB⟩
      | cons t0 r0 =>
      rw [← hts]
      have hne : (!ts.isEmpty) = true := by rw [hts]; rfl
      rw [hne]
      refine iteT ?_
      have vne : vs ≠ [] := by
        intro z
        have := tlB.len
        rw [z, hts] at this
        cases this
      obtain ⟨vs', ts', v, t, rfl, rfl, tl', hT⟩ := tl_last tlB vne
      obtain ⟨ta, wd, rest, rfl, _, _⟩ := od_of hT
      have hG := okA t (List.mem_append_right _ (List.mem_singleton.mpr rfl))
      have hsum := nsum_app ts' [t]
      rw [nsum_one] at hsum
      have hnt : nodes t ≤ 200 := by omega
      have hsz := size_le ms t hG.1
      have okt := good_ok okm t hG.1
      have hdp : (dat t).depth + 1 ≤ 64 := by
        have := okt.dp
        have := hG.2
        omega
      have hln : (dat t).shown.length ≤ sizeLine := by
        have := okt.ln
        omega
      have hwn := nsum_wn t
      refine ⟨fun σ' H' => ∃ (lf : Addr) (vs : List V) (ts2 : List T) (v5 v6 v7 v8 v9 : Option V), σ' = [some (.ref a), some (.int (0 + (i : Int))), some (.ref p), some (.ref nl), some (.ref lf), v5, v6, v7, v8, v9] ∧ H' lf = some (.lst vs) ∧ H lf = none ∧ TL K H' vs ts2 ∧ (∀ t ∈ ts2, Good ms t ∧ deep t ≤ 17) ∧ nsum ts2 ≤ 200 ∧ Same H H' ∧ nsum ts2 < nsum (ts' ++ [t]),
        fun σ' H' ⟨c1, c2, c3, c4, c5, c6, c7, c8, d1, d2, d3, d4, d5, d6, d7, d8⟩ => ⟨_, d8, c1, c2, c3, c4, c5, c6, c7, c8, d1, d2, d3, d4, d5, d6, d7, rfl⟩, ?_⟩
      refine ⟨_, rfl, .inl ⟨rfl, _, .inl (.inl eB)⟩, lf, _, _, rfl, rfl, eB, (last_at vs' (.ref ta)).1, ?_⟩
      rw [(last_at vs' (.ref ta)).2]
      have tC : TS K HB (upd HB lf (.lst vs')) := TS.set eB (fun _ z => by cases z) (fun _ _ z => by cases z)
      have sC : Same H (upd HB lf (.lst vs')) := same_set sB nlfA
      have eC : (upd HB lf (.lst vs')) lf = some (.lst vs') := upd_same
      have tlC := tl'.keep tC
      have hTC := hT.keep tC
      generalize upd HB lf (.lst vs') = HC at sC eC tlC hTC ⊢
      refine ⟨_, rfl, _, rfl, _, t, rfl, hTC, by omega, fun l es HD sD nlD eD tlD => ?_⟩
      have lvs : vs'.length ≤ 200 := by
        have := len_nsum ts'
        rw [tl'.len]
        omega
      have les : es.length ≤ 200 := by
        have := len_nsum (fs (wn t))
        rw [tlD.len]
        omega
      refine ⟨lf, l, _, _, rfl, rfl, sD _ _ eC, eD, by omega, fun l2 nl2 => ?_⟩
      have kE := same_upd (o := .lst (vs' ++ es)) nl2
      have eE : (upd HD l2 (.lst (vs' ++ es))) l2 = some (.lst (vs' ++ es)) := upd_same
      have sE := sC.trans (sD.trans kE)
      have nl20 : H l2 = none := (sC.trans sD).free nl2
      have tlE : TL K (upd HD l2 (.lst (vs' ++ es))) (vs' ++ es) (ts' ++ fs (wn t)) := TL.app (tlD.keep (TS.same kE)) (tlC.keep (TS.same (sD.trans kE)))
      have hTE := hTC.keep (TS.same (K := K) (sD.trans kE))
      generalize upd HD l2 (.lst (vs' ++ es)) = HE at eE sE tlE hTE ⊢
      refine ⟨_, rfl, ta, dat t, rfl, tp_dp hTE, okt.sh, PyData.hasDict_of_canLay _ okt.lay, Nat.lt_of_le_of_lt (Nat.add_le_add_left hdp _) hu, hln, ?_⟩
      refine ⟨_, rfl, by show 0 ≤ sizeLine; decide, fun bq nbq => ⟨_, bq, t, [], rfl, hTE.keep (TS.same (same_upd nbq)), hG.2, upd_same, by show 0 + size t ≤ 100000; omega, fun l3 res HF sF eF hk hl => ?_⟩⟩
      have sEF := (same_upd (o := .lst ([] : List V)) nbq).trans sF
      refine ⟨l3, res, rfl, SqL.of eF, by omega, fun sp mset nsp => ⟨sp, _, _, rfl, upd_same, fun ys pd ndy soy hys hly npd => ?_⟩⟩
      have sEG := sEF.trans ((same_upd (o := TxO P w sp (has res) mset) nsp).trans (same_upd (o := .lst (ys.map V.str)) npd))
      have ePD : (upd (upd HF sp (TxO P w sp (has res) mset)) pd (.lst (ys.map V.str))) pd = some (.lst (ys.map V.str)) := upd_same
      have hTG := hTE.keep (TS.same (K := K) sEG)
      obtain ⟨HG, hHG⟩ : ∃ HG, HG = upd (upd HF sp (TxO P w sp (has res) mset)) pd (.lst (ys.map V.str)) := ⟨_, rfl⟩
      rw [← hHG] at sEG ePD hTG
      have memy : ∀ k, k ∈ ys ↔ Free k t := fun k => by
        rw [← hys k]
        unfold has
        rw [decide_eq_true_iff, hk k]
        exact ⟨fun z => z.1, fun z => ⟨z, fun y => by cases y⟩⟩
      refine ⟨2, rfl, by decide, by decide, for_range (lo := 0) (n := 2) (fun j σ' H' => ∃ v8 v9 : Option V, σ' = [some (.ref a), some (.int (0 + (i : Int))), some (.ref p), some (.ref nl), some (.ref l2), some (.ref ta), some (.str (dat t).shown), some (.ref pd), v8, v9] ∧ Same HG H') ⟨_, _, rfl, (by rw [hHG]; exact Same.refl _)⟩ ?_ ?_⟩
      · rintro j σ' H' hj ⟨u8, u9, rfl, sI⟩
        refine ⟨_, rfl, _, t, rfl, hTG.keep (TS.same sI), by omega, ⟨ms, by omega, fun k hk => free_good t hG.1 hk⟩, fun lz zs HJ sJ nz ndz soz hz ez => ?_⟩
        have sIJ := sI.trans sJ
        have ezy : zs = ys := sorted_eq ndz ndy soz soy fun k => by rw [hz k, memy k]
        subst ezy
        have loz : ∀ x ∈ zs, Lo x := fun x hx => (okm x (free_good t hG.1 ((memy x).mp hx))).2
        refine ⟨_, rfl, _, _, _, _, true, rfl, .ty _, .base (.lst ez), kit_ty (by decide +kernel), _, rfl, ?_⟩
        refine iteF ?_
        refine ⟨_, rfl, _, rfl, _, _, .lst (SqL.of ez) (dp_strs zs), .lst (SqL.of (sIJ _ _ ePD)) (dp_strs zs), shaped_strs loz, shaped_strs loz, _, rfl, ?_⟩
        rw [eqv_same loz]
        refine iteF ?_
        refine ⟨_, rfl, ta, dat t, rfl, tp_dp (hTG.keep (TS.same sIJ)), okt.sh, PyData.hasDict_of_canLay _ okt.lay, Nat.lt_of_le_of_lt (Nat.add_le_add_left hdp _) hu, hln, ?_⟩
        refine ⟨_, rfl, rfl, _, rfl, ?_⟩
        refine (if_neg (by simp)).mpr ?_
        have lz100 : zs.length ≤ 8 := Nat.le_trans (nodup_sub zs ms ndz fun k hk => free_good t hG.1 ((memy k).mp hk)) mfew
        refine ⟨_, rfl, .inl ⟨rfl, _, .inl (.inl ez)⟩, lz, _, _, rfl, rfl, ez, by rw [List.length_map]; omega, _, _, rfl, same_set sIJ (sI.free nz)⟩
      · rintro σ' H' ⟨u8, u9, rfl, sI⟩
        have sEI := sEG.trans sI
        refine ⟨l2, vs' ++ es, ts' ++ fs (wn t), _, _, _, _, _, rfl, sEI _ _ eE, nl20, tlE.keep (TS.same sEI), fun t' ht' => ?_, ?_, sE.trans sEI, ?_⟩
        · rcases List.mem_append.mp ht' with h | h
          · exact okA t' (List.mem_append_left _ h)
          · obtain ⟨pp, hpp, rfl⟩ := List.mem_map.mp h
            have := each_deep t pp hpp
            exact ⟨good_wn t hG.1 pp hpp, by omega⟩
        · rw [nsum_app]
          omega
        · rw [nsum_app, nsum_app, nsum_one]
          omega
    · rintro σ H1 ⟨_, _, _, _, _, _, _, _, _, rfl, s1⟩
      exact q _
end
end OwK

set_option Elab.async false
set_option linter.all false
set_option maxRecDepth 100000
set_option maxHeartbeats 8000000
namespace OwK
open PySem PySem.Spec PyProof.Rows L2 Ow OwT OwS
theorem all_mk {l : PySem.W.OpenLaw} {w : World} {K : PySem.W.Frag} {h : Heap} {mg : Str → Option Value} {fa : Addr} (X : K.In h) (G : h.Ns mainGlobals mg) (hfa : mg "law" = some (.ref fa))
    {f0 f1 f2 f3 f4 f5 f6 f7 f8 f9 f10 f11 f12 f13 f14 : Addr}
    {od0 an0 od1 an1 od2 an2 od3 an3 od4 an4 od5 an5 od6 an6 od7 an7 od8 an8 od9 an9 od10 an10 od11 an11 od12 an12 od13 an13 od14 an14 : Option Addr} {sl0 sl1 sl2 sl3 sl4 sl5 sl6 sl7 sl8 sl9 sl10 sl11 sl12 sl13 sl14 : Array (Option Value)} {oc0 kV0 dc0 pm0 cd0 ct0 oc1 kV1 dc1 pm1 cd1 ct1 oc2 kV2 dc2 pm2 cd2 ct2 oc3 kV3 dc3 pm3 cd3 ct3 oc4 kV4 dc4 pm4 cd4 ct4 oc5 kV5 dc5 pm5 cd5 ct5 oc6 kV6 dc6 pm6 cd6 ct6 oc7 kV7 dc7 pm7 cd7 ct7 oc8 kV8 dc8 pm8 cd8 ct8 oc9 kV9 dc9 pm9 cd9 ct9 oc10 kV10 dc10 pm10 cd10 ct10 oc11 kV11 dc11 pm11 cd11 ct11 oc12 kV12 dc12 pm12 cd12 ct12 oc13 kV13 dc13 pm13 cd13 ct13 oc14 kV14 dc14 pm14 cd14 ct14 : Value}
    (a0 : PySem.W.nsIn K mainGlobals "named" = some (some (.ref f0))) (l0 : K.lookup f0 = some ⟨oc0, od0, .func (PySem.W.fnOf "named" "named" (defArgs sNamed) (defBody sNamed) (defScope sNamed) .none kV0 dc0 pm0 an0 cd0 ct0), sl0⟩)
    (c0 : PySem.W.codeIn K cd0 "named" = true) (k0 : PySem.W.keepIn K (.ref f0) = true)
    (a1 : PySem.W.nsIn K mainGlobals "within" = some (some (.ref f1))) (l1 : K.lookup f1 = some ⟨oc1, od1, .func (PySem.W.fnOf "within" "within" (defArgs sWithin) (defBody sWithin) (defScope sWithin) .none kV1 dc1 pm1 an1 cd1 ct1), sl1⟩)
    (c1 : PySem.W.codeIn K cd1 "within" = true) (k1 : PySem.W.keepIn K (.ref f1) = true)
    (a2 : PySem.W.nsIn K mainGlobals "free_names" = some (some (.ref f2))) (l2 : K.lookup f2 = some ⟨oc2, od2, .func (PySem.W.fnOf "free_names" "free_names" (defArgs sFree) (defBody sFree) (defScope sFree) .none kV2 dc2 pm2 an2 cd2 ct2), sl2⟩)
    (c2 : PySem.W.codeIn K cd2 "free_names" = true) (k2 : PySem.W.keepIn K (.ref f2) = true)
    (a3 : PySem.W.nsIn K mainGlobals "_law_feed" = some (some (.ref f3))) (l3 : K.lookup f3 = some ⟨oc3, od3, .func (PySem.W.fnOf "_law_feed" "_law_feed" (defArgs sFeed) (defBody sFeed) (defScope sFeed) .none kV3 dc3 pm3 an3 cd3 ct3), sl3⟩)
    (c3 : PySem.W.codeIn K cd3 "_law_feed" = true) (k3 : PySem.W.keepIn K (.ref f3) = true)
    (a4 : PySem.W.nsIn K mainGlobals "_law_take" = some (some (.ref f4))) (l4 : K.lookup f4 = some ⟨oc4, od4, .func (PySem.W.fnOf "_law_take" "_law_take" (defArgs sTake) (defBody sTake) (defScope sTake) .none kV4 dc4 pm4 an4 cd4 ct4), sl4⟩)
    (c4 : PySem.W.codeIn K cd4 "_law_take" = true) (k4 : PySem.W.keepIn K (.ref f4) = true)
    (a5 : PySem.W.nsIn K mainGlobals "_law_pick" = some (some (.ref f5))) (l5 : K.lookup f5 = some ⟨oc5, od5, .func (PySem.W.fnOf "_law_pick" "_law_pick" (defArgs sPick) (defBody sPick) (defScope sPick) .none kV5 dc5 pm5 an5 cd5 ct5), sl5⟩)
    (c5 : PySem.W.codeIn K cd5 "_law_pick" = true) (k5 : PySem.W.keepIn K (.ref f5) = true)
    (a6 : PySem.W.nsIn K mainGlobals "_law_names" = some (some (.ref f6))) (l6 : K.lookup f6 = some ⟨oc6, od6, .func (PySem.W.fnOf "_law_names" "_law_names" (defArgs sNames) (defBody sNames) (defScope sNames) .none kV6 dc6 pm6 an6 cd6 ct6), sl6⟩)
    (c6 : PySem.W.codeIn K cd6 "_law_names" = true) (k6 : PySem.W.keepIn K (.ref f6) = true)
    (a7 : PySem.W.nsIn K mainGlobals "_law_few" = some (some (.ref f7))) (l7 : K.lookup f7 = some ⟨oc7, od7, .func (PySem.W.fnOf "_law_few" "_law_few" (defArgs sFew) (defBody sFew) (defScope sFew) .none kV7 dc7 pm7 an7 cd7 ct7), sl7⟩)
    (c7 : PySem.W.codeIn K cd7 "_law_few" = true) (k7 : PySem.W.keepIn K (.ref f7) = true)
    (a8 : PySem.W.nsIn K mainGlobals "_law_made" = some (some (.ref f8))) (l8 : K.lookup f8 = some ⟨oc8, od8, .func (PySem.W.fnOf "_law_made" "_law_made" (defArgs sMade) (defBody sMade) (defScope sMade) .none kV8 dc8 pm8 an8 cd8 ct8), sl8⟩)
    (c8 : PySem.W.codeIn K cd8 "_law_made" = true) (k8 : PySem.W.keepIn K (.ref f8) = true)
    (a9 : PySem.W.nsIn K mainGlobals "_law_leaf" = some (some (.ref f9))) (l9 : K.lookup f9 = some ⟨oc9, od9, .func (PySem.W.fnOf "_law_leaf" "_law_leaf" (defArgs sLeaf) (defBody sLeaf) (defScope sLeaf) .none kV9 dc9 pm9 an9 cd9 ct9), sl9⟩)
    (c9 : PySem.W.codeIn K cd9 "_law_leaf" = true) (k9 : PySem.W.keepIn K (.ref f9) = true)
    (a10 : PySem.W.nsIn K mainGlobals "_law_worth" = some (some (.ref f10))) (l10 : K.lookup f10 = some ⟨oc10, od10, .func (PySem.W.fnOf "_law_worth" "_law_worth" (defArgs sWorth) (defBody sWorth) (defScope sWorth) .none kV10 dc10 pm10 an10 cd10 ct10), sl10⟩)
    (c10 : PySem.W.codeIn K cd10 "_law_worth" = true) (k10 : PySem.W.keepIn K (.ref f10) = true)
    (a11 : PySem.W.nsIn K mainGlobals "_law_term" = some (some (.ref f11))) (l11 : K.lookup f11 = some ⟨oc11, od11, .func (PySem.W.fnOf "_law_term" "_law_term" (defArgs sTerm) (defBody sTerm) (defScope sTerm) .none kV11 dc11 pm11 an11 cd11 ct11), sl11⟩)
    (c11 : PySem.W.codeIn K cd11 "_law_term" = true) (k11 : PySem.W.keepIn K (.ref f11) = true)
    (a12 : PySem.W.nsIn K mainGlobals "_law_open" = some (some (.ref f12))) (l12 : K.lookup f12 = some ⟨oc12, od12, .func (PySem.W.fnOf "_law_open" "_law_open" (defArgs sOpen) (defBody sOpen) (defScope sOpen) .none kV12 dc12 pm12 an12 cd12 ct12), sl12⟩)
    (c12 : PySem.W.codeIn K cd12 "_law_open" = true) (k12 : PySem.W.keepIn K (.ref f12) = true)
    (a13 : PySem.W.nsIn K mainGlobals "_law_inner" = some (some (.ref f13))) (l13 : K.lookup f13 = some ⟨oc13, od13, .func (PySem.W.fnOf "_law_inner" "_law_inner" (defArgs sInner) (defBody sInner) (defScope sInner) .none kV13 dc13 pm13 an13 cd13 ct13), sl13⟩)
    (c13 : PySem.W.codeIn K cd13 "_law_inner" = true) (k13 : PySem.W.keepIn K (.ref f13) = true)
    (a14 : PySem.W.nsIn K mainGlobals "law" = some (some (.ref f14))) (l14 : K.lookup f14 = some ⟨oc14, od14, .func (PySem.W.fnOf "law" "law" (defArgs sLaw) (defBody sLaw) (defScope sLaw) .none kV14 dc14 pm14 an14 cd14 ct14), sl14⟩)
    (c14 : PySem.W.codeIn K cd14 "law" = true) (k14 : PySem.W.keepIn K (.ref f14) = true)
    (z0 : PySem.W.nsIn K mainGlobals "range" = some none)
    (z1 : PySem.W.nsIn K mainGlobals "max" = some none)
    (z2 : PySem.W.nsIn K mainGlobals "min" = some none)
    (z3 : PySem.W.nsIn K mainGlobals "len" = some none)
    (z4 : PySem.W.nsIn K mainGlobals "isinstance" = some none)
    (z5 : PySem.W.nsIn K mainGlobals "list" = some none)
    (z6 : PySem.W.nsIn K mainGlobals "repr" = some none)
    (z7 : PySem.W.nsIn K mainGlobals "set" = some none)
    (z8 : PySem.W.nsIn K mainGlobals "sorted" = some none)
    (z9 : PySem.W.nsIn K mainGlobals "abs" = some none)
    (z10 : PySem.W.nsIn K mainGlobals "tuple" = some none)
    : LawG l.prog w K 63 "script" mg fa h := by
  have e := hfa.symm.trans (PySem.W.mg_of X G a14)
  cases e
  have F0 : Fun K "named" "named" sNamed f0 _ := fun_mk (st := sNamed) l0 c0 k0
  have b0 := F0.binds (ps := ["term"]) fun _ _ _ _ _ _ us hl => match us, hl with | [_], _ => rfl
  have g0 := PySem.W.mg_of X G a0
  have F1 : Fun K "within" "within" sWithin f1 _ := fun_mk (st := sWithin) l1 c1 k1
  have b1 := F1.binds (ps := ["term"]) fun _ _ _ _ _ _ us hl => match us, hl with | [_], _ => rfl
  have g1 := PySem.W.mg_of X G a1
  have F2 : Fun K "free_names" "free_names" sFree f2 _ := fun_mk (st := sFree) l2 c2 k2
  have b2 := F2.binds (ps := ["term"]) fun _ _ _ _ _ _ us hl => match us, hl with | [_], _ => rfl
  have g2 := PySem.W.mg_of X G a2
  have F3 : Fun K "_law_feed" "_law_feed" sFeed f3 _ := fun_mk (st := sFeed) l3 c3 k3
  have b3 := F3.binds (ps := ["script", "k"]) fun _ _ _ _ _ _ us hl => match us, hl with | [_, _], _ => rfl
  have g3 := PySem.W.mg_of X G a3
  have F4 : Fun K "_law_take" "_law_take" sTake f4 _ := fun_mk (st := sTake) l4 c4 k4
  have b4 := F4.binds (ps := ["feed", "many"]) fun _ _ _ _ _ _ us hl => match us, hl with | [_, _], _ => rfl
  have g4 := PySem.W.mg_of X G a4
  have F5 : Fun K "_law_pick" "_law_pick" sPick f5 _ := fun_mk (st := sPick) l5 c5 k5
  have b5 := F5.binds (ps := ["feed", "some"]) fun _ _ _ _ _ _ us hl => match us, hl with | [_, _], _ => rfl
  have g5 := PySem.W.mg_of X G a5
  have F6 : Fun K "_law_names" "_law_names" sNames f6 _ := fun_mk (st := sNames) l6 c6 k6
  have b6 := F6.binds (ps := ["feed"]) fun _ _ _ _ _ _ us hl => match us, hl with | [_], _ => rfl
  have g6 := PySem.W.mg_of X G a6
  have F7 : Fun K "_law_few" "_law_few" sFew f7 _ := fun_mk (st := sFew) l7 c7 k7
  have b7 := F7.binds (ps := ["feed", "names", "most"]) fun _ _ _ _ _ _ us hl => match us, hl with | [_, _, _], _ => rfl
  have g7 := PySem.W.mg_of X G a7
  have F8 : Fun K "_law_made" "_law_made" sMade f8 _ := fun_mk (st := sMade) l8 c8 k8
  have b8 := F8.binds (ps := ["feed", "names"]) fun _ _ _ _ _ _ us hl => match us, hl with | [_, _], _ => rfl
  have g8 := PySem.W.mg_of X G a8
  have F9 : Fun K "_law_leaf" "_law_leaf" sLeaf f9 _ := fun_mk (st := sLeaf) l9 c9 k9
  have b9 := F9.binds (ps := ["feed", "names"]) fun _ _ _ _ _ _ us hl => match us, hl with | [_, _], _ => rfl
  have g9 := PySem.W.mg_of X G a9
  have F10 : Fun K "_law_worth" "_law_worth" sWorth f10 _ := fun_mk (st := sWorth) l10 c10 k10
  have b10 := F10.binds (ps := ["feed", "names", "box", "deep"]) fun _ _ _ _ _ _ us hl => match us, hl with | [_, _, _, _], _ => rfl
  have g10 := PySem.W.mg_of X G a10
  have F11 : Fun K "_law_term" "_law_term" sTerm f11 _ := fun_mk (st := sTerm) l11 c11 k11
  have b11 := F11.binds (ps := ["feed", "names", "box", "deep"]) fun _ _ _ _ _ _ us hl => match us, hl with | [_, _, _, _], _ => rfl
  have g11 := PySem.W.mg_of X G a11
  have F12 : Fun K "_law_open" "_law_open" sOpen f12 _ := fun_mk (st := sOpen) l12 c12 k12
  have b12 := F12.binds (ps := ["term", "bound"]) fun _ _ _ _ _ _ us hl => match us, hl with | [_, _], _ => rfl
  have g12 := PySem.W.mg_of X G a12
  have F13 : Fun K "_law_inner" "_law_inner" sInner f13 _ := fun_mk (st := sInner) l13 c13 k13
  have b13 := F13.binds (ps := ["term"]) fun _ _ _ _ _ _ us hl => match us, hl with | [_], _ => rfl
  have g13 := PySem.W.mg_of X G a13
  have F14 : Fun K "law" "law" sLaw fa _ := fun_mk (st := sLaw) l14 c14 k14
  have none_of : ∀ {x : Str}, PySem.W.nsIn K mainGlobals x = some none → mg x = none := fun z => PySem.W.mg_none_of X G z
  refine ⟨PySem.W.fnOf "law" "law" (defArgs sLaw) (defBody sLaw) (defScope sLaw) .none kV14 dc14 pm14 an14 cd14 ct14, [], spLaw K, (fun p hp => by cases hp), (fun p hp => by cases hp), (fun p hp => by cases hp), fun s v => .of_eq rfl, fun H a ns hl _ hS => ⟨a, ns, rfl, hS, hl, fun _ => rfl⟩, fun base _ _ _ => ?_⟩
  have GE : FnOk l.prog w K mg base CX0 1 f3 _ ["script", "k"] (spFeed K) := ok_feed F3 (none_of z3) (none_of z1) (none_of z9)
  have GT : FnOk l.prog w K mg base CX0 1 f4 _ ["feed", "many"] spTake := ok_take F4
  have GP : FnOk l.prog w K mg base CX0 2 f5 _ ["feed", "some"] (spPick K) := ok_pick F5 F4 b4 g4 (none_of z3)
  have GN : FnOk l.prog w K mg base CX0 3 f6 _ ["feed"] spNames := ok_names F6 GT g4 k4 b4 GP g5 k5 b5 (none_of z0)
  have GF : FnOk l.prog w K mg base CX0 3 f7 _ ["feed", "names", "most"] (spFew K) := ok_few F7 GT g4 k4 b4 GP g5 k5 b5 (none_of z0) (none_of z10)
  have GM : FnOk l.prog w K mg base CX0 3 f8 _ ["feed", "names"] (spOne K) := ok_made F8 GT g4 k4 b4 GP g5 k5 b5 (none_of z0) (none_of z10)
  have GL : FnOk l.prog w K mg base CX0 4 f9 _ ["feed", "names"] (spOne K) := ok_leaf F9 GT g4 k4 b4 GP g5 k5 b5 GM g8 k8 b8
  have C : Cs l.prog w K mg base f4 f5 f7 f8 f9 f10 f11 _ _ _ _ _ _ _ := ⟨GT, g4, k4, b4, GP, g5, k5, b5, GF, g7, k7, b7, GM, g8, k8, b8, GL, g9, k9, b9, g10, k10, b10, g11, k11, b11, (none_of z0), (none_of z10)⟩
  have GR := (ok_terms C F11 F10 8).1
  have GO := ok_opens (P := l.prog) (w := w) (base := base) F12 g12 k12 b12 (none_of z5) 17
  have GI : FnOk l.prog w K mg base CX0 1 f13 _ ["term"] (spInner K) := ok_inner F13 (none_of z5)
  have GG : FnOk l.prog w K mg base CX0 2 f2 _ ["term"] (spFree K) := ok_free F2 F0 g0 b0 F1 g1 b1 (none_of z10) (none_of z8)
  exact ok_law F14 ⟨(none_of z0), (none_of z1), (none_of z2), (none_of z3), (none_of z4), (none_of z5), (none_of z6), (none_of z7), (none_of z8), g3, g4, g5, g6, g11, g12, g13, g2⟩ GE k3 b3 GT k4 b4 GP k5 b5 GN k6 b6 GR k11 b11 GO k12 b12 GI k13 b13 GG k2 b2 ⟨rfl, by decide, by decide⟩
end OwK
open PySem PySem.W PyProof.Rows
set_option maxHeartbeats 0 in
theorem PySem.Challenge.cw_owedonce_k04_names_that_are_free_holds : PySem.Challenge.rw_owedonce_k04_names_that_are_free.Holds := by
  w_on; o_law; k_head; (case hw => w_witness2)
  k_fill
  refine Ow.walk_at (l := PySem.Challenge.rw_owedonce_k04_names_that_are_free) (n := 63) (x := "script") rfl (by decide) rfl (fun w h Y => PySem.W.kIn_of Y) ?F
  case F =>
    intro w mg fa h KX G hmg tabs
    refine' OwK.all_mk KX G hmg ?a0 ?l0 ?c0 ?k0 ?a1 ?l1 ?c1 ?k1 ?a2 ?l2 ?c2 ?k2 ?a3 ?l3 ?c3 ?k3 ?a4 ?l4 ?c4 ?k4 ?a5 ?l5 ?c5 ?k5 ?a6 ?l6 ?c6 ?k6 ?a7 ?l7 ?c7 ?k7 ?a8 ?l8 ?c8 ?k8 ?a9 ?l9 ?c9 ?k9 ?a10 ?l10 ?c10 ?k10 ?a11 ?l11 ?c11 ?k11 ?a12 ?l12 ?c12 ?k12 ?a13 ?l13 ?c13 ?k13 ?a14 ?l14 ?c14 ?k14 ?z0 ?z1 ?z2 ?z3 ?z4 ?z5 ?z6 ?z7 ?z8 ?z9 ?z10
    (case a0 => k_is); (case l0 => k_is); (case c0 => k_is); (case k0 => k_is)
    (case a1 => k_is); (case l1 => k_is); (case c1 => k_is); (case k1 => k_is)
    (case a2 => k_is); (case l2 => k_is); (case c2 => k_is); (case k2 => k_is)
    (case a3 => k_is); (case l3 => k_is); (case c3 => k_is); (case k3 => k_is)
    (case a4 => k_is); (case l4 => k_is); (case c4 => k_is); (case k4 => k_is)
    (case a5 => k_is); (case l5 => k_is); (case c5 => k_is); (case k5 => k_is)
    (case a6 => k_is); (case l6 => k_is); (case c6 => k_is); (case k6 => k_is)
    (case a7 => k_is); (case l7 => k_is); (case c7 => k_is); (case k7 => k_is)
    (case a8 => k_is); (case l8 => k_is); (case c8 => k_is); (case k8 => k_is)
    (case a9 => k_is); (case l9 => k_is); (case c9 => k_is); (case k9 => k_is)
    (case a10 => k_is); (case l10 => k_is); (case c10 => k_is); (case k10 => k_is)
    (case a11 => k_is); (case l11 => k_is); (case c11 => k_is); (case k11 => k_is)
    (case a12 => k_is); (case l12 => k_is); (case c12 => k_is); (case k12 => k_is)
    (case a13 => k_is); (case l13 => k_is); (case c13 => k_is); (case k13 => k_is)
    (case a14 => k_is); (case l14 => k_is); (case c14 => k_is); (case k14 => k_is)
    (case z0 => k_is)
    (case z1 => k_is)
    (case z2 => k_is)
    (case z3 => k_is)
    (case z4 => k_is)
    (case z5 => k_is)
    (case z6 => k_is)
    (case z7 => k_is)
    (case z8 => k_is)
    (case z9 => k_is)
    (case z10 => k_is)
