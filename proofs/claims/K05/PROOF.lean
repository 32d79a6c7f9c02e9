import PyProof.Rows.All
import Wide.All
import OpenK.AllK
import Wide.FinOn
import PyProof.EqAt
import PyProof.EqKinds
import PyProof.TupleCall
import KE.KStateDown
import Lean
import HandS.Base
import HandS.Call
import HandS.List
import HandS.Comp
import HandS.Ends
import HandS.Dict
import HandS.Iter
import HandS.More
import HandS.Words
import HandS.WordsList
import HandS.WordsDict
import HandS.Exc
import HandS.WordsExc
import HandS.Defaults
import HandS.Head0
import HandS.Head1
import HandS.Head2
import HandS.HeadEnd
import HandS.HeadHook1
import HandS.HeadHook2
import HandS.EndBits
import HandS.Wide
import HandS.IsInst
import HandS.Style
import HandS.Flow
import HandS.SortInts
import HandS.ExcIs
import HandS.Conv
import HandS.Text
import HandS.Walk
import HandS.MakeKwOnly
import HandS.Codes
import HandS.Zip0
import KE.KDictPairs
import PySem.Challenge.RW_editionrows_k05_whole_values_behind_chan
set_option Elab.async false
set_option linter.all false
set_option maxRecDepth 100000
set_option maxHeartbeats 4000000
/-! What every text of ours begins with: a called def in one word, the head's Hook with one more Bool, the end with the script's bits. -/
namespace Evl2
open PySem PySem.Spec PyProof.Rows L2
/-- a def of the text, with its promise, as a caller takes it -/
structure Callee (P : Program) (w : World) (K : PySem.W.Frag) (mg : Str → Option Value) (base : Heap) (CX : CXT) (k : Nat) (x : Str) (ps : List Str) (dvs : List V) (sp : Sp) : Prop where
  ex : ∃ (fd : FuncData) (ds : List Value), FnOk P w K mg base CX k (He.ga K x) fd ps sp ∧ Binds K fd ps ds ∧ Vals dvs ds
  kp : PySem.W.keepIn K (.ref (He.ga K x)) = true
  g : mg x = some (.ref (He.ga K x))
theorem Callee.up {P : Program} {w : World} {K : PySem.W.Frag} {mg : Str → Option Value} {base : Heap} {CX : CXT} {j k : Nat} {x : Str} {ps : List Str} {dvs : List V} {sp : Sp}
    (C : Callee P w K mg base CX j x ps dvs sp) (h : j ≤ k) : Callee P w K mg base CX k x ps dvs sp := by
  obtain ⟨fd, ds, F, b, v⟩ := C.ex
  exact ⟨⟨fd, ds, F.mono h, b, v⟩, C.kp, C.g⟩
/-- f(e, ..) -/
theorem pcall {X : Cx} {k : Nat} {x : Str} {ps : List Str} {dvs : List V} {sp : Sp} {p pos : Pos} {e : Expr} {es : List Expr} {t : TA} (C : Callee X.prog X.w X.K X.mg X.base CX0 k x ps dvs sp) (hr : Room k X.A) (ha : PA X (e :: es) t) (hg : Gl X x := by rfl)
    (hdb : (x == ("__debug__" : Str)) = false := by decide) (he : starEach (e :: es) X.env = (false, eval e X.env) :: starEach es X.env := by rfl) (hpl : (backTo pos (starEach es X.env)).any (·.1) = false := by rfl) :
    PE X (.Call (.Name x p) (e :: es) [] pos) (tCall sp dvs E0 t) := by
  obtain ⟨fd, ds, F, b, v⟩ := C.ex
  exact pe_call F hr hg C.g C.kp b v pass0 ha hdb he hpl
/-- f() -/
theorem pcall0 {X : Cx} {k : Nat} {x : Str} {ps : List Str} {dvs : List V} {sp : Sp} {p pos : Pos} (C : Callee X.prog X.w X.K X.mg X.base CX0 k x ps dvs sp) (hr : Room k X.A) (hg : Gl X x := by rfl)
    (hdb : (x == ("__debug__" : Str)) = false := by decide) : PE X (.Call (.Name x p) [] [] pos) (tCall sp dvs E0 tNil) := by
  obtain ⟨fd, ds, F, b, v⟩ := C.ex
  exact pe_call0 F hr hg C.g C.kp b v pass0 hdb
/-! ### the head's Hook: the library's facts and one more Bool -/
abbrev AlP : Type := He.AlD × Bool
def obsP (n : Nat) (fa : List He.Fa) (fn : List He.DefD) (ex : PySem.W.Frag → Bool) (g : Addr → Option Obj) : AlP := (He.obsD fa fn (He.frG g (He.asD g n)), ex (He.frG g (He.asD g n)))
def valP (fn : List He.DefD) : AlP := (He.valD fn, true)
def hookP (n : Nat) (fa : List He.Fa) (fn : List He.DefD) (ex : PySem.W.Frag → Bool) : PySem.W.Hook where
  α := AlP
  obs := fun s => obsP n fa fn ex s.heap.get?
  val := fun _ => valP fn
  says := fun _ h => ∃ K : PySem.W.Frag, K.In h ∧ (He.SaysD fa fn K ∧ ex K = true)
  of := fun _ _ e => ⟨_, He.frG_in, congrArg (fun z : AlP => z.1) e, congrArg (fun z : AlP => z.2) e⟩
  keeps := fun _ _ _ ⟨K, hK, c⟩ k => ⟨K, PySem.W.Frag.In.keeps hK k, c⟩
theorem obsP_eq {n : Nat} {fa : List He.Fa} {fn : List He.DefD} {ex : PySem.W.Frag → Bool} {g : Addr → Option Obj} {s : Shared} (h : ∀ a, g a = s.heap.get? a) : obsP n fa fn ex g = (hookP n fa fn ex).obs s := by
  have e : g = s.heap.get? := funext h
  rw [e] <;> rfl
/-- what a law's end wants of its promise at a written part K -/
def LawOk (l : PySem.W.OpenLaw) (w : World) (mg : Str → Option Value) (CX : CXT) (k n : Nat) (x : Str) (fa : Addr) (K : PySem.W.Frag) : Prop :=
  ∃ (fd : FuncData) (sp : Sp), (∀ (s : Shared) (u : Value), BindsTo s fd ⟨[u], []⟩ [(x, u)]) ∧
    (∀ (H : Hp) (a : Addr) (ns : List Int), ns.length ≤ n → (∀ z ∈ ns, Builtin.Int.intBits z ≤ 1048576) → Only H → SqL K H a (ns.map V.int) → sp [.ref a] H (fun v _ => v = .bl true) fun _ _ _ => False) ∧
    ∀ base : Heap, K.In base → base.Ns mainGlobals mg → FnOk l.prog w K mg base CX k fa fd [x] sp
theorem walk_bits {l : PySem.W.OpenLaw} {n k : Nat} {q : Program} {loose : List Str} {XP : (Str → Option Value) → Heap → Prop} {YP : World → Heap → Prop} {d : DefRec} {CX : CXT} {x : Str} (hn : l.most = some n) (hn2 : n ≤ sizeLine) (hdf : d.params.defaults = []) (hr : Room k callerA)
    (F : ∀ (w : World) (mg : Str → Option Value) (fa : Addr) (h : Heap), YP w h → h.Ns mainGlobals mg → mg d.name = some (.ref fa) → ∃ K : PySem.W.Frag, K.In h ∧ LawOk l w mg CX k n x fa K)
    (hCX : ∀ (H : Hp) (s : Shared) (e : Value) (s' : Shared), CX [] H s (fun _ _ _ => False) e s' → False) : PySem.W.WalkO q loose XP YP l.row.toRowW d [] (fun f vs => PySem.call f vs) := by
  refine Att.attach_callB hn hdf fun w s₀ s₁ mg mb fa o pm cd doc a vs ns G Y ho hd hcd hmg hobj hints hlen hbits hg => ?_
  obtain ⟨K, KX, fd, sp, hb, hsp, hF⟩ := F w mg fa _ Y G.T.g hmg
  exact law_call KX G.T.g G.T.b G.T.builtins G.T.nolimit hg hobj hints (Nat.le_trans hlen hn2) hr hF hb (fun H hO hS => hsp H a ns hlen hbits hO hS) fun H e s' => hCX H s₁ e s'
end Evl2
/-! ### more words of ours -/
namespace Evl2
open PySem PySem.Spec PyProof.Rows L2
section
variable {P : Program} {w : World} {K : PySem.W.Frag} {mg : Str → Option Value} {base : Heap}
/-- a def without defaults, as a callee -/
theorem mkCallee {x : Str} {params : Arguments} {body : List Stmt} {scope : Scope} {N ps : List Str} {k : Nat} {sp : Sp} (hF : ∃ fd, FunD K x x params body scope [] [] (He.ga K x) fd) (hg : mg x = some (.ref (He.ga K x))) (S : FnScope N ps scope)
    (hb : ∀ (kV doc pm : Value) (an : Option Addr) (cdv ct : Value) (us : List Value), us.length = ps.length → bindArgs (PySem.W.fnOf x x params body scope .none kV doc pm an cdv ct) ⟨us, []⟩ = pure (ps.zip us))
    (len : ∀ vs H Q E, sp vs H Q E → vs.length = ps.length)
    (hbody : ∀ (cdv : Value) (A : Around) (outer : List Env) (s : Shared) (H : Hp) (vs : List V) (Q : VK) (E : XK), Room k (A.deeper (envOfC x scope s.heap.objs.size (He.ga K x) cdv)) → sp vs H Q E →
      ∃ t, PSs (cxOf CX0 P w K mg base N x scope (He.ga K x) cdv A outer s H E).nox body t ∧ t { nx := fun _ H' => Q .non H', rt := Q } (start N vs) H) : Callee P w K mg base CX0 (k + 1) x ps [] sp := by
  obtain ⟨fd, F⟩ := hF
  refine ⟨⟨fd, [], F.ok S len fun cdv A outer s H vs Q E hr h => ?_, F.bindsN hb, .nil⟩, F.kp, hg⟩
  obtain ⟨t, h1, h2⟩ := hbody cdv A outer s H vs Q E hr h
  exact ⟨t, h1.nox, h2⟩
end
theorem s_whenX {t : TT} {tu : TS} {D : Ends} {σ : L2.St} {H : Hp} (P : Hp → Prop) (test : ∀ R : Bool → Hp → Prop, (∀ b H1, P H1 → R b H1) → t σ H R) (body : ∀ H1, P H1 → tu D σ H1) (skip : ∀ H1, P H1 → D.nx σ H1) : tIfS t tu tNext D σ H :=
  test _ fun b H1 p => by
    cases b
    · exact iteF (skip H1 p)
    · exact iteT (body H1 p)
theorem nxt {D : Ends} {σ : L2.St} {H : Hp} (h : D.nx σ H) : tNext D σ H := h
theorem iteD {c A B : Prop} [Decidable c] (hc : ¬ c) (h : B) : if decide c = true then A else B := by
  rw [decide_eq_false hc]
  exact iteF h
theorem iteDT {c A B : Prop} [Decidable c] (hc : c) (h : A) : if decide c = true then A else B := by
  rw [decide_eq_true hc]
  exact iteT h
theorem iteNF {c A B : Prop} [Decidable c] (hc : ¬ c) (h : A) : if (!decide c) = true then A else B := by
  rw [decide_eq_false hc]
  exact iteT h
theorem nes {a b : Str} (h : a ≠ b) : ¬ V.str a = V.str b := fun z => h (V.str.inj z)
theorem nei {a b : Int} (h : a ≠ b) : ¬ V.int a = V.int b := fun z => h (V.int.inj z)
/-- an own error class that is kept -/
def excB (K : PySem.W.Frag) (x : Str) : Bool := PySem.W.keepIn K (.ref (He.ga K x))
/-- what isinstance asks of an own class -/
def insB (K : PySem.W.Frag) (x : Str) : Bool := decide (PySem.W.findIn K (.ref (He.ga K x)) "__class__" = some (some (.builtin "object.__class__"))) && (decide (PySem.W.specialIn K (.builtin "object.__class__") "__get__" = some (some (.builtin "getset_descriptor.__get__"))) &&
  (decide (PySem.W.takesIn K (.builtin "object.__class__") = some true) && decide (PySem.W.mroIn K (He.ga K x) (.type "object") = some true)))
theorem insC_of {K : PySem.W.Frag} {x : Str} (h : insB K x = true) (c : Cls K (He.ga K x)) : C8.InsC K (He.ga K x) := by
  unfold insB at h
  rw [Bool.and_eq_true, Bool.and_eq_true, Bool.and_eq_true] at h
  exact ⟨c, of_decide_eq_true h.1, of_decide_eq_true h.2.1, of_decide_eq_true h.2.2.1, of_decide_eq_true h.2.2.2, if_pos (beq_self_eq_true _)⟩
/-- the empty tuple of the written part -/
def emptyTupB (K : PySem.W.Frag) (a : Addr) : Bool := match K.lookup a with
  | some ⟨.type c, _, .seq its _, _⟩ => decide (c = "tuple") && decide (its.size = 0)
  | _ => false
/-- a pool of draws: a list of two ints -/
def Pl (H : Hp) (a : Addr) : Prop := ∃ z0 z1 : Int, H a = some (.lst [.int z0, .int z1])
/-- all but what stands at a is as it was, at a stands a pool -/
def PlEx (a : Addr) (H H' : Hp) : Prop := (∀ b o, b ≠ a → H b = some o → H' b = some o) ∧ Pl H' a
theorem mod_lo {i j : Int} (h : 0 < j) : 0 ≤ i.fmod j := Int.fmod_nonneg_of_pos i h
theorem mod_hi {i j : Int} (h : 0 < j) : i.fmod j < j := Int.fmod_lt_of_pos i h
/-- values of built-in types: is it an int (no bool)? -/
def isI : V → Bool
  | .int _ => true
  | _ => false
theorem kit_whole {K : PySem.W.Frag} {H : Hp} {x : V} {t : String} (ty : TyX K H x (.type t)) : ∃ a b : Bool, kitB t "int" = some a ∧ kitB t "bool" = some b ∧ (a && !b) = isI x := by
  cases ty with
  | base h => cases h <;> first | exact ⟨true, false, by decide +kernel, by decide +kernel, rfl⟩ | exact ⟨true, true, by decide +kernel, by decide +kernel, rfl⟩ | exact ⟨false, false, by decide +kernel, by decide +kernel, rfl⟩
  | _ => exact ⟨false, false, by decide +kernel, by decide +kernel, rfl⟩
/-! ### heaps -/
theorem same_new {H : Hp} {p : Addr} {o : HO} (h : H p = none) : Same H (upd H p o) := fun a u e => by
  rw [upd_ne (ne_of_none e h)]
  exact e
theorem same_mut {H H' : Hp} {p : Addr} {o : HO} (e : Same H H') (h : H p = none) : Same H (upd H' p o) := fun a u ha => by
  rw [upd_ne (ne_of_none ha h)]
  exact e a u ha
theorem same_tup {K : PySem.W.Frag} {H H' : Hp} {a : Addr} {xs : List V} (e : Same H H') (h : SqT K H a xs) : SqT K H' a xs := by
  rcases h with (h | ⟨o, h⟩) | h
  · exact .inl (.inl (e _ _ h))
  · exact .inl (.inr ⟨o, e _ _ h⟩)
  · exact .inr h
theorem sqL_of {K : PySem.W.Frag} {H : Hp} {a : Addr} {xs : List V} (h : H a = some (.lst xs)) : SqL K H a xs := .inl (.inl h)
theorem sqT_of {K : PySem.W.Frag} {H : Hp} {a : Addr} {xs : List V} (h : H a = some (.tup xs)) : SqT K H a xs := .inl (.inl h)
/-! ### comprehensions that change nothing -/
section
variable {K : PySem.W.Frag} {σ : L2.St} {H : Hp} {tl te : TE} {ta : TA} {tt : TT} {j : Nat} {vs : List Nat} {Q : VK} {xs : List V}
theorem lc_one {f : V → Bool} {v : V → V} {H' : Hp} {D : Addr} {zs : List V} {x : V} (hD : H D = none) (hz : zs.length ≤ 100000) {σ2 : L2.St} (p : Same H H' ∧ H' D = some (.lst zs))
    (ht : ∀ R : Bool → Hp → Prop, (∀ H2, Same H' H2 → R (f x) H2) → tt σ2 H' R) (he : f x = true → ∀ H', Same H H' → ∀ R : VK, (∀ H2, Same H' H2 → R (v x) H2) → te σ2 H' R) {N : Hp → Prop}
    (hN : ∀ H', Same H H' → H' D = some (.lst (zs ++ ([x].filter f).map v)) → N H') :
    tt σ2 H' fun b H3 => if b = true then te σ2 H3 fun y H4 => ∃ acc, H4 D = some (.lst acc) ∧ acc.length < sizeLine ∧ N (upd H4 D (.lst (acc ++ [y]))) else N H3 := by
  refine ht _ fun H3 e3 => ?_
  cases hf : f x with
  | true =>
    refine iteT (he hf H3 (p.1.trans e3) _ fun H4 e4 => ⟨zs, e4 D _ (e3 D _ p.2), Nat.lt_of_le_of_lt hz (by decide), hN _ (same_mut ((p.1.trans e3).trans e4) hD) ?_⟩)
    rw [upd_same, List.filter_cons, if_pos hf]
    rfl
  | false =>
    refine iteF (hN _ (p.1.trans e3) ?_)
    rw [List.filter_cons, if_neg (by rw [hf]; decide)]
    show H3 D = some (.lst (zs ++ []))
    rw [List.append_nil]
    exact e3 D _ p.2
theorem take_one (f : V → Bool) (v : V → V) {i : Nat} {x : V} (h : xs[i]? = some x) : ((xs.take i).filter f).map v ++ ([x].filter f).map v = ((xs.take (i + 1)).filter f).map v := by
  rw [List.take_add_one, h, List.filter_append, List.map_append]
  rfl
theorem take_len (f : V → Bool) (v : V → V) (i : Nat) : (((xs.take i).filter f).map v).length ≤ xs.length := by
  rw [List.length_map]
  refine Nat.le_trans (List.length_filter_le _ _) ?_
  rw [List.length_take]
  exact Nat.min_le_right _ _
theorem tlc_L (f : V → Bool) (v : V → V) (htl : ∀ R : VK, (∀ a H1, Same H H1 → SqL K H1 a xs → R (.ref a) H1) → tl σ H R) (hz : xs.length ≤ 100000) (hw : ∀ x, wipe ((wipe σ vs).set j (some x)) vs = wipe σ vs)
    (ht : ∀ x ∈ xs, ∀ H', Same H H' → ∀ R : Bool → Hp → Prop, (∀ H2, Same H' H2 → R (f x) H2) → tt ((wipe σ vs).set j (some x)) H' R)
    (he : ∀ x ∈ xs, f x = true → ∀ H', Same H H' → ∀ R : VK, (∀ H2, Same H' H2 → R (v x) H2) → te ((wipe σ vs).set j (some x)) H' R)
    (k : ∀ D H', H D = none → Same H H' → H' D = some (.lst ((xs.filter f).map v)) → Q (.ref D) H') : tLc (iList K tl) (gName j) tt te vs σ H Q := by
  refine htl _ fun a H1 e1 hs => ⟨a, rfl, ⟨xs, hs⟩, fun D hD => ?_⟩
  have key : ∀ i x H', xs[i]? = some x → (Same H1 H' ∧ H' D = some (.lst (((xs.take i).filter f).map v))) → gName j x (wipe σ vs) H' fun σ2 H2 => wipe σ2 vs = wipe σ vs ∧ tt σ2 H2 fun b H3 =>
      if b = true then te σ2 H3 fun y H4 => ∃ acc, H4 D = some (.lst acc) ∧ acc.length < sizeLine ∧ (Same H1 (upd H4 D (.lst (acc ++ [y]))) ∧ (upd H4 D (.lst (acc ++ [y]))) D = some (.lst (((xs.take (i + 1)).filter f).map v)))
      else (Same H1 H3 ∧ H3 D = some (.lst (((xs.take (i + 1)).filter f).map v))) := fun i x H' hi p =>
    ⟨hw x, lc_one (N := fun H' => Same H1 H' ∧ H' D = some (.lst (((xs.take (i + 1)).filter f).map v))) (f := f) (v := v) (x := x) hD (Nat.le_trans (take_len f v i) hz) p (ht x (List.mem_of_getElem? hi) H' (e1.trans p.1))
      (fun hf H2 e2 => he x (List.mem_of_getElem? hi) hf H2 (e1.trans e2)) fun H2 s2 d2 => ⟨s2, by rw [d2, take_one f v hi]⟩⟩
  refine lc_list (xs := xs) (fun i H' => Same H1 H' ∧ H' D = some (.lst (((xs.take i).filter f).map v))) ⟨same_new hD, ?_⟩ (fun i H' _ p => p.1.seq hs) key fun H' p => k D H' (e1.free hD) (e1.trans p.1) ?_
  · exact upd_same
  · have q := p.2
    rw [List.take_length] at q
    exact q
theorem tlc_T (f : V → Bool) (v : V → V) (htl : ∀ R : VK, (∀ a H1, Same H H1 → SqT K H1 a xs → R (.ref a) H1) → tl σ H R) (hz : xs.length ≤ 100000) (hw : ∀ x, wipe ((wipe σ vs).set j (some x)) vs = wipe σ vs)
    (ht : ∀ x ∈ xs, ∀ H', Same H H' → ∀ R : Bool → Hp → Prop, (∀ H2, Same H' H2 → R (f x) H2) → tt ((wipe σ vs).set j (some x)) H' R)
    (he : ∀ x ∈ xs, f x = true → ∀ H', Same H H' → ∀ R : VK, (∀ H2, Same H' H2 → R (v x) H2) → te ((wipe σ vs).set j (some x)) H' R)
    (k : ∀ D H', H D = none → Same H H' → H' D = some (.lst ((xs.filter f).map v)) → Q (.ref D) H') : tLc (iTup K tl) (gName j) tt te vs σ H Q := by
  refine htl _ fun a H1 e1 hs => ⟨a, rfl, ⟨xs, hs⟩, fun D hD => ?_⟩
  have key : ∀ i x H', xs[i]? = some x → (Same H1 H' ∧ H' D = some (.lst (((xs.take i).filter f).map v))) → gName j x (wipe σ vs) H' fun σ2 H2 => wipe σ2 vs = wipe σ vs ∧ tt σ2 H2 fun b H3 =>
      if b = true then te σ2 H3 fun y H4 => ∃ acc, H4 D = some (.lst acc) ∧ acc.length < sizeLine ∧ (Same H1 (upd H4 D (.lst (acc ++ [y]))) ∧ (upd H4 D (.lst (acc ++ [y]))) D = some (.lst (((xs.take (i + 1)).filter f).map v)))
      else (Same H1 H3 ∧ H3 D = some (.lst (((xs.take (i + 1)).filter f).map v))) := fun i x H' hi p =>
    ⟨hw x, lc_one (N := fun H' => Same H1 H' ∧ H' D = some (.lst (((xs.take (i + 1)).filter f).map v))) (f := f) (v := v) (x := x) hD (Nat.le_trans (take_len f v i) hz) p (ht x (List.mem_of_getElem? hi) H' (e1.trans p.1))
      (fun hf H2 e2 => he x (List.mem_of_getElem? hi) hf H2 (e1.trans e2)) fun H2 s2 d2 => ⟨s2, by rw [d2, take_one f v hi]⟩⟩
  refine lc_tup (xs := xs) (fun i H' => Same H1 H' ∧ H' D = some (.lst (((xs.take i).filter f).map v))) ⟨same_new hD, ?_⟩ (fun i H' _ p => same_tup p.1 hs) key fun H' p => k D H' (e1.free hD) (e1.trans p.1) ?_
  · exact upd_same
  · have q := p.2
    rw [List.take_length] at q
    exact q
theorem rg_at {n i : Nat} (h : i < n) : ((List.range n).map fun m : Nat => V.int (m : Int))[i]? = some (V.int (i : Int)) := by
  rw [List.getElem?_map, List.getElem?_range h]
  rfl
theorem tlc_R (f : V → Bool) (v : V → V) (n : Int) (hta : ∀ R : List V → Hp → Prop, (∀ H1, Same H H1 → R [.int n] H1) → ta σ H R) (hz : n ≤ 100000) (hw : ∀ x, wipe ((wipe σ vs).set j (some x)) vs = wipe σ vs)
    (ht : ∀ m : Nat, (m : Int) < n → ∀ H', Same H H' → ∀ R : Bool → Hp → Prop, (∀ H2, Same H' H2 → R (f (.int m)) H2) → tt ((wipe σ vs).set j (some (.int m))) H' R)
    (he : ∀ m : Nat, (m : Int) < n → f (.int m) = true → ∀ H', Same H H' → ∀ R : VK, (∀ H2, Same H' H2 → R (v (.int m)) H2) → te ((wipe σ vs).set j (some (.int m))) H' R) (hlo : -100000 ≤ n)
    (k : ∀ D H', H D = none → Same H H' → H' D = some (.lst ((((List.range n.toNat).map fun m : Nat => V.int (m : Int)).filter f).map v)) → Q (.ref D) H') : tLc (iRng1 ta) (gName j) tt te vs σ H Q := by
  refine hta _ fun H1 e1 => ⟨n, rfl, by omega, by omega, fun D hD => ?_⟩
  have key : ∀ i H', i < n.toNat → (Same H1 H' ∧ H' D = some (.lst (((((List.range n.toNat).map fun m : Nat => V.int (m : Int)).take i).filter f).map v))) → gName j (.int ((0 : Int) + (i : Int))) (wipe σ vs) H' fun σ2 H2 => wipe σ2 vs = wipe σ vs ∧ tt σ2 H2 fun b H3 =>
      if b = true then te σ2 H3 fun y H4 => ∃ acc, H4 D = some (.lst acc) ∧ acc.length < sizeLine ∧ (Same H1 (upd H4 D (.lst (acc ++ [y]))) ∧ (upd H4 D (.lst (acc ++ [y]))) D = some (.lst (((((List.range n.toNat).map fun m : Nat => V.int (m : Int)).take (i + 1)).filter f).map v)))
      else (Same H1 H3 ∧ H3 D = some (.lst (((((List.range n.toNat).map fun m : Nat => V.int (m : Int)).take (i + 1)).filter f).map v))) := fun i H' hi p => by
    have e0 : (0 : Int) + (i : Int) = (i : Int) := Int.zero_add _
    rw [e0]
    have hin : (i : Int) < n := by omega
    have hl := take_len (xs := (List.range n.toNat).map fun m : Nat => V.int (m : Int)) f v i
    have hl2 : ((List.range n.toNat).map fun m : Nat => V.int (m : Int)).length = n.toNat := by simp
    exact ⟨hw _, lc_one (N := fun H' => Same H1 H' ∧ H' D = some (.lst (((((List.range n.toNat).map fun m : Nat => V.int (m : Int)).take (i + 1)).filter f).map v))) (f := f) (v := v) (x := .int i) hD (by omega) p (ht i hin H' (e1.trans p.1))
      (fun hf H2 e2 => he i hin hf H2 (e1.trans e2)) fun H2 s2 d2 => ⟨s2, by rw [d2, take_one f v (rg_at hi)]⟩⟩
  refine lc_range (lo := 0) (n := n.toNat) (fun i H' => Same H1 H' ∧ H' D = some (.lst (((((List.range n.toNat).map fun m : Nat => V.int (m : Int)).take i).filter f).map v))) ⟨same_new hD, ?_⟩ key fun H' p => k D H' (e1.free hD) (e1.trans p.1) ?_
  · exact upd_same
  · have q := p.2
    rw [List.take_of_length_le (by simp)] at q
    exact q
end
section
variable {K : PySem.W.Frag} {σ : L2.St} {H : Hp} {te ta : TE} {tt : TT} {U : TS} {D : Ends}
/-- if t: l.append(e), told by the truth of t -/
theorem q_ifapp {l : Addr} {zs : List V} {v : V} (b : Bool) (ht : ∀ R : Bool → Hp → Prop, (∀ H2, Same H H2 → R b H2) → tt σ H R) (hl : H l = some (.lst zs)) (hz : zs.length ≤ 100000) (ha : ∀ (H : Hp) (R : VK), R (.ref l) H → ta σ H R) (he : ∀ (H : Hp) (R : VK), R v H → te σ H R)
    (k : ∀ H', (∀ c o, c ≠ l → H c = some o → H' c = some o) → H' l = some (.lst (zs ++ if b = true then [v] else [])) → U D σ H') : tSeq (tIfS tt (tDrop (tBM K "list" rAppend ta (tCons te tNil))) tNext) U D σ H := by
  refine ht _ fun H2 s2 => ?_
  cases b with
  | true =>
    refine iteT (ha H2 _ ⟨.inl ⟨rfl, _, sqL_of (s2 _ _ hl)⟩, he _ _ ⟨l, _, _, rfl, rfl, s2 _ _ hl, Nat.lt_of_le_of_lt hz (by decide), k _ (fun c o hc e => ?_) upd_same⟩⟩)
    rw [upd_ne hc]
    exact s2 _ _ e
  | false =>
    refine iteF (k H2 (fun c o _ e => s2 _ _ e) ?_)
    show H2 l = some (.lst (zs ++ []))
    rw [List.append_nil]
    exact s2 _ _ hl
end
section
variable {σ : L2.St} {H : Hp} {te : TE} {U : TS} {D : Ends}
/-- x = e, then the rest -/
theorem q_asgX {i : Nat} (h : te σ H fun x H1 => U D (σ.set i (some x)) H1) : tSeq (tAsg te (gName i)) U D σ H := h
/-- x = e, e some int -/
theorem q_asgI {i : Nat} (h : ∀ R : VK, (∀ z : Int, R (.int z) H) → te σ H R) (k : ∀ z : Int, U D (σ.set i (some (.int z))) H) : tSeq (tAsg te (gName i)) U D σ H := h _ k
end
section
variable {K : PySem.W.Frag} {σ : L2.St} {H : Hp} {X : TE} {r : List V → Hp → VK → Prop} {g : TG} {tb U : TS} {D : Ends}
/-- a test by a call of one argument, a for over such a call: the argument first -/
theorem pl_b1 {R : Bool → Hp → Prop} (h : X σ H fun v H1 => r [v] H1 fun x H2 => ∃ c, x = .bl c ∧ R c H2) : tB (tCB r (tCons X tNil)) σ H R := h
theorem pl_r1 {r : List V → Hp → VK → Prop} (h : X σ H fun v H1 => r [v] H1 D.rt) : tRet (tCB r (tCons X tNil)) D σ H := h
theorem pl_forL1 (h : X σ H fun v H1 => r [v] H1 fun x H2 => ∃ a, x = .ref a ∧ (∃ xs, SqL K H2 a xs) ∧ tFor (fun _ H R => R (Itl K a) H) g tb { D with nx := U D } σ H2) : tSeq (tFor (iList K (tCB r (tCons X tNil))) g tb) U D σ H := h
end
/-! ### == of lists of flat values -/
def okV : V → Bool
  | .non => true
  | .bl _ => true
  | .int _ => true
  | .str x => PyData.canLay0 (.str x)
  | _ => false
def dtV : V → PyData
  | .bl b => .bool b
  | .int i => .int i
  | .str x => .str x
  | _ => .none
theorem dp_ok {K : PySem.W.Frag} {H : Hp} : ∀ {x : V}, okV x = true → Dp K H x (dtV x)
  | .non, _ => .non
  | .bl b, _ => .bl b
  | .int i, _ => .int i
  | .str x, _ => .str x
  | .byt _, h => by cases h
  | .flt _, h => by cases h
  | .ref _, h => by cases h
  | .ty _, h => by cases h
theorem dps_ok {K : PySem.W.Frag} {H : Hp} : ∀ {xs : List V}, xs.all okV = true → DpAll K H xs (xs.map dtV)
  | [], _ => .nil
  | x :: r, h => by
    rw [List.all_cons, Bool.and_eq_true] at h
    exact .cons (dp_ok h.1) (dps_ok h.2)
theorem lay_ok : ∀ {x : V}, okV x = true → PyData.canLay0 (dtV x) = true ∧ PyData.depth (dtV x) = 0
  | .non, _ => ⟨rfl, rfl⟩
  | .bl b, _ => ⟨rfl, rfl⟩
  | .int i, _ => ⟨rfl, rfl⟩
  | .str x, h => ⟨h, rfl⟩
  | .byt _, h => by cases h
  | .flt _, h => by cases h
  | .ref _, h => by cases h
  | .ty _, h => by cases h
theorem lays_ok : ∀ {xs : List V}, xs.all okV = true → PyData.canLayAll0 (xs.map dtV) = true ∧ PyData.depthAll (xs.map dtV) = 0
  | [], _ => ⟨rfl, rfl⟩
  | x :: r, h => by
    rw [List.all_cons, Bool.and_eq_true] at h
    obtain ⟨h1, h2⟩ := lay_ok h.1
    obtain ⟨h3, h4⟩ := lays_ok h.2
    constructor
    · show (PyData.canLay0 (dtV x) && PyData.canLayAll0 (r.map dtV)) = true
      rw [h1, h3]
      rfl
    · show max (PyData.depth (dtV x)) (PyData.depthAll (r.map dtV)) = 0
      rw [h2, h4]
      rfl
theorem shaped_ok {xs : List V} (h : xs.all okV = true) : SeqAt.shaped (.list (xs.map dtV)) = true := by
  obtain ⟨h1, h2⟩ := lays_ok h
  unfold SeqAt.shaped
  rw [Bool.and_eq_true]
  refine ⟨h1, decide_eq_true ?_⟩
  show PyData.depthAll (xs.map dtV) + 1 ≤ 64
  rw [h2]
  decide
theorem eqv_ok : ∀ {x : V}, okV x = true → PyData.eqv (dtV x) (dtV x) = true
  | .non, _ => rfl
  | .bl b, _ => by simp [dtV, PyData.eqv]
  | .int i, _ => by simp [dtV, PyData.eqv]
  | .str x, _ => by simp [dtV, PyData.eqv]
  | .byt _, h => by cases h
  | .flt _, h => by cases h
  | .ref _, h => by cases h
  | .ty _, h => by cases h
theorem eqvs_ok : ∀ {xs : List V}, xs.all okV = true → PyData.eqvAll (xs.map dtV) (xs.map dtV) = true
  | [], _ => rfl
  | x :: r, h => by
    rw [List.all_cons, Bool.and_eq_true] at h
    show (PyData.eqv (dtV x) (dtV x) && PyData.eqvAll (r.map dtV) (r.map dtV)) = true
    rw [eqv_ok h.1, eqvs_ok h.2]
    rfl
theorem ne_lists {K : PySem.W.Frag} {H : Hp} {p q : Addr} {xs : List V} {Q : VK} (hp : SqL K H p xs) (hq : SqL K H q xs) (hf : xs.all okV = true) (k : Q (.bl false) H) : rNeD K (.ref p) (.ref q) H Q := by
  refine ⟨.list (xs.map dtV), .list (xs.map dtV), .lst hp (dps_ok hf), .lst hq (dps_ok hf), shaped_ok hf, shaped_ok hf, ?_⟩
  have e : PyData.eqv (.list (xs.map dtV)) (.list (xs.map dtV)) = true := eqvs_ok hf
  rw [e]
  exact k
/-- a value of a built-in type that is no object -/
theorem ty_ok {K : PySem.W.Frag} {H : Hp} : ∀ {x : V}, okV x = true → ∃ t, TyX K H x (.type t)
  | .non, _ => ⟨_, .base .non⟩
  | .bl b, _ => ⟨_, .base (.bl b)⟩
  | .int i, _ => ⟨_, .base (.int i)⟩
  | .str x, _ => ⟨_, .base (.str x)⟩
  | .byt _, h => by cases h
  | .flt _, h => by cases h
  | .ref _, h => by cases h
  | .ty _, h => by cases h
theorem tys_ok {K : PySem.W.Frag} : ∀ {x : V}, okV x = true → ∃ t, ∀ H : Hp, TyX K H x (.type t)
  | .non, _ => ⟨_, fun _ => .base .non⟩
  | .bl b, _ => ⟨_, fun _ => .base (.bl b)⟩
  | .int i, _ => ⟨_, fun _ => .base (.int i)⟩
  | .str x, _ => ⟨_, fun _ => .base (.str x)⟩
  | .byt _, h => by cases h
  | .flt _, h => by cases h
  | .ref _, h => by cases h
  | .ty _, h => by cases h
section
variable {K : PySem.W.Frag} {σ : L2.St} {H : Hp} {tl te : TE} {j : Nat} {vs : List Nat} {Q : VK}
/-- [e for c in a text] -/
theorem tlc_S (v : Nat → V) (z : Str) (htl : ∀ R : VK, R (.str z) H → tl σ H R) (hz : z.cps.size ≤ 100000) (hw : ∀ x, wipe ((wipe σ vs).set j (some x)) vs = wipe σ vs)
    (he : ∀ c ∈ z.cps.toList, ∀ H', Same H H' → ∀ R : VK, (∀ H2, Same H' H2 → R (v c) H2) → te ((wipe σ vs).set j (some (.str ⟨#[c]⟩))) H' R)
    (k : ∀ D H', H D = none → Same H H' → H' D = some (.lst (z.cps.toList.map v)) → Q (.ref D) H') : tLc (iStr tl) (gName j) tYes te vs σ H Q := by
  refine htl _ ⟨z, rfl, fun D hD => ?_⟩
  refine lc_it walk_str (fun i H' => Same H H' ∧ H' D = some (.lst ((z.cps.toList.take i).map v))) ⟨same_new hD, upd_same⟩ (fun _ _ _ _ => trivial) ?_ fun H' p => k D H' hD p.1 ?_
  · rintro i x H' H2 hi p ⟨rfl, c, hc, rfl⟩
    have hc2 : z.cps.toList[i]? = some c := by rw [Array.getElem?_toList]; exact hc
    have hm : c ∈ z.cps.toList := List.mem_of_getElem? hc2
    refine ⟨hw _, he c hm _ p.1 _ fun H3 s3 => ⟨_, s3 _ _ p.2, ?_, same_mut (p.1.trans s3) hD, ?_⟩⟩
    · rw [List.length_map, List.length_take]
      have e : sizeLine = 16777216 := by decide
      omega
    · rw [upd_same, List.take_add_one, hc2, List.map_append]
      rfl
  · have q := p.2
    rw [List.take_of_length_le (by simp)] at q
    exact q
end
/-- None and the ints from 0 to g -/
def valsTo (g : Int) : List V := .non :: rgV 0 (g + 1)
/-- all that is no list is as it was -/
def KeepNL (H H' : Hp) : Prop := ∀ b o, (∀ zs, o ≠ HO.lst zs) → H b = some o → H' b = some o
theorem KeepNL.of {H H' : Hp} (s : Same H H') : KeepNL H H' := fun b o _ e => s b o e
theorem KeepNL.lst {H : Hp} {D : Addr} {zs ys : List V} (h : H D = some (.lst zs)) : KeepNL H (upd H D (.lst ys)) := fun b o n e => by
  rw [upd_ne (fun q => by rw [q, h] at e; exact n zs (Option.some.inj e).symm)]
  exact e
section
variable {K : PySem.W.Frag} {σ : L2.St} {H : Hp} {tl te : TE} {j : Nat} {vs : List Nat} {Q : VK} {xs : List V}
/-- [e for x in xs], e making new objects (no lists among what is told of them) -/
theorem tlc_G (Rl : Nat → V → Hp → Prop) (mono : ∀ i y H H', KeepNL H H' → Rl i y H → Rl i y H') (htl : ∀ R : VK, (∀ a H1, Same H H1 → SqL K H1 a xs → R (.ref a) H1) → tl σ H R) (hz : xs.length ≤ 100000) (hw : ∀ x, wipe ((wipe σ vs).set j (some x)) vs = wipe σ vs)
    (he : ∀ i x, xs[i]? = some x → ∀ H', Same H H' → ∀ R : VK, (∀ y H2, Same H' H2 → Rl i y H2 → R y H2) → te ((wipe σ vs).set j (some x)) H' R)
    (k : ∀ D ys H', H D = none → Same H H' → H' D = some (.lst ys) → ys.length = xs.length → (∀ i y, ys[i]? = some y → Rl i y H') → Q (.ref D) H') : tLc (iList K tl) (gName j) tYes te vs σ H Q := by
  refine htl _ fun a H1 e1 hs => ⟨a, rfl, ⟨xs, hs⟩, fun D hD => ?_⟩
  refine lc_list (xs := xs) (fun i H' => Same H1 H' ∧ ∃ ys, H' D = some (.lst ys) ∧ ys.length = i ∧ ∀ m y, ys[m]? = some y → Rl m y H') ⟨same_new hD, [], upd_same, rfl, fun m y h => by simp at h⟩ (fun i H' _ p => p.1.seq hs) ?_ ?_
  · rintro i x H' hx ⟨s', ys, hys, hl, hr⟩
    have hi : i < xs.length := (List.getElem?_eq_some_iff.mp hx).1
    refine ⟨hw x, he i x hx H' (e1.trans s') _ fun y H2 s2 hy => ⟨ys, s2 _ _ hys, ?_, same_mut (s'.trans s2) hD, ys ++ [y], upd_same, by rw [List.length_append, hl]; rfl, fun m z hm => ?_⟩⟩
    · have e : sizeLine = 16777216 := by decide
      omega
    · have kp : KeepNL H2 (upd H2 D (.lst (ys ++ [y]))) := KeepNL.lst (s2 _ _ hys)
      by_cases hm2 : m < ys.length
      · rw [List.getElem?_append_left hm2] at hm
        exact mono m z _ _ kp (mono m z _ _ (KeepNL.of s2) (hr m z hm))
      · have hm3 : m = ys.length := by
          have h := (List.getElem?_eq_some_iff.mp hm).1
          rw [List.length_append] at h
          have : [y].length = 1 := rfl
          omega
        subst hm3
        rw [List.getElem?_append_right (Nat.le_refl _), Nat.sub_self] at hm
        obtain rfl : y = z := Option.some.inj hm
        rw [hl]
        exact mono i y _ _ kp hy
  · rintro H' ⟨s', ys, hys, hl, hr⟩
    exact k D ys H' (e1.free hD) (e1.trans s') hys hl hr
end
end Evl2
/-! ### own methods called by the language: len(x), v in x, x == y, of instances with a __dict__ -/
namespace Evl2
open PySem PySem.Spec PyProof.Rows L2
section
variable {X : Cx} {CX : CXT} {k : Nat} {f C : Addr} {fd : FuncData} {ps : List Str} {sp : Sp} {E : XK}
/-- an own function called at a place below the running body -/
theorem runA {A : Around} {pins : List (Addr × Obj)} {σ : L2.St} {H : Hp} {s : Shared} {Q : VK} {us : List Value} {vs : List V} (F : FnOk X.prog X.w X.K X.mg X.base CX k f fd ps sp) (hr : Room k A) (e0 : Env0 X.prog X.w X.K X.mg X.base A X.stack s H) (hb : Binds X.K fd ps []) (hx : Passes CX X E)
    (I : Inv X pins σ H s) (r : Vals vs us) (h : sp vs H Q E) : wpAny (model X.prog X.w) A (call (.ref f) us) (EP X pins σ Q) X.xe s := by
  have hl : us.length = ps.length := by rw [← r.length]; exact F.len _ _ _ _ h
  refine wpAny_call (codeAny_mono (F.run A X.stack s H ⟨us, []⟩ us vs Q E hr e0 (by
    have := hb s us I.kIn (by simpa using hl)
    simpa using this) r h) fun r s' hq => ?_)
  cases r with
  | error e => exact hx pins σ H s e s' I hq
  | ok fl =>
    cases fl with
    | ret u => exact I.after hq
    | next => exact False.elim hq
    | brk => exact False.elim hq
    | cont => exact False.elim hq
def rLenOwn (C : Addr) (sp : Sp) (E : XK) : List V → Hp → VK → Prop := fun xs H Q => ∃ a dx fs, xs = [V.ref a] ∧ H a = some (.ins C dx fs) ∧ sp [.ref a] H (fun z H' => ∃ i : Int, z = .int i ∧ (0 ≤ i ∧ i < 2 ^ 63) ∧ Q (.int i) H') E
/-- len(x), x with an own __len__ -/
theorem call_lenOwn (F : FnOk X.prog X.w X.K X.mg X.base CX k f fd ps sp) (hm : Meth X.K C "__len__" f) (hr : Room (k + 1) X.A) (hb : Binds X.K fd ps []) (hx : Passes CX X E) : CallR X (.builtin "len") (rLenOwn C sp E) := by
  intro pins s σ H xs us Q I r h
  obtain ⟨a, dx, fs, rfl, ha, q⟩ := h
  obtain ⟨u, rfl, ru⟩ := r.one
  cases (show u = Value.ref a from ru)
  obtain ⟨mA, J, _⟩ := ins_get I.hok ha
  obtain ⟨od, J, _⟩ := J.look
  obtain ⟨m, hF⟩ := I.fr
  refine PySem.W.len_K hF I.ok.mod.kin J hm.at_ hm.fn ?_
  refine wpAny_mono (runA (us := [.ref a]) (vs := [.ref a]) F hr.in1 I.env0.in1 hb hx I (.cons rfl .nil) q) (fun v s' z => ?_) fun _ _ e => e
  obtain ⟨z', H', I', rz, i, ei, hi, qz⟩ := z
  subst ei
  obtain ⟨t, e⟩ := (show ∃ t, v = Value.int i t from rz)
  cases e
  exact ⟨hi, .int i, H', I'.tok _, ⟨_, rfl⟩, qz⟩
def rInOwn (C : Addr) (sp : Sp) (E : XK) : R2 := fun x y H Q => ∃ a dx fs, y = .ref a ∧ H a = some (.ins C dx fs) ∧ sp [y, x] H (fun z H' => ∃ b, z = .bl b ∧ Q (.bl b) H') E
/-- v in x, x with an own __contains__ that answers a Bool -/
theorem op_inOwn (F : FnOk X.prog X.w X.K X.mg X.base CX k f fd ps sp) (hm : Meth X.K C "__contains__" f) (hr : Room k X.A) (hb : Binds X.K fd ps []) (hx : Passes CX X E) : OpR X (compareOp .In) (rInOwn C sp E) := by
  intro pins s σ H x y v u Q I rx ry h
  obtain ⟨a, dx, fs, rfl, ha, q⟩ := h
  cases (show u = Value.ref a from ry)
  obtain ⟨mA, J, _⟩ := ins_get I.hok ha
  obtain ⟨od, J, _⟩ := J.look
  obtain ⟨m, hF⟩ := I.fr
  refine PySem.W.in_K hF I.ok.mod.kin J hm.at_ hm.fn ?_
  refine wpAny_mono (runA (us := [.ref a, v]) (vs := [.ref a, x]) F hr I.env0 hb hx I (.cons rfl (.cons rx .nil)) q) (fun r s' z => ?_) fun _ _ e => e
  obtain ⟨z', H', I', rz, b, eb, qz⟩ := z
  subst eb
  cases (show r = Value.bool b from rz)
  exact wpAny_truthy_bool ⟨.bl b, H', I', rfl, qz⟩
def rEqOwn (C : Addr) (sp : Sp) (E : XK) : R2 := fun x y H Q => ∃ a dx fs b dy gs, x = .ref a ∧ y = .ref b ∧ H a = some (.ins C dx fs) ∧ H b = some (.ins C dy gs) ∧ sp [x, y] H (fun z H' => ∃ c, z = .bl c ∧ Q (.bl c) H') E
/-- x == y, both of a class with an own __eq__ that answers a Bool -/
theorem op_eqOwn (F : FnOk X.prog X.w X.K X.mg X.base CX k f fd ps sp) (hm : Meth X.K C "__eq__" f) (hr : Room k X.A) (hb : Binds X.K fd ps []) (hx : Passes CX X E) : OpR X (compareOp .Eq) (rEqOwn C sp E) := by
  intro pins s σ H x y v u Q I rx ry h
  obtain ⟨a, dx, fs, b, dy, gs, rfl, rfl, ha, hb', q⟩ := h
  cases (show v = Value.ref a from rx)
  cases (show u = Value.ref b from ry)
  obtain ⟨mA, J, _⟩ := ins_get I.hok ha
  obtain ⟨od, J, _⟩ := J.look
  obtain ⟨mB, J', _⟩ := ins_get I.hok hb'
  obtain ⟨od', J', _⟩ := J'.look
  obtain ⟨m, hF⟩ := I.fr
  show wpAny (model X.prog X.w) X.A (richCompare .Eq (.ref a) (.ref b)) (EP X pins σ Q) X.xe s
  refine PySem.W.cmp_K (op := .Eq) (tb := .ref C) hr.units0 hF I.ok.mod.kin J J'.type (by simp [PySem.W.notFirst]) hm.at_ hm.fn ?_
  refine wpAny_mono (runA (us := [.ref a, .ref b]) (vs := [.ref a, .ref b]) F hr I.env0 hb hx I (.cons rfl (.cons rfl .nil)) q) (fun r s' z => ?_) fun _ _ e => e
  obtain ⟨z', H', I', rz, c, ec, qz⟩ := z
  subst ec
  cases (show r = Value.bool c from rz)
  exact ⟨.bl c, H', I', rfl, qz⟩
end
end Evl2
/-! ### comprehensions over enumerate -/
namespace Evl2
open PySem PySem.Spec PyProof.Rows L2
section
variable {K : PySem.W.Frag} {σ : L2.St} {H : Hp} {ta : TA} {te : TE} {j1 j2 : Nat} {vs : List Nat} {Q : VK} {xs : List V}
/-- [e for i, x in enumerate(xs)], e making new objects (no lists among what is told of them) -/
theorem tlc_GE (Rl : Nat → V → Hp → Prop) (mono : ∀ i y H H', KeepNL H H' → Rl i y H → Rl i y H') (hta : ∀ R : List V → Hp → Prop, (∀ a H1, Same H H1 → SqL K H1 a xs → R [.ref a] H1) → ta σ H R) (hz : xs.length ≤ 100000) (hw : ∀ x y, wipe (((wipe σ vs).set j1 (some x)).set j2 (some y)) vs = wipe σ vs)
    (he : ∀ i x, xs[i]? = some x → ∀ H', Same H H' → ∀ R : VK, (∀ y H2, Same H' H2 → Rl i y H2 → R y H2) → te (((wipe σ vs).set j1 (some (.int (i : Nat)))).set j2 (some x)) H' R)
    (k : ∀ D ys H', H D = none → Same H H' → H' D = some (.lst ys) → ys.length = xs.length → (∀ i y, ys[i]? = some y → Rl i y H') → Q (.ref D) H') : tLc (iEnum K ta) (gTup K 2 (gCons (gName j1) (gCons (gName j2) gNil))) tYes te vs σ H Q := by
  refine hta _ fun a H1 e1 hs => ⟨a, xs, rfl, hs, fun D hD => ?_⟩
  refine lc_it walk_enum (fun i H' => Same H1 H' ∧ ∃ ys, H' D = some (.lst ys) ∧ ys.length = i ∧ ∀ m y, ys[m]? = some y → Rl m y H') ⟨same_new hD, [], upd_same, rfl, fun m y h => by simp at h⟩ (fun i H' _ p => p.1.seq hs) ?_ ?_
  · rintro i v H2 H3 hi ⟨s', ys, hys, hl, hr⟩ ⟨T, x', y', rfl, nT, rfl, ex, ey⟩
    obtain rfl := Option.some.inj ex
    have ey : xs[i]? = some y' := ey
    have st : Same H2 (upd H2 T (.tup [.int (i : Nat), y'])) := same_new nT
    refine ⟨T, _, rfl, sqT_of upd_same, rfl, _, _, rfl, _, _, rfl, rfl, hw _ _, he i y' ey _ (e1.trans (s'.trans st)) _ fun y H4 s2 hy => ⟨ys, s2 _ _ (st _ _ hys), ?_, same_mut (s'.trans (st.trans s2)) hD, ys ++ [y], upd_same, by rw [List.length_append, hl]; rfl, fun m z hm => ?_⟩⟩
    · have e : sizeLine = 16777216 := by decide
      omega
    · have kp : KeepNL H4 (upd H4 D (.lst (ys ++ [y]))) := KeepNL.lst (s2 _ _ (st _ _ hys))
      by_cases hm2 : m < ys.length
      · rw [List.getElem?_append_left hm2] at hm
        exact mono m z _ _ kp (mono m z _ _ (KeepNL.of (st.trans s2)) (hr m z hm))
      · have hm3 : m = ys.length := by
          have h := (List.getElem?_eq_some_iff.mp hm).1
          rw [List.length_append] at h
          have : [y].length = 1 := rfl
          omega
        subst hm3
        rw [List.getElem?_append_right (Nat.le_refl _), Nat.sub_self] at hm
        obtain rfl : y = z := Option.some.inj hm
        rw [hl]
        exact mono i y _ _ kp hy
  · rintro H' ⟨s', ys, hys, hl, hr⟩
    exact k D ys H' (e1.free hD) (e1.trans s') hys hl hr
end
end Evl2

namespace ER
open PySem PySem.Spec PyProof.Rows L2 Evl2
def top (i : Nat) : Stmt := PySem.Challenge.pw_editionrows_k05_whole_values_behind_chan.main.body.getD i (.Pass ⟨0, 0, 0, 0⟩)
abbrev s_BadPart___init__ : Stmt := inClass (top 2) 0
theorem sc_BadPart___init__ : FnScope ["self", "part"] ["self", "part"] (defScope s_BadPart___init__) := ⟨rfl, rfl, rfl, by decide +kernel, rfl, by decide +kernel, by decide +kernel⟩
def d_BadPart___init__ : He.DefD := ⟨("BadPart", some "__init__"), "__init__", "BadPart.__init__", defArgs s_BadPart___init__, defBody s_BadPart___init__, defScope s_BadPart___init__, [], []⟩
abbrev s_BadChange___init__ : Stmt := inClass (top 3) 0
theorem sc_BadChange___init__ : FnScope ["self", "index"] ["self", "index"] (defScope s_BadChange___init__) := ⟨rfl, rfl, rfl, by decide +kernel, rfl, by decide +kernel, by decide +kernel⟩
def d_BadChange___init__ : He.DefD := ⟨("BadChange", some "__init__"), "__init__", "BadChange.__init__", defArgs s_BadChange___init__, defBody s_BadChange___init__, defScope s_BadChange___init__, [], []⟩
abbrev s_is_whole : Stmt := top 9
theorem sc_is_whole : FnScope ["value"] ["value"] (defScope s_is_whole) := ⟨rfl, rfl, rfl, by decide +kernel, rfl, by decide +kernel, by decide +kernel⟩
def d_is_whole : He.DefD := ⟨("is_whole", none), "is_whole", "is_whole", defArgs s_is_whole, defBody s_is_whole, defScope s_is_whole, [], []⟩
abbrev s_is_word : Stmt := top 10
theorem sc_is_word : FnScope ["value", "words"] ["value", "words"] (defScope s_is_word) := ⟨rfl, rfl, rfl, by decide +kernel, rfl, by decide +kernel, by decide +kernel⟩
def d_is_word : He.DefD := ⟨("is_word", none), "is_word", "is_word", defArgs s_is_word, defBody s_is_word, defScope s_is_word, [], []⟩
abbrev s_is_name : Stmt := top 11
theorem sc_is_name : FnScope ["value", "letter"] ["value"] (defScope s_is_name) := ⟨rfl, rfl, rfl, by decide +kernel, rfl, by decide +kernel, by decide +kernel⟩
def d_is_name : He.DefD := ⟨("is_name", none), "is_name", "is_name", defArgs s_is_name, defBody s_is_name, defScope s_is_name, [], []⟩
abbrev s_is_greatest : Stmt := top 12
theorem sc_is_greatest : FnScope ["value"] ["value"] (defScope s_is_greatest) := ⟨rfl, rfl, rfl, by decide +kernel, rfl, by decide +kernel, by decide +kernel⟩
def d_is_greatest : He.DefD := ⟨("is_greatest", none), "is_greatest", "is_greatest", defArgs s_is_greatest, defBody s_is_greatest, defScope s_is_greatest, [], []⟩
abbrev s_is_value : Stmt := top 13
theorem sc_is_value : FnScope ["value"] ["value"] (defScope s_is_value) := ⟨rfl, rfl, rfl, by decide +kernel, rfl, by decide +kernel, by decide +kernel⟩
def d_is_value : He.DefD := ⟨("is_value", none), "is_value", "is_value", defArgs s_is_value, defBody s_is_value, defScope s_is_value, [], []⟩
abbrev s_is_within : Stmt := top 14
theorem sc_is_within : FnScope ["value", "greatest"] ["value", "greatest"] (defScope s_is_within) := ⟨rfl, rfl, rfl, by decide +kernel, rfl, by decide +kernel, by decide +kernel⟩
def d_is_within : He.DefD := ⟨("is_within", none), "is_within", "is_within", defArgs s_is_within, defBody s_is_within, defScope s_is_within, [], []⟩
abbrev s_values_to : Stmt := top 15
theorem sc_values_to : FnScope ["greatest"] ["greatest"] (defScope s_values_to) := ⟨rfl, rfl, rfl, by decide +kernel, rfl, by decide +kernel, by decide +kernel⟩
def d_values_to : He.DefD := ⟨("values_to", none), "values_to", "values_to", defArgs s_values_to, defBody s_values_to, defScope s_values_to, [], []⟩
abbrev s_Column___init__ : Stmt := inClass (top 18) 0
theorem sc_Column___init__ : FnScope ["self", "name", "greatest", "default", "number"] ["self", "name", "greatest", "default", "number"] (defScope s_Column___init__) := ⟨rfl, rfl, rfl, by decide +kernel, rfl, by decide +kernel, by decide +kernel⟩
def d_Column___init__ : He.DefD := ⟨("Column", some "__init__"), "__init__", "Column.__init__", defArgs s_Column___init__, defBody s_Column___init__, defScope s_Column___init__, [.non], [("number", (.int 0))]⟩
abbrev s_Column___eq__ : Stmt := inClass (top 18) 1
theorem sc_Column___eq__ : FnScope ["self", "other"] ["self", "other"] (defScope s_Column___eq__) := ⟨rfl, rfl, rfl, by decide +kernel, rfl, by decide +kernel, by decide +kernel⟩
def d_Column___eq__ : He.DefD := ⟨("Column", some "__eq__"), "__eq__", "Column.__eq__", defArgs s_Column___eq__, defBody s_Column___eq__, defScope s_Column___eq__, [], []⟩
abbrev s_Column___contains__ : Stmt := inClass (top 18) 2
theorem sc_Column___contains__ : FnScope ["self", "x"] ["self", "x"] (defScope s_Column___contains__) := ⟨rfl, rfl, rfl, by decide +kernel, rfl, by decide +kernel, by decide +kernel⟩
def d_Column___contains__ : He.DefD := ⟨("Column", some "__contains__"), "__contains__", "Column.__contains__", defArgs s_Column___contains__, defBody s_Column___contains__, defScope s_Column___contains__, [], []⟩
abbrev s_Column_all_values : Stmt := inClass (top 18) 3
theorem sc_Column_all_values : FnScope ["self"] ["self"] (defScope s_Column_all_values) := ⟨rfl, rfl, rfl, by decide +kernel, rfl, by decide +kernel, by decide +kernel⟩
def d_Column_all_values : He.DefD := ⟨("Column", some "all_values"), "all_values", "Column.all_values", defArgs s_Column_all_values, defBody s_Column_all_values, defScope s_Column_all_values, [], []⟩
abbrev s_Column_changed : Stmt := inClass (top 18) 4
theorem sc_Column_changed : FnScope ["self", "part", "value", "parts"] ["self", "part", "value"] (defScope s_Column_changed) := ⟨rfl, rfl, rfl, by decide +kernel, rfl, by decide +kernel, by decide +kernel⟩
def d_Column_changed : He.DefD := ⟨("Column", some "changed"), "changed", "Column.changed", defArgs s_Column_changed, defBody s_Column_changed, defScope s_Column_changed, [], []⟩
abbrev s_column_named : Stmt := top 19
theorem sc_column_named : FnScope ["columns", "name", "column"] ["columns", "name"] (defScope s_column_named) := ⟨rfl, rfl, rfl, by decide +kernel, rfl, by decide +kernel, by decide +kernel⟩
def d_column_named : He.DefD := ⟨("column_named", none), "column_named", "column_named", defArgs s_column_named, defBody s_column_named, defScope s_column_named, [], []⟩
abbrev s_is_change : Stmt := top 23
theorem sc_is_change : FnScope ["value"] ["value"] (defScope s_is_change) := ⟨rfl, rfl, rfl, by decide +kernel, rfl, by decide +kernel, by decide +kernel⟩
def d_is_change : He.DefD := ⟨("is_change", none), "is_change", "is_change", defArgs s_is_change, defBody s_is_change, defScope s_is_change, [], []⟩
abbrev s_has_parts : Stmt := top 24
theorem sc_has_parts : FnScope ["kind", "parts"] ["kind", "parts"] (defScope s_has_parts) := ⟨rfl, rfl, rfl, by decide +kernel, rfl, by decide +kernel, by decide +kernel⟩
def d_has_parts : He.DefD := ⟨("has_parts", none), "has_parts", "has_parts", defArgs s_has_parts, defBody s_has_parts, defScope s_has_parts, [], []⟩
abbrev s_is_single_part : Stmt := top 25
theorem sc_is_single_part : FnScope ["kind", "part"] ["kind", "part"] (defScope s_is_single_part) := ⟨rfl, rfl, rfl, by decide +kernel, rfl, by decide +kernel, by decide +kernel⟩
def d_is_single_part : He.DefD := ⟨("is_single_part", none), "is_single_part", "is_single_part", defArgs s_is_single_part, defBody s_is_single_part, defScope s_is_single_part, [], []⟩
abbrev s_is_way : Stmt := top 26
theorem sc_is_way : FnScope ["value"] ["value"] (defScope s_is_way) := ⟨rfl, rfl, rfl, by decide +kernel, rfl, by decide +kernel, by decide +kernel⟩
def d_is_way : He.DefD := ⟨("is_way", none), "is_way", "is_way", defArgs s_is_way, defBody s_is_way, defScope s_is_way, [], []⟩
abbrev s_why_not : Stmt := top 27
theorem sc_why_not : FnScope ["columns", "change"] ["columns", "change"] (defScope s_why_not) := ⟨rfl, rfl, rfl, by decide +kernel, rfl, by decide +kernel, by decide +kernel⟩
def d_why_not : He.DefD := ⟨("why_not", none), "why_not", "why_not", defArgs s_why_not, defBody s_why_not, defScope s_why_not, [], []⟩
abbrev s_hindrance : Stmt := top 28
theorem sc_hindrance : FnScope ["columns", "change", "kind", "column"] ["columns", "change"] (defScope s_hindrance) := ⟨rfl, rfl, rfl, by decide +kernel, rfl, by decide +kernel, by decide +kernel⟩
def d_hindrance : He.DefD := ⟨("hindrance", none), "hindrance", "hindrance", defArgs s_hindrance, defBody s_hindrance, defScope s_hindrance, [], []⟩
abbrev s_add_hindrance : Stmt := top 29
theorem sc_add_hindrance : FnScope ["columns", "namesake", "change"] ["columns", "namesake", "change"] (defScope s_add_hindrance) := ⟨rfl, rfl, rfl, by decide +kernel, rfl, by decide +kernel, by decide +kernel⟩
def d_add_hindrance : He.DefD := ⟨("add_hindrance", none), "add_hindrance", "add_hindrance", defArgs s_add_hindrance, defBody s_add_hindrance, defScope s_add_hindrance, [], []⟩
abbrev s_changed_value : Stmt := top 30
theorem sc_changed_value : FnScope ["column", "change", "value"] ["column", "change", "value"] (defScope s_changed_value) := ⟨rfl, rfl, rfl, by decide +kernel, rfl, by decide +kernel, by decide +kernel⟩
def d_changed_value : He.DefD := ⟨("changed_value", none), "changed_value", "changed_value", defArgs s_changed_value, defBody s_changed_value, defScope s_changed_value, [], []⟩
abbrev s_value_above : Stmt := top 31
theorem sc_value_above : FnScope ["change"] ["change"] (defScope s_value_above) := ⟨rfl, rfl, rfl, by decide +kernel, rfl, by decide +kernel, by decide +kernel⟩
def d_value_above : He.DefD := ⟨("value_above", none), "value_above", "value_above", defArgs s_value_above, defBody s_value_above, defScope s_value_above, [], []⟩
abbrev s__law_pool : Stmt := top 33
theorem sc__law_pool : FnScope ["_law_script", "_law_k", "_law_size", "_law_mixed"] ["_law_script", "_law_k"] (defScope s__law_pool) := ⟨rfl, rfl, rfl, by decide +kernel, rfl, by decide +kernel, by decide +kernel⟩
def d__law_pool : He.DefD := ⟨("_law_pool", none), "_law_pool", "_law_pool", defArgs s__law_pool, defBody s__law_pool, defScope s__law_pool, [], []⟩
abbrev s__law_draw : Stmt := top 34
theorem sc__law_draw : FnScope ["_law_pool_here", "_law_many", "_law_found"] ["_law_pool_here", "_law_many"] (defScope s__law_draw) := ⟨rfl, rfl, rfl, by decide +kernel, rfl, by decide +kernel, by decide +kernel⟩
def d__law_draw : He.DefD := ⟨("_law_draw", none), "_law_draw", "_law_draw", defArgs s__law_draw, defBody s__law_draw, defScope s__law_draw, [], []⟩
abbrev s__law_pick : Stmt := top 35
theorem sc__law_pick : FnScope ["_law_pool_here", "_law_row"] ["_law_pool_here", "_law_row"] (defScope s__law_pick) := ⟨rfl, rfl, rfl, by decide +kernel, rfl, by decide +kernel, by decide +kernel⟩
def d__law_pick : He.DefD := ⟨("_law_pick", none), "_law_pick", "_law_pick", defArgs s__law_pick, defBody s__law_pick, defScope s__law_pick, [], []⟩
abbrev s__law_value : Stmt := top 36
theorem sc__law_value : FnScope ["_law_pool_here", "_law_most"] ["_law_pool_here", "_law_most"] (defScope s__law_value) := ⟨rfl, rfl, rfl, by decide +kernel, rfl, by decide +kernel, by decide +kernel⟩
def d__law_value : He.DefD := ⟨("_law_value", none), "_law_value", "_law_value", defArgs s__law_value, defBody s__law_value, defScope s__law_value, [], []⟩
abbrev s__law_cut : Stmt := top 37
theorem sc__law_cut : FnScope ["_law_value_here", "_law_change"] ["_law_value_here", "_law_change"] (defScope s__law_cut) := ⟨rfl, rfl, rfl, by decide +kernel, rfl, by decide +kernel, by decide +kernel⟩
def d__law_cut : He.DefD := ⟨("_law_cut", none), "_law_cut", "_law_cut", defArgs s__law_cut, defBody s__law_cut, defScope s__law_cut, [], []⟩
abbrev s__law_draw_change : Stmt := top 38
theorem sc__law_draw_change : FnScope ["_law_pool_here", "_law_name", "_law_top", "_law_kind"] ["_law_pool_here", "_law_name", "_law_top"] (defScope s__law_draw_change) := ⟨rfl, rfl, rfl, by decide +kernel, rfl, by decide +kernel, by decide +kernel⟩
def d__law_draw_change : He.DefD := ⟨("_law_draw_change", none), "_law_draw_change", "_law_draw_change", defArgs s__law_draw_change, defBody s__law_draw_change, defScope s__law_draw_change, [], []⟩
abbrev s__law_due : Stmt := top 39
theorem sc__law_due : FnScope ["_law_name", "_law_change", "_law_value_here", "_law_told"] ["_law_name", "_law_change", "_law_value_here"] (defScope s__law_due) := ⟨rfl, rfl, rfl, by decide +kernel, rfl, by decide +kernel, by decide +kernel⟩
def d__law_due : He.DefD := ⟨("_law_due", none), "_law_due", "_law_due", defArgs s__law_due, defBody s__law_due, defScope s__law_due, [], []⟩
abbrev s_law : Stmt := top 40
theorem sc_law : FnScope ["_law_script", "_law_k", "_law_pool_here", "_law_top", "_law_one", "_law_turn", "_law_change", "_law_value_here"] ["_law_script"] (defScope s_law) := ⟨rfl, rfl, rfl, by decide +kernel, rfl, by decide +kernel, by decide +kernel⟩
def d_law : He.DefD := ⟨("law", none), "law", "law", defArgs s_law, defBody s_law, defScope s_law, [], []⟩
def fnl : List He.DefD := [d_is_whole, d_is_word, d_is_name, d_is_greatest, d_is_value, d_is_within, d_values_to, d_Column___init__, d_Column___contains__, d_Column_all_values, d_Column_changed, d_column_named, d_is_change, d_has_parts, d_is_single_part, d_is_way, d_why_not, d_hindrance, d_add_hindrance, d_changed_value, d_value_above, d__law_pool, d__law_draw, d__law_pick, d__law_value, d__law_cut, d__law_draw_change, d__law_due, d_law]
def fal : List He.Fa := [.glo "is_whole", .glo "is_word", .glo "is_name", .glo "is_greatest", .glo "is_value", .glo "is_within", .glo "values_to", .glo "column_named", .glo "is_change", .glo "has_parts", .glo "is_single_part", .glo "is_way", .glo "why_not", .glo "hindrance", .glo "add_hindrance", .glo "changed_value", .glo "value_above", .glo "_law_pool", .glo "_law_draw", .glo "_law_pick", .glo "_law_value", .glo "_law_cut", .glo "_law_draw_change", .glo "_law_due", .glo "law", .glo "Column", .cls "Column", .mkr "Column", .noat "Column" "name", .noat "Column" "greatest", .noat "Column" "default", .noat "Column" "number", .meth "Column" "all_values", .str "MISSING" "missing", .str "LETTERS" "abcdefghijklmnopqrstuvwxyz", .int "LONGEST_NAME" 8, .int "MOST_GREATEST" 99, .glo "PARTS", .glo "WAYS", .int "MOST_COLUMNS" 6, .free "isinstance", .free "int", .free "bool", .free "str", .free "all", .free "len", .free "list", .free "range", .free "tuple", .free "max", .free "min"]
def exl (K : PySem.W.Frag) : Bool := [He.tupB K "PARTS" [(.str "name"), (.str "greatest"), (.str "default"), (.str "number")], He.tupB K "WAYS" [(.str "cut"), (.str "none"), (.str "refuse")]].all id
structure Tx (K : PySem.W.Frag) (mg : Str → Option Value) : Prop where
  c : He.SaysD fal fnl K
  e : exl K = true
  h : ∃ h : Heap, K.In h ∧ h.Ns mainGlobals mg
section
variable {K : PySem.W.Frag} {mg : Str → Option Value}
theorem mg_is_whole (T : Tx K mg) : mg "is_whole" = some (.ref (He.ga K "is_whole")) := by
  obtain ⟨h, X, G⟩ := T.h
  exact He.glo_ok X G (T.c.fact 0 rfl)
theorem mg_is_word (T : Tx K mg) : mg "is_word" = some (.ref (He.ga K "is_word")) := by
  obtain ⟨h, X, G⟩ := T.h
  exact He.glo_ok X G (T.c.fact 1 rfl)
theorem mg_is_name (T : Tx K mg) : mg "is_name" = some (.ref (He.ga K "is_name")) := by
  obtain ⟨h, X, G⟩ := T.h
  exact He.glo_ok X G (T.c.fact 2 rfl)
theorem mg_is_greatest (T : Tx K mg) : mg "is_greatest" = some (.ref (He.ga K "is_greatest")) := by
  obtain ⟨h, X, G⟩ := T.h
  exact He.glo_ok X G (T.c.fact 3 rfl)
theorem mg_is_value (T : Tx K mg) : mg "is_value" = some (.ref (He.ga K "is_value")) := by
  obtain ⟨h, X, G⟩ := T.h
  exact He.glo_ok X G (T.c.fact 4 rfl)
theorem mg_is_within (T : Tx K mg) : mg "is_within" = some (.ref (He.ga K "is_within")) := by
  obtain ⟨h, X, G⟩ := T.h
  exact He.glo_ok X G (T.c.fact 5 rfl)
theorem mg_values_to (T : Tx K mg) : mg "values_to" = some (.ref (He.ga K "values_to")) := by
  obtain ⟨h, X, G⟩ := T.h
  exact He.glo_ok X G (T.c.fact 6 rfl)
theorem mg_column_named (T : Tx K mg) : mg "column_named" = some (.ref (He.ga K "column_named")) := by
  obtain ⟨h, X, G⟩ := T.h
  exact He.glo_ok X G (T.c.fact 7 rfl)
theorem mg_is_change (T : Tx K mg) : mg "is_change" = some (.ref (He.ga K "is_change")) := by
  obtain ⟨h, X, G⟩ := T.h
  exact He.glo_ok X G (T.c.fact 8 rfl)
theorem mg_has_parts (T : Tx K mg) : mg "has_parts" = some (.ref (He.ga K "has_parts")) := by
  obtain ⟨h, X, G⟩ := T.h
  exact He.glo_ok X G (T.c.fact 9 rfl)
theorem mg_is_single_part (T : Tx K mg) : mg "is_single_part" = some (.ref (He.ga K "is_single_part")) := by
  obtain ⟨h, X, G⟩ := T.h
  exact He.glo_ok X G (T.c.fact 10 rfl)
theorem mg_is_way (T : Tx K mg) : mg "is_way" = some (.ref (He.ga K "is_way")) := by
  obtain ⟨h, X, G⟩ := T.h
  exact He.glo_ok X G (T.c.fact 11 rfl)
theorem mg_why_not (T : Tx K mg) : mg "why_not" = some (.ref (He.ga K "why_not")) := by
  obtain ⟨h, X, G⟩ := T.h
  exact He.glo_ok X G (T.c.fact 12 rfl)
theorem mg_hindrance (T : Tx K mg) : mg "hindrance" = some (.ref (He.ga K "hindrance")) := by
  obtain ⟨h, X, G⟩ := T.h
  exact He.glo_ok X G (T.c.fact 13 rfl)
theorem mg_add_hindrance (T : Tx K mg) : mg "add_hindrance" = some (.ref (He.ga K "add_hindrance")) := by
  obtain ⟨h, X, G⟩ := T.h
  exact He.glo_ok X G (T.c.fact 14 rfl)
theorem mg_changed_value (T : Tx K mg) : mg "changed_value" = some (.ref (He.ga K "changed_value")) := by
  obtain ⟨h, X, G⟩ := T.h
  exact He.glo_ok X G (T.c.fact 15 rfl)
theorem mg_value_above (T : Tx K mg) : mg "value_above" = some (.ref (He.ga K "value_above")) := by
  obtain ⟨h, X, G⟩ := T.h
  exact He.glo_ok X G (T.c.fact 16 rfl)
theorem mg__law_pool (T : Tx K mg) : mg "_law_pool" = some (.ref (He.ga K "_law_pool")) := by
  obtain ⟨h, X, G⟩ := T.h
  exact He.glo_ok X G (T.c.fact 17 rfl)
theorem mg__law_draw (T : Tx K mg) : mg "_law_draw" = some (.ref (He.ga K "_law_draw")) := by
  obtain ⟨h, X, G⟩ := T.h
  exact He.glo_ok X G (T.c.fact 18 rfl)
theorem mg__law_pick (T : Tx K mg) : mg "_law_pick" = some (.ref (He.ga K "_law_pick")) := by
  obtain ⟨h, X, G⟩ := T.h
  exact He.glo_ok X G (T.c.fact 19 rfl)
theorem mg__law_value (T : Tx K mg) : mg "_law_value" = some (.ref (He.ga K "_law_value")) := by
  obtain ⟨h, X, G⟩ := T.h
  exact He.glo_ok X G (T.c.fact 20 rfl)
theorem mg__law_cut (T : Tx K mg) : mg "_law_cut" = some (.ref (He.ga K "_law_cut")) := by
  obtain ⟨h, X, G⟩ := T.h
  exact He.glo_ok X G (T.c.fact 21 rfl)
theorem mg__law_draw_change (T : Tx K mg) : mg "_law_draw_change" = some (.ref (He.ga K "_law_draw_change")) := by
  obtain ⟨h, X, G⟩ := T.h
  exact He.glo_ok X G (T.c.fact 22 rfl)
theorem mg__law_due (T : Tx K mg) : mg "_law_due" = some (.ref (He.ga K "_law_due")) := by
  obtain ⟨h, X, G⟩ := T.h
  exact He.glo_ok X G (T.c.fact 23 rfl)
theorem mg_law (T : Tx K mg) : mg "law" = some (.ref (He.ga K "law")) := by
  obtain ⟨h, X, G⟩ := T.h
  exact He.glo_ok X G (T.c.fact 24 rfl)
theorem mg_Column (T : Tx K mg) : mg "Column" = some (.ref (He.ga K "Column")) := by
  obtain ⟨h, X, G⟩ := T.h
  exact He.glo_ok X G (T.c.fact 25 rfl)
theorem cl_Column (T : Tx K mg) : Cls K (He.ga K "Column") := He.cls_ok (T.c.fact 26 rfl)
theorem mk_Column (T : Tx K mg) : Mk K (He.ga K "Column") (He.ma K (He.ga K "Column") "__init__") := He.mkr_ok (T.c.fact 27 rfl)
theorem na_Column_name (T : Tx K mg) : NoAttr K (He.ga K "Column") "name" := He.noat_ok (T.c.fact 28 rfl)
theorem na_Column_greatest (T : Tx K mg) : NoAttr K (He.ga K "Column") "greatest" := He.noat_ok (T.c.fact 29 rfl)
theorem na_Column_default (T : Tx K mg) : NoAttr K (He.ga K "Column") "default" := He.noat_ok (T.c.fact 30 rfl)
theorem na_Column_number (T : Tx K mg) : NoAttr K (He.ga K "Column") "number" := He.noat_ok (T.c.fact 31 rfl)
theorem me_Column_all_values (T : Tx K mg) : Meth K (He.ga K "Column") "all_values" (He.ma K (He.ga K "Column") "all_values") := He.meth_ok (T.c.fact 32 rfl)
theorem ms_MISSING (T : Tx K mg) : ∃ t, mg "MISSING" = some (.str "missing" t) := by
  obtain ⟨h, X, G⟩ := T.h
  exact He.str_ok X G (T.c.fact 33 rfl)
theorem ms_LETTERS (T : Tx K mg) : ∃ t, mg "LETTERS" = some (.str "abcdefghijklmnopqrstuvwxyz" t) := by
  obtain ⟨h, X, G⟩ := T.h
  exact He.str_ok X G (T.c.fact 34 rfl)
theorem mi_LONGEST_NAME (T : Tx K mg) : ∃ t, mg "LONGEST_NAME" = some (.int 8 t) := by
  obtain ⟨h, X, G⟩ := T.h
  exact He.int_ok X G (T.c.fact 35 rfl)
theorem mi_MOST_GREATEST (T : Tx K mg) : ∃ t, mg "MOST_GREATEST" = some (.int 99 t) := by
  obtain ⟨h, X, G⟩ := T.h
  exact He.int_ok X G (T.c.fact 36 rfl)
theorem mg_PARTS (T : Tx K mg) : mg "PARTS" = some (.ref (He.ga K "PARTS")) := by
  obtain ⟨h, X, G⟩ := T.h
  exact He.glo_ok X G (T.c.fact 37 rfl)
theorem mg_WAYS (T : Tx K mg) : mg "WAYS" = some (.ref (He.ga K "WAYS")) := by
  obtain ⟨h, X, G⟩ := T.h
  exact He.glo_ok X G (T.c.fact 38 rfl)
theorem mi_MOST_COLUMNS (T : Tx K mg) : ∃ t, mg "MOST_COLUMNS" = some (.int 6 t) := by
  obtain ⟨h, X, G⟩ := T.h
  exact He.int_ok X G (T.c.fact 39 rfl)
theorem fr_isinstance (T : Tx K mg) : mg "isinstance" = none := by
  obtain ⟨h, X, G⟩ := T.h
  exact He.free_ok X G (T.c.fact 40 rfl)
theorem fr_int (T : Tx K mg) : mg "int" = none := by
  obtain ⟨h, X, G⟩ := T.h
  exact He.free_ok X G (T.c.fact 41 rfl)
theorem fr_bool (T : Tx K mg) : mg "bool" = none := by
  obtain ⟨h, X, G⟩ := T.h
  exact He.free_ok X G (T.c.fact 42 rfl)
theorem fr_str (T : Tx K mg) : mg "str" = none := by
  obtain ⟨h, X, G⟩ := T.h
  exact He.free_ok X G (T.c.fact 43 rfl)
theorem fr_all (T : Tx K mg) : mg "all" = none := by
  obtain ⟨h, X, G⟩ := T.h
  exact He.free_ok X G (T.c.fact 44 rfl)
theorem fr_len (T : Tx K mg) : mg "len" = none := by
  obtain ⟨h, X, G⟩ := T.h
  exact He.free_ok X G (T.c.fact 45 rfl)
theorem fr_list (T : Tx K mg) : mg "list" = none := by
  obtain ⟨h, X, G⟩ := T.h
  exact He.free_ok X G (T.c.fact 46 rfl)
theorem fr_range (T : Tx K mg) : mg "range" = none := by
  obtain ⟨h, X, G⟩ := T.h
  exact He.free_ok X G (T.c.fact 47 rfl)
theorem fr_tuple (T : Tx K mg) : mg "tuple" = none := by
  obtain ⟨h, X, G⟩ := T.h
  exact He.free_ok X G (T.c.fact 48 rfl)
theorem fr_max (T : Tx K mg) : mg "max" = none := by
  obtain ⟨h, X, G⟩ := T.h
  exact He.free_ok X G (T.c.fact 49 rfl)
theorem fr_min (T : Tx K mg) : mg "min" = none := by
  obtain ⟨h, X, G⟩ := T.h
  exact He.free_ok X G (T.c.fact 50 rfl)
theorem fd_is_whole (T : Tx K mg) : ∃ fd, FunD K "is_whole" "is_whole" (defArgs s_is_whole) (defBody s_is_whole) (defScope s_is_whole) (d_is_whole.dvs K) (d_is_whole.kws K) (He.ga K "is_whole") fd := T.c.def_ 0 (d := d_is_whole) rfl
theorem fd_is_word (T : Tx K mg) : ∃ fd, FunD K "is_word" "is_word" (defArgs s_is_word) (defBody s_is_word) (defScope s_is_word) (d_is_word.dvs K) (d_is_word.kws K) (He.ga K "is_word") fd := T.c.def_ 1 (d := d_is_word) rfl
theorem fd_is_name (T : Tx K mg) : ∃ fd, FunD K "is_name" "is_name" (defArgs s_is_name) (defBody s_is_name) (defScope s_is_name) (d_is_name.dvs K) (d_is_name.kws K) (He.ga K "is_name") fd := T.c.def_ 2 (d := d_is_name) rfl
theorem fd_is_greatest (T : Tx K mg) : ∃ fd, FunD K "is_greatest" "is_greatest" (defArgs s_is_greatest) (defBody s_is_greatest) (defScope s_is_greatest) (d_is_greatest.dvs K) (d_is_greatest.kws K) (He.ga K "is_greatest") fd := T.c.def_ 3 (d := d_is_greatest) rfl
theorem fd_is_value (T : Tx K mg) : ∃ fd, FunD K "is_value" "is_value" (defArgs s_is_value) (defBody s_is_value) (defScope s_is_value) (d_is_value.dvs K) (d_is_value.kws K) (He.ga K "is_value") fd := T.c.def_ 4 (d := d_is_value) rfl
theorem fd_is_within (T : Tx K mg) : ∃ fd, FunD K "is_within" "is_within" (defArgs s_is_within) (defBody s_is_within) (defScope s_is_within) (d_is_within.dvs K) (d_is_within.kws K) (He.ga K "is_within") fd := T.c.def_ 5 (d := d_is_within) rfl
theorem fd_values_to (T : Tx K mg) : ∃ fd, FunD K "values_to" "values_to" (defArgs s_values_to) (defBody s_values_to) (defScope s_values_to) (d_values_to.dvs K) (d_values_to.kws K) (He.ga K "values_to") fd := T.c.def_ 6 (d := d_values_to) rfl
theorem fd_Column___init__ (T : Tx K mg) : ∃ fd, FunD K "__init__" "Column.__init__" (defArgs s_Column___init__) (defBody s_Column___init__) (defScope s_Column___init__) (d_Column___init__.dvs K) (d_Column___init__.kws K) (He.ma K (He.ga K "Column") "__init__") fd := T.c.def_ 7 (d := d_Column___init__) rfl
theorem fd_Column___contains__ (T : Tx K mg) : ∃ fd, FunD K "__contains__" "Column.__contains__" (defArgs s_Column___contains__) (defBody s_Column___contains__) (defScope s_Column___contains__) (d_Column___contains__.dvs K) (d_Column___contains__.kws K) (He.ma K (He.ga K "Column") "__contains__") fd := T.c.def_ 8 (d := d_Column___contains__) rfl
theorem fd_Column_all_values (T : Tx K mg) : ∃ fd, FunD K "all_values" "Column.all_values" (defArgs s_Column_all_values) (defBody s_Column_all_values) (defScope s_Column_all_values) (d_Column_all_values.dvs K) (d_Column_all_values.kws K) (He.ma K (He.ga K "Column") "all_values") fd := T.c.def_ 9 (d := d_Column_all_values) rfl
theorem fd_Column_changed (T : Tx K mg) : ∃ fd, FunD K "changed" "Column.changed" (defArgs s_Column_changed) (defBody s_Column_changed) (defScope s_Column_changed) (d_Column_changed.dvs K) (d_Column_changed.kws K) (He.ma K (He.ga K "Column") "changed") fd := T.c.def_ 10 (d := d_Column_changed) rfl
theorem fd_column_named (T : Tx K mg) : ∃ fd, FunD K "column_named" "column_named" (defArgs s_column_named) (defBody s_column_named) (defScope s_column_named) (d_column_named.dvs K) (d_column_named.kws K) (He.ga K "column_named") fd := T.c.def_ 11 (d := d_column_named) rfl
theorem fd_is_change (T : Tx K mg) : ∃ fd, FunD K "is_change" "is_change" (defArgs s_is_change) (defBody s_is_change) (defScope s_is_change) (d_is_change.dvs K) (d_is_change.kws K) (He.ga K "is_change") fd := T.c.def_ 12 (d := d_is_change) rfl
theorem fd_has_parts (T : Tx K mg) : ∃ fd, FunD K "has_parts" "has_parts" (defArgs s_has_parts) (defBody s_has_parts) (defScope s_has_parts) (d_has_parts.dvs K) (d_has_parts.kws K) (He.ga K "has_parts") fd := T.c.def_ 13 (d := d_has_parts) rfl
theorem fd_is_single_part (T : Tx K mg) : ∃ fd, FunD K "is_single_part" "is_single_part" (defArgs s_is_single_part) (defBody s_is_single_part) (defScope s_is_single_part) (d_is_single_part.dvs K) (d_is_single_part.kws K) (He.ga K "is_single_part") fd := T.c.def_ 14 (d := d_is_single_part) rfl
theorem fd_is_way (T : Tx K mg) : ∃ fd, FunD K "is_way" "is_way" (defArgs s_is_way) (defBody s_is_way) (defScope s_is_way) (d_is_way.dvs K) (d_is_way.kws K) (He.ga K "is_way") fd := T.c.def_ 15 (d := d_is_way) rfl
theorem fd_why_not (T : Tx K mg) : ∃ fd, FunD K "why_not" "why_not" (defArgs s_why_not) (defBody s_why_not) (defScope s_why_not) (d_why_not.dvs K) (d_why_not.kws K) (He.ga K "why_not") fd := T.c.def_ 16 (d := d_why_not) rfl
theorem fd_hindrance (T : Tx K mg) : ∃ fd, FunD K "hindrance" "hindrance" (defArgs s_hindrance) (defBody s_hindrance) (defScope s_hindrance) (d_hindrance.dvs K) (d_hindrance.kws K) (He.ga K "hindrance") fd := T.c.def_ 17 (d := d_hindrance) rfl
theorem fd_add_hindrance (T : Tx K mg) : ∃ fd, FunD K "add_hindrance" "add_hindrance" (defArgs s_add_hindrance) (defBody s_add_hindrance) (defScope s_add_hindrance) (d_add_hindrance.dvs K) (d_add_hindrance.kws K) (He.ga K "add_hindrance") fd := T.c.def_ 18 (d := d_add_hindrance) rfl
theorem fd_changed_value (T : Tx K mg) : ∃ fd, FunD K "changed_value" "changed_value" (defArgs s_changed_value) (defBody s_changed_value) (defScope s_changed_value) (d_changed_value.dvs K) (d_changed_value.kws K) (He.ga K "changed_value") fd := T.c.def_ 19 (d := d_changed_value) rfl
theorem fd_value_above (T : Tx K mg) : ∃ fd, FunD K "value_above" "value_above" (defArgs s_value_above) (defBody s_value_above) (defScope s_value_above) (d_value_above.dvs K) (d_value_above.kws K) (He.ga K "value_above") fd := T.c.def_ 20 (d := d_value_above) rfl
theorem fd__law_pool (T : Tx K mg) : ∃ fd, FunD K "_law_pool" "_law_pool" (defArgs s__law_pool) (defBody s__law_pool) (defScope s__law_pool) (d__law_pool.dvs K) (d__law_pool.kws K) (He.ga K "_law_pool") fd := T.c.def_ 21 (d := d__law_pool) rfl
theorem fd__law_draw (T : Tx K mg) : ∃ fd, FunD K "_law_draw" "_law_draw" (defArgs s__law_draw) (defBody s__law_draw) (defScope s__law_draw) (d__law_draw.dvs K) (d__law_draw.kws K) (He.ga K "_law_draw") fd := T.c.def_ 22 (d := d__law_draw) rfl
theorem fd__law_pick (T : Tx K mg) : ∃ fd, FunD K "_law_pick" "_law_pick" (defArgs s__law_pick) (defBody s__law_pick) (defScope s__law_pick) (d__law_pick.dvs K) (d__law_pick.kws K) (He.ga K "_law_pick") fd := T.c.def_ 23 (d := d__law_pick) rfl
theorem fd__law_value (T : Tx K mg) : ∃ fd, FunD K "_law_value" "_law_value" (defArgs s__law_value) (defBody s__law_value) (defScope s__law_value) (d__law_value.dvs K) (d__law_value.kws K) (He.ga K "_law_value") fd := T.c.def_ 24 (d := d__law_value) rfl
theorem fd__law_cut (T : Tx K mg) : ∃ fd, FunD K "_law_cut" "_law_cut" (defArgs s__law_cut) (defBody s__law_cut) (defScope s__law_cut) (d__law_cut.dvs K) (d__law_cut.kws K) (He.ga K "_law_cut") fd := T.c.def_ 25 (d := d__law_cut) rfl
theorem fd__law_draw_change (T : Tx K mg) : ∃ fd, FunD K "_law_draw_change" "_law_draw_change" (defArgs s__law_draw_change) (defBody s__law_draw_change) (defScope s__law_draw_change) (d__law_draw_change.dvs K) (d__law_draw_change.kws K) (He.ga K "_law_draw_change") fd := T.c.def_ 26 (d := d__law_draw_change) rfl
theorem fd__law_due (T : Tx K mg) : ∃ fd, FunD K "_law_due" "_law_due" (defArgs s__law_due) (defBody s__law_due) (defScope s__law_due) (d__law_due.dvs K) (d__law_due.kws K) (He.ga K "_law_due") fd := T.c.def_ 27 (d := d__law_due) rfl
theorem fd_law (T : Tx K mg) : ∃ fd, FunD K "law" "law" (defArgs s_law) (defBody s_law) (defScope s_law) (d_law.dvs K) (d_law.kws K) (He.ga K "law") fd := T.c.def_ 28 (d := d_law) rfl
theorem ex_PARTS (T : Tx K mg) : He.tupB K "PARTS" [(.str "name"), (.str "greatest"), (.str "default"), (.str "number")] = true := List.all_eq_true.mp T.e _ (List.mem_of_getElem? (i := 0) rfl)
theorem ex_WAYS (T : Tx K mg) : He.tupB K "WAYS" [(.str "cut"), (.str "none"), (.str "refuse")] = true := List.all_eq_true.mp T.e _ (List.mem_of_getElem? (i := 1) rfl)
end
/-! ### the head and the end -/
abbrev RowR : PySem.W.OpenRow := PySem.W.OpenLaw.row PySem.Challenge.rw_editionrows_k05_whole_values_behind_chan
abbrev hkR : PySem.W.Hook := hookP 5 fal fnl exl
def obR (s : PySem.W.SharedT) : AlP := obsP 5 fal fnl exl (HandSHeadRun.getT s)
theorem obR_eq (s : PySem.W.SharedT) : obR s = hkR.obs s.abs := obsP_eq (HandSHeadRun.getT_eq s)
theorem runR (w : World) : HandSHeadRun.RunEq RowR (PySem.W.view RowR.prog [40]) hkR obR 3000 ((["TableError", "BadPart", "BadChange", "MISSING", "LETTERS", "LONGEST_NAME", "MOST_GREATEST", "is_whole", "is_word", "is_name", "is_greatest", "is_value", "is_within", "values_to", "PARTS", "Column", "column_named", "WAYS", "MOST_COLUMNS", "is_change", "has_parts", "is_single_part", "is_way", "why_not", "hindrance"] : List PySem.Str) ++ (["add_hindrance", "changed_value", "value_above", "_law_pool", "_law_draw", "_law_pick", "_law_value", "_law_cut", "_law_draw_change", "_law_due"] : List PySem.Str)) w := by
  intro os
  kernel_rfl
section
variable {P : Program} {w : World} {K : PySem.W.Frag} {mg : Str → Option Value} {base : Heap}
/-! is_whole -/
def sp_is_whole (K : PySem.W.Frag) : Sp := fun vs H Q _ => ∃ (x : V) (t : String), vs = [x] ∧ TyX K H x (.type t) ∧ Q (.bl (isI x)) H
theorem ok_is_whole (T : Tx K mg) : Callee P w K mg base CX0 1 "is_whole" ["value"] [] (sp_is_whole K) := by
  refine mkCallee (fd_is_whole T) (mg_is_whole T) sc_is_whole (fun _ _ _ _ _ _ us hl => match us, hl with | [_], _ => rfl) (fun vs H Q E h => ?_) (fun cdv A outer s H vs Q E hr h => ?_)
  · obtain ⟨x, t, rfl, _⟩ := h
    rfl
  · obtain ⟨x, t, rfl, ty, k⟩ := h
    obtain ⟨ba, bb, e1, e2, e3⟩ := kit_whole ty
    refine ⟨_, pss_one (ps_ret (pe_and (pe_callB call_isi (by rfl) (fr_isinstance T) (by decide +kernel) (pa_cons (pv 0) (pa_cons (pe_bltn (v := .ty "int") (by rfl) (fr_int T) (by decide +kernel) rfl) pa_nil)))
      (pe_one (pe_not (pe_callB call_isi (by rfl) (fr_isinstance T) (by decide +kernel) (pa_cons (pv 0) (pa_cons (pe_bltn (v := .ty "bool") (by rfl) (fr_bool T) (by decide +kernel) rfl) pa_nil))))))), ?_⟩
    refine ⟨x, rfl, x, .ty "int", _, _, ba, rfl, .ty "int", ty, kit_ty e1, ba, rfl, ?_⟩
    cases ba with
    | false =>
      refine iteF ?_
      rw [← e3] at k
      exact k
    | true =>
      refine iteT ⟨x, rfl, x, .ty "bool", _, _, bb, rfl, .ty "bool", ty, kit_ty e2, bb, rfl, ?_⟩
      rw [← e3] at k
      exact k
/-! is_word, of any value and a tuple of words -/
def wordV (x : V) (xs : List V) : Bool := match x with
  | .str z => inV (.str z) xs
  | _ => false
theorem kit_strW {K : PySem.W.Frag} {H : Hp} {x : V} {t : String} (ty : TyX K H x (.type t)) : ∃ a : Bool, kitB t "str" = some a ∧ ((a = true ∧ ∃ z, x = .str z) ∨ (a = false ∧ ∀ xs, wordV x xs = false)) := by
  cases ty with
  | base h =>
    cases h with
    | str z => exact ⟨true, by decide +kernel, .inl ⟨rfl, z, rfl⟩⟩
    | _ => exact ⟨false, by decide +kernel, .inr ⟨rfl, fun _ => rfl⟩⟩
  | _ => exact ⟨false, by decide +kernel, .inr ⟨rfl, fun _ => rfl⟩⟩
def sp_is_word (K : PySem.W.Frag) : Sp := fun vs H Q _ => ∃ (x : V) (t : String) (p : Addr) (xs : List V), vs = [x, .ref p] ∧ TyX K H x (.type t) ∧ SqT K H p xs ∧ xs.all flatV = true ∧ Q (.bl (wordV x xs)) H
theorem ok_is_word (T : Tx K mg) : Callee P w K mg base CX0 1 "is_word" ["value", "words"] [] (sp_is_word K) := by
  refine mkCallee (fd_is_word T) (mg_is_word T) sc_is_word (fun _ _ _ _ _ _ us hl => match us, hl with | [_, _], _ => rfl) (fun vs H Q E h => ?_) (fun cdv A outer s H vs Q E hr h => ?_)
  · obtain ⟨x, t, p, xs, rfl, _⟩ := h
    rfl
  · obtain ⟨x, t, p, xs, rfl, ty, hp, hf, k⟩ := h
    obtain ⟨a, e1, e2⟩ := kit_strW ty
    refine ⟨_, pss_one (ps_ret (pe_and (pe_callB call_isi (by rfl) (fr_isinstance T) (by decide +kernel) (pa_cons (pv 0) (pa_cons (pe_bltn (v := .ty "str") (by rfl) (fr_str T) (by decide +kernel) rfl) pa_nil)))
      (pe_one (pe_cmpR op_in_seq (pv 0) (pv 1) (by rfl))))), ?_⟩
    refine ⟨x, rfl, x, .ty "str", _, _, a, rfl, .ty "str", ty, kit_ty e1, a, rfl, ?_⟩
    rcases e2 with ⟨rfl, z, rfl⟩ | ⟨rfl, e⟩
    · exact iteT ⟨_, rfl, _, rfl, p, xs, rfl, .inr hp, rfl, hf, k⟩
    · rw [e xs] at k
      exact k
/-! is_name -/
def letters : Str := "abcdefghijklmnopqrstuvwxyz"
def isNm : V → Bool
  | .str n => decide (1 ≤ n.length) && (decide (n.length ≤ 8) && n.cps.toList.all fun c => decide (c ∈ letters.cps.toList))
  | _ => false
def sp_is_name (K : PySem.W.Frag) : Sp := fun vs H Q _ => ∃ (x : V) (t : String), vs = [x] ∧ TyX K H x (.type t) ∧ (∀ n, x = .str n → n.length ≤ 1000) ∧ ∀ H', Same H H' → Q (.bl (isNm x)) H'
theorem kit_str2 {K : PySem.W.Frag} {H : Hp} {x : V} {t : String} (ty : TyX K H x (.type t)) : ∃ a : Bool, kitB t "str" = some a ∧ ((a = true ∧ ∃ z, x = .str z) ∨ (a = false ∧ ∀ z, x ≠ .str z)) := by
  cases ty with
  | base h =>
    cases h with
    | str z => exact ⟨true, by decide +kernel, .inl ⟨rfl, z, rfl⟩⟩
    | _ => exact ⟨false, by decide +kernel, .inr ⟨rfl, fun z h => by cases h⟩⟩
  | _ => exact ⟨false, by decide +kernel, .inr ⟨rfl, fun z h => by cases h⟩⟩
theorem ok_is_name (T : Tx K mg) : Callee P w K mg base CX0 1 "is_name" ["value"] [] (sp_is_name K) := by
  refine mkCallee (fd_is_name T) (mg_is_name T) sc_is_name (fun _ _ _ _ _ _ us hl => match us, hl with | [_], _ => rfl) (fun vs H Q E h => ?_) (fun cdv A outer s H vs Q E hr h => ?_)
  · obtain ⟨x, t, rfl, _⟩ := h
    rfl
  · obtain ⟨x, t, rfl, ty, hlen, k⟩ := h
    obtain ⟨tk, gL⟩ := ms_LETTERS T
    obtain ⟨tk2, gN⟩ := mi_LONGEST_NAME T
    obtain ⟨a, e1, e2⟩ := kit_str2 ty
    have nd := sc_is_name.nd
    refine ⟨_, pss_cons (ps_if (PW.pt (pw_or (pt_not (pt_val (pe_callB call_isi (by rfl) (fr_isinstance T) (by decide +kernel) (pa_cons (pv 0) (pa_cons (pe_bltn (v := .ty "str") (by rfl) (fr_str T) (by decide +kernel) rfl) pa_nil)))))
        (pw_or1 (pt_not (pt_chain op_le op_le pe_int (pe_callB call_len_str (by rfl) (fr_len T) PySem.boot_len (pa_cons (pv 0) pa_nil)) (pe_glob (v := .int 8) (by rfl) gN ⟨_, rfl⟩)))))) (pss_one (ps_ret pe_bl)) pss_nil)
      (pss_one (ps_ret (pe_callB (cr_all rfl) (by rfl) (fr_all T) (by decide +kernel) (pa_cons (pe_lc (own := [("letter", 1)]) (g := gName 1) (tt := tYes) rfl nd (pi_str (pv 0)) (blkOk_by (N := ["value", "letter"]) (sc := defScope s_is_name) (by decide +kernel))
        (fun _ _ _ _ _ => pg_name (i := 1) nd rfl (Or.inl rfl)) (fun _ _ _ _ _ => pts_nil) (fun _ _ _ _ _ => pe_cmpR op_in_sign (pv 1) (pe_glob (v := .str letters) (by rfl) gL ⟨_, rfl⟩) (by rfl))) pa_nil)))), ?_⟩
    refine ⟨x, rfl, x, .ty "str", _, _, a, rfl, .ty "str", ty, kit_ty e1, _, rfl, ?_⟩
    rcases e2 with ⟨rfl, z, rfl⟩ | ⟨rfl, hz⟩
    · have hl := hlen z rfl
      refine iteF ⟨_, rfl, z, rfl, Nat.le_trans hl (by decide), _, _, rfl, rfl, decide ((1 : Int) ≤ (z.length : Int)), rfl, ?_⟩
      have e0 : isNm (.str z) = (decide ((1 : Int) ≤ (z.length : Int)) && (decide ((z.length : Int) ≤ 8) && z.cps.toList.all fun c => decide (c ∈ letters.cps.toList))) := by
        have a1 : decide (1 ≤ z.length) = decide ((1 : Int) ≤ (z.length : Int)) := by
          rw [decide_eq_decide]
          omega
        have a2 : decide (z.length ≤ 8) = decide ((z.length : Int) ≤ 8) := by
          rw [decide_eq_decide]
          omega
        show (decide (1 ≤ z.length) && (decide (z.length ≤ 8) && _)) = _
        rw [a1, a2]
      cases h1 : decide ((1 : Int) ≤ (z.length : Int)) with
      | false =>
        have e9 : isNm (.str z) = false := by
          rw [e0, h1]
          rfl
        rw [e9] at k
        exact iteF ⟨false, rfl, iteT (k H (Same.refl _))⟩
      | true =>
        refine iteT ⟨_, _, rfl, rfl, decide ((z.length : Int) ≤ 8), rfl, ?_⟩
        rw [h1] at e0
        cases h2 : decide ((z.length : Int) ≤ 8) with
        | false =>
          have e9 : isNm (.str z) = false := by
            rw [e0, h2]
            rfl
          rw [e9] at k
          exact iteT (k H (Same.refl _))
        | true =>
          rw [h2, Bool.true_and, Bool.true_and] at e0
          rw [e0] at k
          refine iteF (nxt ?_)
          dsimp only
          refine pl_r1 (tlc_S (fun c => .bl (decide (c ∈ letters.cps.toList))) z ?_ ?_ ?_ ?_ ?_)
          · exact fun R r => ⟨_, rfl, r⟩
          · exact Nat.le_trans hl (by decide)
          · exact fun x => rfl
          · exact fun c hc H' s' R r => ⟨_, rfl, c, letters, rfl, rfl, r H' (Same.refl _)⟩
          · intro D H' hD sD hD2
            refine ⟨D, z.cps.toList.map fun c => decide (c ∈ letters.cps.toList), rfl, sqL_of (by rw [List.map_map]; exact hD2), ?_⟩
            rw [List.all_map]
            exact k H' sD
    · have e0 : isNm x = false := by
        cases x with
        | str z => exact absurd rfl (hz z)
        | _ => rfl
      rw [e0] at k
      exact k H (Same.refl _)
/-! is_greatest -/
def isGr : V → Bool
  | .int i => decide (1 ≤ i) && decide (i ≤ 99)
  | _ => false
def sp_is_greatest (K : PySem.W.Frag) : Sp := fun vs H Q _ => ∃ (x : V) (t : String), vs = [x] ∧ TyX K H x (.type t) ∧ Q (.bl (isGr x)) H
theorem ok_is_greatest (T : Tx K mg) : Callee P w K mg base CX0 2 "is_greatest" ["value"] [] (sp_is_greatest K) := by
  have C1 := ok_is_whole (P := P) (w := w) (base := base) T
  refine mkCallee (fd_is_greatest T) (mg_is_greatest T) sc_is_greatest (fun _ _ _ _ _ _ us hl => match us, hl with | [_], _ => rfl) (fun vs H Q E h => ?_) (fun cdv A outer s H vs Q E hr h => ?_)
  · obtain ⟨x, t, rfl, _⟩ := h
    rfl
  · obtain ⟨x, t, rfl, ty, k⟩ := h
    obtain ⟨tk, gM⟩ := mi_MOST_GREATEST T
    refine ⟨_, pss_one (ps_ret (pe_and (pcall C1 hr (pa_cons (pv 0) pa_nil)) (pe_one (pe_chain op_le op_le pe_int (pv 0) (pe_glob (v := .int 99) (by rfl) gM ⟨_, rfl⟩))))), ?_⟩
    refine ⟨x, rfl, x, t, rfl, ty, _, rfl, ?_⟩
    cases x with
    | int i =>
      refine iteT ⟨_, rfl, _, _, rfl, rfl, _, rfl, ?_⟩
      have e : isGr (.int i) = (decide (1 ≤ i) && decide (i ≤ 99)) := rfl
      rw [e] at k
      cases h1 : decide (1 ≤ i) with
      | false =>
        rw [h1] at k
        exact k
      | true =>
        rw [h1] at k
        exact ⟨_, _, rfl, rfl, k⟩
    | _ => exact iteF k
/-! is_value -/
def isVal : V → Bool
  | .non => true
  | .int i => decide (0 ≤ i)
  | _ => false
def sp_is_value (K : PySem.W.Frag) : Sp := fun vs H Q _ => ∃ (x : V) (t : String), vs = [x] ∧ TyX K H x (.type t) ∧ Q (.bl (isVal x)) H
theorem ok_is_value (T : Tx K mg) : Callee P w K mg base CX0 2 "is_value" ["value"] [] (sp_is_value K) := by
  have C1 := ok_is_whole (P := P) (w := w) (base := base) T
  refine mkCallee (fd_is_value T) (mg_is_value T) sc_is_value (fun _ _ _ _ _ _ us hl => match us, hl with | [_], _ => rfl) (fun vs H Q E h => ?_) (fun cdv A outer s H vs Q E hr h => ?_)
  · obtain ⟨x, t, rfl, _⟩ := h
    rfl
  · obtain ⟨x, t, rfl, ty, k⟩ := h
    refine ⟨_, pss_one (ps_ret (pe_or (pe_cmpR op_isN (pv 0) pe_non (nomark _)) (pe_one (pe_and (pcall C1 hr (pa_cons (pv 0) pa_nil)) (pe_one (pe_cmpR op_ge (pv 0) pe_int (nomark _))))))), ?_⟩
    refine ⟨x, rfl, rfl, _, rfl, ?_⟩
    by_cases hx : x = .non
    · subst hx
      exact k
    · rw [decide_eq_false hx]
      refine iteF ⟨x, rfl, x, t, rfl, ty, _, rfl, ?_⟩
      cases x with
      | int i => exact ⟨_, rfl, _, _, rfl, rfl, k⟩
      | non => exact absurd rfl hx
      | _ => exact k
/-! is_within -/
def isIn (g : Int) : V → Bool
  | .non => true
  | .int i => decide (0 ≤ i) && decide (i ≤ g)
  | _ => false
def sp_is_within (K : PySem.W.Frag) : Sp := fun vs H Q _ => ∃ (x : V) (g : Int) (t : String), vs = [x, .int g] ∧ TyX K H x (.type t) ∧ Q (.bl (isIn g x)) H
theorem ok_is_within (T : Tx K mg) : Callee P w K mg base CX0 3 "is_within" ["value", "greatest"] [] (sp_is_within K) := by
  have C1 := ok_is_value (P := P) (w := w) (base := base) T
  refine mkCallee (fd_is_within T) (mg_is_within T) sc_is_within (fun _ _ _ _ _ _ us hl => match us, hl with | [_, _], _ => rfl) (fun vs H Q E h => ?_) (fun cdv A outer s H vs Q E hr h => ?_)
  · obtain ⟨x, g, t, rfl, _⟩ := h
    rfl
  · obtain ⟨x, g, t, rfl, ty, k⟩ := h
    refine ⟨_, pss_one (ps_ret (pe_and (pcall C1 hr (pa_cons (pv 0) pa_nil)) (pe_one (pe_or (pe_cmpR op_isN (pv 0) pe_non (nomark _)) (pe_one (pe_cmpR op_le (pv 0) (pv 1) (nomark _))))))), ?_⟩
    refine ⟨x, rfl, x, t, rfl, ty, _, rfl, ?_⟩
    cases x with
    | non => exact ⟨_, rfl, rfl, _, rfl, k⟩
    | int i =>
      by_cases hi : 0 ≤ i
      · have e : isVal (.int i) = true := decide_eq_true hi
        rw [e]
        refine ⟨_, rfl, rfl, _, rfl, ?_⟩
        refine ⟨_, rfl, _, rfl, _, _, rfl, rfl, ?_⟩
        have e2 : isIn g (.int i) = decide (i ≤ g) := by
          show (decide (0 ≤ i) && decide (i ≤ g)) = _
          rw [decide_eq_true hi, Bool.true_and]
        rw [e2] at k
        exact k
      · have e : isVal (.int i) = false := decide_eq_false hi
        rw [e]
        have e2 : isIn g (.int i) = false := by
          show (decide (0 ≤ i) && decide (i ≤ g)) = _
          rw [decide_eq_false hi, Bool.false_and]
        rw [e2] at k
        exact k
    | _ => exact k
/-! values_to -/
def sp_values_to : Sp := fun vs H Q _ => ∃ g : Int, vs = [.int g] ∧ 0 ≤ g ∧ g ≤ 1000000 ∧ ∀ p H', H p = none → Same H H' → H' p = some (.lst (valsTo g)) → Q (.ref p) H'
theorem ok_values_to (T : Tx K mg) : Callee P w K mg base CX0 1 "values_to" ["greatest"] [] sp_values_to := by
  refine mkCallee (fd_values_to T) (mg_values_to T) sc_values_to (fun _ _ _ _ _ _ us hl => match us, hl with | [_], _ => rfl) (fun vs H Q E h => ?_) (fun cdv A outer s H vs Q E hr h => ?_)
  · obtain ⟨g, rfl, _⟩ := h
    rfl
  · obtain ⟨g, rfl, h0, h1, k⟩ := h
    refine ⟨_, pss_one (ps_ret (pe_op op_cat (pe_lst (pa_cons pe_non pa_nil)) (pe_listRg rfl (by rfl) (fr_list T) (prg_1 (by rfl) (fr_range T) (pe_op op_add (pv 0) pe_int))))), ?_⟩
    refine ⟨by decide, fun l hl => ?_⟩
    refine ⟨_, rfl, _, _, rfl, rfl, _, rfl, .of_le (by omega) (by omega) (by omega) (by omega), fun q hq => ?_⟩
    have nq : l ≠ q := ne_of_none upd_same hq
    refine ⟨l, q, _, _, rfl, rfl, (by rw [upd_ne nq]; exact upd_same), upd_same, ?_, fun p hp => ?_⟩
    · rw [rgV_length]
      have : sizeLine = 16777216 := by decide
      rw [this]
      show 1 + (g + 1 - 0).toNat ≤ _
      omega
    · have s1 : Same H (upd (upd H l (.lst [.non])) q (.lst (rgV 0 (g + 1)))) := (same_new hl).trans (same_new hq)
      exact k p _ (s1.free hp) (s1.trans (same_new hp)) upd_same
/-! Column.__init__, where its parts fit -/
def colFs (n : Str) (g : Int) (d : V) (k : Int) : List (Str × V) := [("name", .str n), ("greatest", .int g), ("default", d), ("number", .int k)]
theorem colFs_eq (n : Str) (g : Int) (d : V) (k : Int) : putF "number" (.int k) (putF "default" d (putF "greatest" (.int g) (putF "name" (.str n) []))) = colFs n g d k := by
  have h1 : ¬ (("name" : Str) = "greatest") := by decide +kernel
  have h2 : ¬ (("name" : Str) = "default") := by decide +kernel
  have h3 : ¬ (("greatest" : Str) = "default") := by decide +kernel
  have h4 : ¬ (("name" : Str) = "number") := by decide +kernel
  have h5 : ¬ (("greatest" : Str) = "number") := by decide +kernel
  have h6 : ¬ (("default" : Str) = "number") := by decide +kernel
  simp only [putF, if_neg h1, if_neg h2, if_neg h3, if_neg h4, if_neg h5, if_neg h6]
  rfl
theorem put2 (n : Str) (g : Int) : putF "greatest" (.int g) (putF "name" (.str n) []) = ([("name", .str n), ("greatest", .int g)] : List (Str × V)) := by
  have h1 : ¬ (("name" : Str) = "greatest") := by decide +kernel
  simp only [putF, if_neg h1]
theorem put3 (n : Str) (g : Int) (d : V) : putF "default" d (putF "greatest" (.int g) (putF "name" (.str n) [])) = ([("name", .str n), ("greatest", .int g), ("default", d)] : List (Str × V)) := by
  have h2 : ¬ (("name" : Str) = "default") := by decide +kernel
  have h3 : ¬ (("greatest" : Str) = "default") := by decide +kernel
  rw [put2]
  simp only [putF, if_neg h2, if_neg h3]
theorem colFs_name {n : Str} {g : Int} {d : V} {k : Int} : (colFs n g d k).lookup ("name" : Str) = some (.str n) := by
  unfold colFs
  simp [List.lookup]
theorem colFs_greatest {n : Str} {g : Int} {d : V} {k : Int} : (colFs n g d k).lookup ("greatest" : Str) = some (.int g) := by
  have h1 : (("greatest" : Str) == "name") = false := by decide +kernel
  unfold colFs
  simp [List.lookup, h1]
theorem colFs_default {n : Str} {g : Int} {d : V} {k : Int} : (colFs n g d k).lookup ("default" : Str) = some d := by
  have h1 : (("default" : Str) == "name") = false := by decide +kernel
  have h2 : (("default" : Str) == "greatest") = false := by decide +kernel
  unfold colFs
  simp [List.lookup, h1, h2]
theorem colFs_number {n : Str} {g : Int} {d : V} {k : Int} : (colFs n g d k).lookup ("number" : Str) = some (.int k) := by
  have h1 : (("number" : Str) == "name") = false := by decide +kernel
  have h2 : (("number" : Str) == "greatest") = false := by decide +kernel
  have h3 : (("number" : Str) == "default") = false := by decide +kernel
  unfold colFs
  simp [List.lookup, h1, h2, h3]
/-- a Column stands at c -/
def ColAt (K : PySem.W.Frag) (H : Hp) (c : Addr) (n : Str) (g : Int) (d : V) (k : Int) : Prop := ∃ dx, H c = some (.ins (He.ga K "Column") dx (colFs n g d k))
def sp_Col_init (K : PySem.W.Frag) : Sp := fun vs H Q _ => ∃ (c dx : Addr) (n : Str) (g k : Int) (d : V), vs = [.ref c, .str n, .int g, d, .int k] ∧ H c = some (.ins (He.ga K "Column") dx []) ∧ isNm (.str n) = true ∧ isGr (.int g) = true ∧ isIn g d = true ∧ 0 ≤ k ∧
  ∀ H', ColAt K H' c n g d k → (∀ b o, b ≠ c → H b = some o → H' b = some o) → Q .non H'
theorem nm_len {n : Str} (h : isNm (.str n) = true) : n.length ≤ 1000 := by
  have h' : (decide (1 ≤ n.length) && (decide (n.length ≤ 8) && _)) = true := h
  rw [Bool.and_eq_true, Bool.and_eq_true] at h'
  have := of_decide_eq_true h'.2.1
  omega
theorem ok_Col_init (T : Tx K mg) : ∃ fd, FnOk P w K mg base CX0 4 (He.ma K (He.ga K "Column") "__init__") fd ["self", "name", "greatest", "default", "number"] (sp_Col_init K) ∧
    FunD K "__init__" "Column.__init__" (defArgs s_Column___init__) (defBody s_Column___init__) (defScope s_Column___init__) (d_Column___init__.dvs K) (d_Column___init__.kws K) (He.ma K (He.ga K "Column") "__init__") fd := by
  have C1 := (ok_is_name (P := P) (w := w) (base := base) T).up (show 1 ≤ 3 by decide)
  have C2 := (ok_is_greatest (P := P) (w := w) (base := base) T).up (show 2 ≤ 3 by decide)
  have C3 := ok_is_within (P := P) (w := w) (base := base) T
  have C4 := (ok_is_whole (P := P) (w := w) (base := base) T).up (show 1 ≤ 3 by decide)
  obtain ⟨fd, F⟩ := fd_Column___init__ T
  refine ⟨fd, F.ok (CX := CX0) sc_Column___init__ (fun vs H Q E h => ?_) (fun cdv A outer s H vs Q E hr h => ?_), F⟩
  · obtain ⟨c, dx, n, g, k, d, rfl, _⟩ := h
    rfl
  suffices hh : ∃ t, PSs (cxOf CX0 P w K mg base ["self", "name", "greatest", "default", "number"] "Column.__init__" (defScope s_Column___init__) (He.ma K (He.ga K "Column") "__init__") cdv A outer s H E).nox (defBody s_Column___init__) t ∧
      t { nx := fun _ H' => Q .non H', rt := Q } (start ["self", "name", "greatest", "default", "number"] vs) H by
    obtain ⟨t, h1, h2⟩ := hh
    exact ⟨t, h1.nox, h2⟩
  obtain ⟨c, dx, n, g, k, d, rfl, hc, hn, hg, hd, hk, kk⟩ := h
  have cl := cl_Column T
  refine ⟨_, pss_cons (ps_if (pt_not (pt_val (pcall C1 hr (pa_cons (pv 1) pa_nil)))) (pss_one ps_never) pss_nil)
    (pss_cons (ps_if (pt_not (pt_val (pcall C2 hr (pa_cons (pv 2) pa_nil)))) (pss_one ps_never) pss_nil)
    (pss_cons (ps_if (pt_not (pt_val (pcall C3 hr (pa_cons (pv 3) (pa_cons (pv 2) pa_nil))))) (pss_one ps_never) pss_nil)
    (pss_cons (ps_if (PW.pt (pw_or (pt_not (pt_val (pcall C4 hr (pa_cons (pv 4) pa_nil)))) (pw_or1 (pt_cmpR op_lt (pv 4) pe_int (nomark _))))) (pss_one ps_never) pss_nil)
    (pss_cons (ps_fld (pv 0) (pv 1) rfl) (pss_cons (ps_fld (pv 0) (pv 2) rfl) (pss_cons (ps_fld (pv 0) (pv 3) rfl) (pss_one (ps_fld (pv 0) (pv 4) rfl)))))))), ?_⟩
  have td : ∃ t, ∀ H : Hp, TyX K H d (.type t) := by
    cases d with
    | non => exact ⟨_, fun _ => .base .non⟩
    | int i => exact ⟨_, fun _ => .base (.int i)⟩
    | _ => cases hd
  obtain ⟨t, td⟩ := td
  refine ⟨_, rfl, .str n, _, rfl, .base (.str n), fun m e => by cases e; exact nm_len hn, fun H1 s1 => ⟨_, rfl, ?_⟩⟩
  rw [hn]
  refine iteF ⟨_, rfl, .int g, _, rfl, .base (.int g), _, rfl, ?_⟩
  rw [hg]
  refine iteF ⟨_, rfl, _, rfl, d, g, _, rfl, td _, _, rfl, ?_⟩
  rw [hd]
  refine iteF ⟨_, rfl, .int k, _, rfl, .base (.int k), _, rfl, iteF ⟨_, rfl, _, _, rfl, rfl, _, rfl, ?_⟩⟩
  rw [decide_eq_false (show ¬ k < 0 by omega)]
  refine iteF ?_
  have hc1 := s1 _ _ hc
  refine ⟨_, rfl, _, rfl, c, _, dx, _, rfl, hc1, cl, na_Column_name T, (by show 0 < 1000; decide), ?_⟩
  refine ⟨_, rfl, _, rfl, c, _, dx, _, rfl, upd_same, cl, na_Column_greatest T, (by show 1 < 1000; decide), ?_⟩
  refine ⟨_, rfl, _, rfl, c, _, dx, _, rfl, upd_same, cl, na_Column_default T, (by rw [put2]; show 2 < 1000; decide), ?_⟩
  refine ⟨_, rfl, _, rfl, c, _, dx, _, rfl, upd_same, cl, na_Column_number T, (by rw [put3]; show 3 < 1000; decide), ?_⟩
  refine kk _ ⟨dx, ?_⟩ fun b o hb e => by rw [upd_ne hb, upd_ne hb, upd_ne hb, upd_ne hb]; exact s1 _ _ e
  rw [upd_same, colFs_eq]
/-- Column(name, greatest, default) -/
theorem binds_Col3 (T : Tx K mg) {fd : FuncData} (F : FunD K "__init__" "Column.__init__" (defArgs s_Column___init__) (defBody s_Column___init__) (defScope s_Column___init__) (d_Column___init__.dvs K) (d_Column___init__.kws K) (He.ma K (He.ga K "Column") "__init__") fd) :
    ∃ ds, Vals [V.int 0] ds ∧ Binds K fd ["self", "name", "greatest", "default", "number"] ds := by
  have h := F.binds (ps := ["self", "name", "greatest", "default", "number"]) 4 1 (by intro z; cases z) rfl (fun TT D doc pm an cdv ct us its ks h1 h2 h3 => ?_) (by intro z; cases z)
  · exact h
  · match us, h1, its, h2, ks, h3 with
    | [u0, u1, u2, u3], _, [i0], _, [k0], _ => exact ⟨_, rfl, _, _, _, _, _, _, rfl, rfl, rfl⟩
/-! Column.__contains__ -/
def sp_contains (K : PySem.W.Frag) : Sp := fun vs H Q _ => ∃ (c : Addr) (n : Str) (g k : Int) (d x : V) (t : String), vs = [.ref c, x] ∧ ColAt K H c n g d k ∧ TyX K H x (.type t) ∧ Q (.bl (isIn g x)) H
theorem ok_contains (T : Tx K mg) : ∃ fd, FnOk P w K mg base CX0 4 (He.ma K (He.ga K "Column") "__contains__") fd ["self", "x"] (sp_contains K) ∧ Binds K fd ["self", "x"] [] := by
  have C1 := ok_is_within (P := P) (w := w) (base := base) T
  obtain ⟨fd, F⟩ := fd_Column___contains__ T
  refine ⟨fd, F.ok (CX := CX0) sc_Column___contains__ (fun vs H Q E h => ?_) (fun cdv A outer s H vs Q E hr h => ?_), F.bindsN fun _ _ _ _ _ _ us hl => match us, hl with | [_, _], _ => rfl⟩
  · obtain ⟨c, n, g, k, d, x, t, rfl, _⟩ := h
    rfl
  suffices hh : ∃ t, PSs (cxOf CX0 P w K mg base ["self", "x"] "Column.__contains__" (defScope s_Column___contains__) (He.ma K (He.ga K "Column") "__contains__") cdv A outer s H E).nox (defBody s_Column___contains__) t ∧
      t { nx := fun _ H' => Q .non H', rt := Q } (start ["self", "x"] vs) H by
    obtain ⟨t, h1, h2⟩ := hh
    exact ⟨t, h1.nox, h2⟩
  obtain ⟨c, n, g, k, d, x, t, rfl, ⟨dx, hc⟩, ty, kk⟩ := h
  refine ⟨_, pss_one (ps_ret (pcall C1 hr (pa_cons (pv 1) (pa_cons (pe_fld (pv 0) rfl) pa_nil)))), ?_⟩
  exact ⟨_, rfl, _, rfl, c, _, dx, _, _, rfl, hc, cl_Column T, na_Column_greatest T, colFs_greatest, x, g, t, rfl, ty, kk⟩
/-! Column.all_values -/
def sp_all_values (K : PySem.W.Frag) : Sp := fun vs H Q _ => ∃ (c : Addr) (n : Str) (g k : Int) (d : V), vs = [.ref c] ∧ ColAt K H c n g d k ∧ 0 ≤ g ∧ g ≤ 1000 ∧ ∀ p H', H p = none → Same H H' → H' p = some (.lst (valsTo g)) → Q (.ref p) H'
theorem ok_all_values (T : Tx K mg) : ∃ fd, FnOk P w K mg base CX0 2 (He.ma K (He.ga K "Column") "all_values") fd ["self"] (sp_all_values K) ∧ Binds K fd ["self"] [] := by
  have C1 := ok_values_to (P := P) (w := w) (base := base) T
  obtain ⟨fd, F⟩ := fd_Column_all_values T
  refine ⟨fd, F.ok (CX := CX0) sc_Column_all_values (fun vs H Q E h => ?_) (fun cdv A outer s H vs Q E hr h => ?_), F.bindsN fun _ _ _ _ _ _ us hl => match us, hl with | [_], _ => rfl⟩
  · obtain ⟨c, n, g, k, d, rfl, _⟩ := h
    rfl
  suffices hh : ∃ t, PSs (cxOf CX0 P w K mg base ["self"] "Column.all_values" (defScope s_Column_all_values) (He.ma K (He.ga K "Column") "all_values") cdv A outer s H E).nox (defBody s_Column_all_values) t ∧
      t { nx := fun _ H' => Q .non H', rt := Q } (start ["self"] vs) H by
    obtain ⟨t, h1, h2⟩ := hh
    exact ⟨t, h1.nox, h2⟩
  obtain ⟨c, n, g, k, d, rfl, ⟨dx, hc⟩, h0, h1, kk⟩ := h
  refine ⟨_, pss_one (ps_ret (pcall C1 hr (pa_cons (pe_fld (pv 0) rfl) pa_nil))), ?_⟩
  exact ⟨_, rfl, c, _, dx, _, _, rfl, hc, cl_Column T, na_Column_greatest T, colFs_greatest, g, rfl, h0, by omega, kk⟩
/-! Column.changed, where the part fits -/
def put (part : Str) (v : V) (n : V) (g : V) (d : V) (k : V) : List (Key × V) := putK ([(Sum.inr "name", n), (Sum.inr "greatest", g), (Sum.inr "default", d), (Sum.inr "number", k)] : List (Key × V)) (Sum.inr part) v
/-- what stands under the four names behind it -/
structure Four (part : Str) (v n g d k n' g' d' k' : V) : Prop where
  part_ : part = "name" ∨ part = "greatest" ∨ part = "default" ∨ part = "number"
  eq : (n', g', d', k') = (if part = "name" then (v, g, d, k) else if part = "greatest" then (n, v, d, k) else if part = "default" then (n, g, v, k) else (n, g, d, v))
theorem merge4 (x y z u : V) : mergeK [] [(Sum.inr "name", x), (Sum.inr "greatest", y), (Sum.inr "default", z), (Sum.inr "number", u)] = ([(Sum.inr "name", x), (Sum.inr "greatest", y), (Sum.inr "default", z), (Sum.inr "number", u)] : List (Key × V)) := by
  have h1 : ¬ ((Sum.inr "name" : Key) = (Sum.inr "greatest" : Key)) := by decide +kernel
  have h2 : ¬ ((Sum.inr "name" : Key) = (Sum.inr "default" : Key)) := by decide +kernel
  have h3 : ¬ ((Sum.inr "name" : Key) = (Sum.inr "number" : Key)) := by decide +kernel
  have h4 : ¬ ((Sum.inr "greatest" : Key) = (Sum.inr "default" : Key)) := by decide +kernel
  have h5 : ¬ ((Sum.inr "greatest" : Key) = (Sum.inr "number" : Key)) := by decide +kernel
  have h6 : ¬ ((Sum.inr "default" : Key) = (Sum.inr "number" : Key)) := by decide +kernel
  simp [mergeK, putK, h1, h2, h3, h4, h5, h6]
theorem put_get {part : Str} {v n g d k n' g' d' k' : V} (f : Four part v n g d k n' g' d' k') : valV (put part v n g d k) (Sum.inr "name") = some n' ∧ valV (put part v n g d k) (Sum.inr "greatest") = some g' ∧ valV (put part v n g d k) (Sum.inr "default") = some d' ∧ valV (put part v n g d k) (Sum.inr "number") = some k' := by
  have h1 : ¬ ((Sum.inr "name" : Key) = (Sum.inr "greatest" : Key)) := by decide +kernel
  have h2 : ¬ ((Sum.inr "name" : Key) = (Sum.inr "default" : Key)) := by decide +kernel
  have h3 : ¬ ((Sum.inr "name" : Key) = (Sum.inr "number" : Key)) := by decide +kernel
  have h4 : ¬ ((Sum.inr "greatest" : Key) = (Sum.inr "default" : Key)) := by decide +kernel
  have h5 : ¬ ((Sum.inr "greatest" : Key) = (Sum.inr "number" : Key)) := by decide +kernel
  have h6 : ¬ ((Sum.inr "default" : Key) = (Sum.inr "number" : Key)) := by decide +kernel
  have k1 : ¬ ((Sum.inr "greatest" : Key) = (Sum.inr "name" : Key)) := by decide +kernel
  have k2 : ¬ ((Sum.inr "default" : Key) = (Sum.inr "name" : Key)) := by decide +kernel
  have k3 : ¬ ((Sum.inr "number" : Key) = (Sum.inr "name" : Key)) := by decide +kernel
  have k4 : ¬ ((Sum.inr "default" : Key) = (Sum.inr "greatest" : Key)) := by decide +kernel
  have k5 : ¬ ((Sum.inr "number" : Key) = (Sum.inr "greatest" : Key)) := by decide +kernel
  have k6 : ¬ ((Sum.inr "number" : Key) = (Sum.inr "default" : Key)) := by decide +kernel
  have g1 : ¬ (("greatest" : Str) = "name") := by decide +kernel
  have g2 : ¬ (("default" : Str) = "name") := by decide +kernel
  have g3 : ¬ (("default" : Str) = "greatest") := by decide +kernel
  have g4 : ¬ (("number" : Str) = "name") := by decide +kernel
  have g5 : ¬ (("number" : Str) = "greatest") := by decide +kernel
  have g6 : ¬ (("number" : Str) = "default") := by decide +kernel
  have e := f.eq
  rcases f.part_ with rfl | rfl | rfl | rfl
  · rw [if_pos rfl] at e
    cases e
    simp [put, putK, valV, h1, h2, h3, h4, h5, h6, k1, k2, k3, k4, k5, k6]
  · rw [if_neg g1, if_pos rfl] at e
    cases e
    simp [put, putK, valV, h1, h2, h3, h4, h5, h6, k1, k2, k3, k4, k5, k6]
  · rw [if_neg g2, if_neg g3, if_pos rfl] at e
    cases e
    simp [put, putK, valV, h1, h2, h3, h4, h5, h6, k1, k2, k3, k4, k5, k6]
  · rw [if_neg g4, if_neg g5, if_neg g6] at e
    cases e
    simp [put, putK, valV, h1, h2, h3, h4, h5, h6, k1, k2, k3, k4, k5, k6]
/-- Column(name, greatest, default, number=..) -/
theorem kbinds_Col (T : Tx K mg) {fd : FuncData} (F : FunD K "__init__" "Column.__init__" (defArgs s_Column___init__) (defBody s_Column___init__) (defScope s_Column___init__) (d_Column___init__.dvs K) (d_Column___init__.kws K) (He.ma K (He.ga K "Column") "__init__") fd) :
    ∃ its mv : List Value, KBn K fd ["self", "name", "greatest", "default", "number"] 4 ["number"] (fun us ws => us ++ ws) (fun vs zs => vs ++ zs) := by
  have h := F.kbinds (ps := ["self", "name", "greatest", "default", "number"]) 4 ["number"] [] (fun us its mv ws => us ++ ws) (by intro z; cases z) (by intro z; cases z) (by intro q hq; cases hq) (fun r1 _ _ r4 => r1.append r4) (fun TT D doc pm an cdv ct us its mv ws h1 h2 h3 h4 => ?_)
  · exact h
  · match us, h1, its, h2, mv, h3, ws, h4 with
    | [u0, u1, u2, u3], _, [i0], _, [], _, [w0], _ => exact ⟨_, rfl, rfl⟩
def sp_changed (K : PySem.W.Frag) : Sp := fun vs H Q _ => ∃ (c : Addr) (part n n' : Str) (g k g' k' : Int) (d d' v : V), vs = [.ref c, .str part, v] ∧ ColAt K H c n g d k ∧ Four part v (.str n) (.int g) d (.int k) (.str n') (.int g') d' (.int k') ∧
  isNm (.str n') = true ∧ isGr (.int g') = true ∧ isIn g' d' = true ∧ 0 ≤ k' ∧ ∀ (a : Addr) (H' : Hp), H a = none → Same H H' → ColAt K H' a n' g' d' k' → Q (.ref a) H'
theorem ok_changed (T : Tx K mg) : ∃ fd, FnOk P w K mg base CX0 6 (He.ma K (He.ga K "Column") "changed") fd ["self", "part", "value"] (sp_changed K) ∧ Binds K fd ["self", "part", "value"] [] := by
  obtain ⟨fdI, GI, FI⟩ := ok_Col_init (P := P) (w := w) (base := base) T
  obtain ⟨_, _, kb⟩ := kbinds_Col T FI
  obtain ⟨fd, F⟩ := fd_Column_changed T
  have cl := cl_Column T
  refine ⟨fd, F.ok (CX := CX0) sc_Column_changed (fun vs H Q E h => ?_) (fun cdv A outer s H vs Q E hr h => ?_), F.bindsN fun _ _ _ _ _ _ us hl => match us, hl with | [_, _, _], _ => rfl⟩
  · obtain ⟨c, part, n, n', g, k, g', k', d, d', v, rfl, _⟩ := h
    rfl
  suffices hh : ∃ t, PSs (cxOf CX0 P w K mg base ["self", "part", "value", "parts"] "Column.changed" (defScope s_Column_changed) (He.ma K (He.ga K "Column") "changed") cdv A outer s H E).nox (defBody s_Column_changed) t ∧
      t { nx := fun _ H' => Q .non H', rt := Q } (start ["self", "part", "value", "parts"] vs) H by
    obtain ⟨t, h1, h2⟩ := hh
    exact ⟨t, h1.nox, h2⟩
  obtain ⟨c, part, n, n', g, k, g', k', d, d', v, rfl, ⟨dx, hc⟩, f4, hn, hg, hd, hk, kk⟩ := h
  have nd := sc_Column_changed.nd
  have hu := hu_of hr
  have CW := (ok_is_word (P := P) (w := w) (base := base) T).up (show 1 ≤ 5 by decide)
  refine ⟨_, pss_cons (ps_if (pt_not (pt_val (pcall CW hr (pa_cons (pv 1) (pa_cons (pe_glob (v := .ref (He.ga K "PARTS")) (by rfl) (mg_PARTS T) rfl) pa_nil))))) (pss_one ps_never) pss_nil)
    (pss_cons (ps_set (i := 3) nd rfl (Or.inl rfl) (pe_disp (pps_cons pe_str (pe_fld (pv 0) rfl) (pps_cons pe_str (pe_fld (pv 0) rfl) (pps_cons pe_str (pe_fld (pv 0) rfl) (pps_cons pe_str (pe_fld (pv 0) rfl) pps_nil)))) (by rfl) (by rfl) (fun z => by cases z) (by decide)))
    (pss_cons (ps_dput hu (pv 3) (pv 1) (pv 2) rfl)
    (pss_one (ps_ret (pe_makeK (mk_Column T) GI hr (by rfl) (mg_Column T) kb pass0 (pa_cons (pe_dget hu (pv 3) pe_str (fun _ _ => rfl)) (pa_cons (pe_dget hu (pv 3) pe_str (fun _ _ => rfl)) (pa_cons (pe_dget hu (pv 3) pe_str (fun _ _ => rfl)) pa_nil)))
      (pk_cons (pe_dget hu (pv 3) pe_str (fun _ _ => rfl)) pk_nil)))))), ?_⟩
  have hP : SqT K H (He.ga K "PARTS") [.str "name", .str "greatest", .str "default", .str "number"] := He.tupB_ok (ex_PARTS T) H
  have hin : wordV (.str part) [.str "name", .str "greatest", .str "default", .str "number"] = true := by
    rcases f4.part_ with rfl | rfl | rfl | rfl <;> decide +kernel
  refine ⟨_, rfl, .str part, _, _, _, rfl, .base (.str part), hP, rfl, _, rfl, ?_⟩
  rw [hin]
  refine iteF (nxt ?_)
  refine fun p np => ?_
  have hc1 : ∀ o, upd H p o c = some (.ins (He.ga K "Column") dx (colFs n g d k)) := fun o => same_new np _ _ hc
  refine ⟨_, rfl, c, _, dx, _, _, rfl, hc1 _, cl, na_Column_name T, colFs_name, _, rfl, c, _, dx, _, _, rfl, hc1 _, cl, na_Column_greatest T, colFs_greatest, _, rfl, c, _, dx, _, _, rfl, hc1 _, cl, na_Column_default T, colFs_default,
    _, rfl, c, _, dx, _, _, rfl, hc1 _, cl, na_Column_number T, colFs_number, upd_same, [(Sum.inr "name", .str n), (Sum.inr "greatest", .int g), (Sum.inr "default", d), (Sum.inr "number", .int k)], rfl, (by show 4 ≤ 15; decide), ?_⟩
  rw [upd_upd, merge4]
  refine ⟨_, rfl, _, rfl, _, rfl, p, _, rfl, DPut.k (k := Sum.inr part) upd_same (by show 4 < sizeLine; decide), ?_⟩
  rw [upd_upd]
  obtain ⟨q1, q2, q3, q4⟩ := put_get f4
  have hp : upd H p (.dK (put part v (.str n) (.int g) d (.int k))) p = some (.dK (put part v (.str n) (.int g) d (.int k))) := upd_same
  have s1 : Same H (upd H p (.dK (put part v (.str n) (.int g) d (.int k)))) := same_new np
  have g1 : DGet (upd H p (.dK (put part v (.str n) (.int g) d (.int k)))) p (.str "name") (some (.str n')) := by
    rw [← q1]
    exact DGet.k (k := Sum.inr "name") hp
  have g2 : DGet (upd H p (.dK (put part v (.str n) (.int g) d (.int k)))) p (.str "greatest") (some (.int g')) := by
    rw [← q2]
    exact DGet.k (k := Sum.inr "greatest") hp
  have g3 : DGet (upd H p (.dK (put part v (.str n) (.int g) d (.int k)))) p (.str "default") (some d') := by
    rw [← q3]
    exact DGet.k (k := Sum.inr "default") hp
  have g4 : DGet (upd H p (.dK (put part v (.str n) (.int g) d (.int k)))) p (.str "number") (some (.int k')) := by
    rw [← q4]
    exact DGet.k (k := Sum.inr "number") hp
  refine ⟨_, rfl, p, _, rfl, g1, _, rfl, p, _, rfl, g2, _, rfl, p, _, rfl, g3, _, rfl, p, _, rfl, g4, rfl, rfl, fun x dx2 nx ndx ndc => ?_⟩
  refine ⟨x, dx2, n', g', k', d', rfl, upd_same, hn, hg, hd, hk, fun H4 hc4 k4 => ⟨rfl, ?_⟩⟩
  exact kk x H4 (s1.free nx) (fun b o e => k4 b o (ne_of_none (s1 _ _ e) nx) (by rw [upd_ne (ne_of_none (s1 _ _ e) nx), upd_ne (ne_of_none (s1 _ _ e) ndx)]; exact s1 _ _ e)) hc4
/-! column_named; the columns of a list, as data -/
structure Col where
  name : Str
  top : Int
  dflt : V
  num : Int
/-- the columns at the addresses as -/
inductive Cols (K : PySem.W.Frag) (H : Hp) : List Addr → List Col → Prop
  | nil : Cols K H [] []
  | cons {a : Addr} {as : List Addr} {c : Col} {cs : List Col} : ColAt K H a c.name c.top c.dflt c.num → Cols K H as cs → Cols K H (a :: as) (c :: cs)
theorem ColAt.keep {K : PySem.W.Frag} {H H' : Hp} {a : Addr} {n : Str} {g k : Int} {d : V} (s : Same H H') (h : ColAt K H a n g d k) : ColAt K H' a n g d k := h.imp fun _ e => s _ _ e
theorem Cols.keep {K : PySem.W.Frag} {H H' : Hp} (s : Same H H') : ∀ {as : List Addr} {cs : List Col}, Cols K H as cs → Cols K H' as cs
  | _, _, .nil => .nil
  | _, _, .cons h t => .cons (h.keep s) (t.keep s)
theorem Cols.len {K : PySem.W.Frag} {H : Hp} : ∀ {as : List Addr} {cs : List Col}, Cols K H as cs → as.length = cs.length
  | _, _, .nil => rfl
  | _, _, .cons _ t => congrArg Nat.succ t.len
theorem Cols.at_ {K : PySem.W.Frag} {H : Hp} : ∀ {as : List Addr} {cs : List Col} {i : Nat} {a : Addr}, Cols K H as cs → as[i]? = some a → ∃ c, cs[i]? = some c ∧ ColAt K H a c.name c.top c.dflt c.num
  | _, _, _, _, .nil, e => by simp at e
  | _, _, 0, _, .cons h t, e => by
    simp at e
    subst e
    exact ⟨_, rfl, h⟩
  | _, _, i + 1, a, .cons h t, e => by
    obtain ⟨c, h1, h2⟩ := Cols.at_ (i := i) (a := a) t (by simpa using e)
    exact ⟨c, by simpa using h1, h2⟩
def isN (n : Str) (c : Col) : Bool := decide (c.name = n)
/-- what column_named gives: None, or the first of its name -/
def Named (as : List Addr) (cs : List Col) (n : Str) (v : V) : Prop := (v = .non ∧ cs.find? (isN n) = none) ∨ ∃ (i : Nat) (a : Addr) (c : Col), v = .ref a ∧ as[i]? = some a ∧ cs[i]? = some c ∧ cs.find? (isN n) = some c
def sp_column_named (K : PySem.W.Frag) : Sp := fun vs H Q _ => ∃ (l : Addr) (as : List Addr) (cs : List Col) (n : Str), vs = [.ref l, .str n] ∧ (SqL K H l (as.map V.ref) ∨ SqT K H l (as.map V.ref)) ∧ Cols K H as cs ∧ ∀ v, Named as cs n v → Q v H
theorem find_pre {cs : List Col} {i : Nat} {c : Col} {n : Str} (h : cs[i]? = some c) (hp : (cs.take i).find? (isN n) = none) : (cs.take (i + 1)).find? (isN n) = if isN n c = true then some c else none := by
  rw [List.take_add_one, h, List.find?_append, hp]
  show (Option.none).or _ = _
  rw [Option.none_or]
  show (match isN n c with | true => some c | false => none) = _
  cases isN n c <;> rfl
theorem find_take {cs : List Col} {i : Nat} {c : Col} {n : Str} (h : cs[i]? = some c) (hp : (cs.take i).find? (isN n) = none) (hc : isN n c = true) : cs.find? (isN n) = some c := by
  have e : cs = cs.take (i + 1) ++ cs.drop (i + 1) := (List.take_append_drop _ _).symm
  rw [e, List.find?_append, find_pre h hp, if_pos hc]
  rfl
theorem ok_column_named (T : Tx K mg) : Callee P w K mg base CX0 1 "column_named" ["columns", "name"] [] (sp_column_named K) := by
  refine mkCallee (fd_column_named T) (mg_column_named T) sc_column_named (fun _ _ _ _ _ _ us hl => match us, hl with | [_, _], _ => rfl) (fun vs H Q E h => ?_) (fun cdv A outer s H vs Q E hr h => ?_)
  · obtain ⟨l, as, cs, n, rfl, _⟩ := h
    rfl
  · obtain ⟨l, as, cs, n, rfl, hl, hc, k⟩ := h
    have nd := sc_column_named.nd
    have turn : ∀ (i : Nat) (x : V) (y : Option V), (as.map V.ref)[i]? = some x → (cs.take i).find? (isN n) = none → ∃ (a : Addr) (c : Col) (dx : Addr), x = .ref a ∧ as[i]? = some a ∧ cs[i]? = some c ∧ H a = some (.ins (He.ga K "Column") dx (colFs c.name c.top c.dflt c.num)) := fun i x y hx hp => by
      rw [List.getElem?_map] at hx
      cases ha : as[i]? with
      | none =>
        rw [ha] at hx
        cases hx
      | some a =>
        rw [ha] at hx
        obtain ⟨c, h1, dx, h2⟩ := hc.at_ ha
        exact ⟨a, c, dx, (Option.some.inj hx).symm, rfl, h1, h2⟩
    have fin : (cs.take as.length).find? (isN n) = none → Q .non H := fun h => by
      rw [hc.len, List.take_length] at h
      exact k _ (.inl ⟨rfl, h⟩)
    rcases hl with hl | hl
    · refine ⟨_, pss_cons (ps_if (pt_not (pt_val (pe_callB call_isi (by rfl) (fr_isinstance T) (by decide +kernel) (pa_cons (pv 1) (pa_cons (pe_bltn (v := .ty "str") (by rfl) (fr_str T) (by decide +kernel) rfl) pa_nil))))) (pss_one (ps_ret pe_non)) pss_nil)
        (pss_cons (ps_for PassesOwn.never rfl (pi_list (pv 0)) (pg_name (i := 2) nd rfl (Or.inl rfl)) (pss_one (ps_if (pt_cmpR op_eq (pe_fld (pv 2) rfl) (pv 1) (nomark _)) (pss_one (ps_ret (pv 2))) pss_nil))) (pss_one (ps_ret pe_non))), ?_⟩
      refine ⟨_, rfl, .str n, .ty "str", _, _, true, rfl, .ty "str", .base (.str n), kit_ty (by decide +kernel), _, rfl, iteF ⟨_, rfl, l, rfl, ⟨_, hl⟩, ?_⟩⟩
      refine for_list (xs := as.map V.ref) (fun i σ H' => H' = H ∧ (cs.take i).find? (isN n) = none ∧ ∃ y, σ = [some (.ref l), some (.str n), y]) ⟨rfl, rfl, _, rfl⟩ (fun i σ H' _ h => by rw [h.1]; exact hl) ?_ ?_
      · rintro i x σ H' hx ⟨rfl, hp, y, rfl⟩
        obtain ⟨a, c, dx, rfl, ha, hci, hat⟩ := turn i x y hx hp
        refine ⟨_, rfl, a, _, dx, _, _, rfl, hat, cl_Column T, na_Column_name T, colFs_name, _, rfl, rfl, _, rfl, ?_⟩
        by_cases e : c.name = n
        · rw [decide_eq_true (show V.str c.name = V.str n by rw [e])]
          exact iteT ⟨_, rfl, k _ (.inr ⟨i, a, c, rfl, ha, hci, find_take hci hp (decide_eq_true e)⟩)⟩
        · rw [decide_eq_false (fun z => e (V.str.inj z))]
          exact iteF ⟨rfl, by rw [find_pre hci hp, if_neg (by rw [show isN n c = false from decide_eq_false e]; decide)], _, rfl⟩
      · rintro σ H' ⟨rfl, hp, y, rfl⟩
        rw [List.length_map] at hp
        exact fin hp
    · refine ⟨_, pss_cons (ps_if (pt_not (pt_val (pe_callB call_isi (by rfl) (fr_isinstance T) (by decide +kernel) (pa_cons (pv 1) (pa_cons (pe_bltn (v := .ty "str") (by rfl) (fr_str T) (by decide +kernel) rfl) pa_nil))))) (pss_one (ps_ret pe_non)) pss_nil)
        (pss_cons (ps_for PassesOwn.never rfl (pi_tup (pv 0)) (pg_name (i := 2) nd rfl (Or.inl rfl)) (pss_one (ps_if (pt_cmpR op_eq (pe_fld (pv 2) rfl) (pv 1) (nomark _)) (pss_one (ps_ret (pv 2))) pss_nil))) (pss_one (ps_ret pe_non))), ?_⟩
      refine ⟨_, rfl, .str n, .ty "str", _, _, true, rfl, .ty "str", .base (.str n), kit_ty (by decide +kernel), _, rfl, iteF ⟨_, rfl, l, rfl, ⟨_, hl⟩, ?_⟩⟩
      refine for_tup (xs := as.map V.ref) (fun i σ H' => H' = H ∧ (cs.take i).find? (isN n) = none ∧ ∃ y, σ = [some (.ref l), some (.str n), y]) ⟨rfl, rfl, _, rfl⟩ (fun i σ H' _ h => by rw [h.1]; exact hl) ?_ ?_
      · rintro i x σ H' hx ⟨rfl, hp, y, rfl⟩
        obtain ⟨a, c, dx, rfl, ha, hci, hat⟩ := turn i x y hx hp
        refine ⟨_, rfl, a, _, dx, _, _, rfl, hat, cl_Column T, na_Column_name T, colFs_name, _, rfl, rfl, _, rfl, ?_⟩
        by_cases e : c.name = n
        · rw [decide_eq_true (show V.str c.name = V.str n by rw [e])]
          exact iteT ⟨_, rfl, k _ (.inr ⟨i, a, c, rfl, ha, hci, find_take hci hp (decide_eq_true e)⟩)⟩
        · rw [decide_eq_false (fun z => e (V.str.inj z))]
          exact iteF ⟨rfl, by rw [find_pre hci hp, if_neg (by rw [show isN n c = false from decide_eq_false e]; decide)], _, rfl⟩
      · rintro σ H' ⟨rfl, hp, y, rfl⟩
        rw [List.length_map] at hp
        exact fin hp
/-! the changes as data -/
inductive Ch where
  | add (n : Str) (g : Int) (d : V)
  | drop (n : Str)
  | rename (n m : Str)
  | dflt (n : Str) (v : V)
  | great (n : Str) (g : Int) (way : Str)
  | fill (n : Str) (i : Int)
def Ch.toV : Ch → List V
  | .add n g d => [.str "add", .str n, .int g, d]
  | .drop n => [.str "drop", .str n]
  | .rename n m => [.str "rename", .str n, .str m]
  | .dflt n v => [.str "default", .str n, v]
  | .great n g way => [.str "greatest", .str n, .int g, .str way]
  | .fill n i => [.str "fill", .str n, .int i]
def isWy (z : Str) : Bool := decide (z = "cut") || (decide (z = "none") || decide (z = "refuse"))
/-- a change by its form -/
def Ch.fits : Ch → Bool
  | .add n g d => isNm (.str n) && (isGr (.int g) && isVal d)
  | .drop n => isNm (.str n)
  | .rename n m => isNm (.str n) && isNm (.str m)
  | .dflt n v => isNm (.str n) && isVal v
  | .great n g way => isNm (.str n) && (isGr (.int g) && isWy way)
  | .fill n i => isNm (.str n) && decide (0 ≤ i)
def Ch.name : Ch → Str
  | .add n _ _ => n
  | .drop n => n
  | .rename n _ => n
  | .dflt n _ => n
  | .great n _ _ => n
  | .fill n _ => n
def Ch.kind : Ch → Str
  | .add _ _ _ => "add"
  | .drop _ => "drop"
  | .rename _ _ => "rename"
  | .dflt _ _ => "default"
  | .great _ _ _ => "greatest"
  | .fill _ _ => "fill"
theorem Ch.at0 (c : Ch) : atI c.toV 0 = some (.str c.kind) := by cases c <;> rfl
theorem Ch.at1 (c : Ch) : atI c.toV 1 = some (.str c.name) := by cases c <;> rfl
/-! is_way -/
def sp_is_way : Sp := fun vs H Q _ => ∃ z : Str, vs = [.str z] ∧ isWy z = true ∧ Q (.bl true) H
theorem ok_is_way (T : Tx K mg) : Callee P w K mg base CX0 2 "is_way" ["value"] [] sp_is_way := by
  have C1 := ok_is_word (P := P) (w := w) (base := base) T
  refine mkCallee (fd_is_way T) (mg_is_way T) sc_is_way (fun _ _ _ _ _ _ us hl => match us, hl with | [_], _ => rfl) (fun vs H Q E h => ?_) (fun cdv A outer s H vs Q E hr h => ?_)
  · obtain ⟨z, rfl, _⟩ := h
    rfl
  · obtain ⟨z, rfl, hz, k⟩ := h
    refine ⟨_, pss_one (ps_ret (pcall C1 hr (pa_cons (pv 0) (pa_cons (pe_glob (v := .ref (He.ga K "WAYS")) (by rfl) (mg_WAYS T) rfl) pa_nil)))), ?_⟩
    have hw : SqT K H (He.ga K "WAYS") [.str "cut", .str "none", .str "refuse"] := He.tupB_ok (ex_WAYS T) H
    refine ⟨_, rfl, .str z, _, _, _, rfl, .base (.str z), hw, rfl, ?_⟩
    have e : wordV (.str z) [.str "cut", .str "none", .str "refuse"] = true := by
      have h' : (decide (z = "cut") || (decide (z = "none") || decide (z = "refuse"))) = true := hz
      show (("cut" : Str) == z || (("none" : Str) == z || (("refuse" : Str) == z || false))) = true
      rw [Bool.or_eq_true, Bool.or_eq_true, decide_eq_true_iff, decide_eq_true_iff, decide_eq_true_iff] at h'
      rcases h' with rfl | rfl | rfl <;> simp
    rw [e]
    exact k
/-! is_single_part, at what fits -/
def sp_is_single_part : Sp := fun vs H Q _ => ∃ (kd : Str) (x : V), vs = [.str kd, x] ∧ ((kd = "rename" ∧ isNm x = true) ∨ (kd = "default" ∧ isVal x = true) ∨ (kd = "fill" ∧ ∃ i, x = .int i ∧ 0 ≤ i)) ∧ ∀ H', Same H H' → Q (.bl true) H'
theorem ok_is_single_part (T : Tx K mg) : Callee P w K mg base CX0 3 "is_single_part" ["kind", "part"] [] sp_is_single_part := by
  have C1 := (ok_is_name (P := P) (w := w) (base := base) T).up (show 1 ≤ 2 by decide)
  have C2 := ok_is_value (P := P) (w := w) (base := base) T
  have C3 := (ok_is_whole (P := P) (w := w) (base := base) T).up (show 1 ≤ 2 by decide)
  refine mkCallee (fd_is_single_part T) (mg_is_single_part T) sc_is_single_part (fun _ _ _ _ _ _ us hl => match us, hl with | [_, _], _ => rfl) (fun vs H Q E h => ?_) (fun cdv A outer s H vs Q E hr h => ?_)
  · obtain ⟨kd, x, rfl, _⟩ := h
    rfl
  · obtain ⟨kd, x, rfl, hx, k⟩ := h
    refine ⟨_, pss_cons (ps_if (pt_cmpR op_eq (pv 0) pe_str (nomark _)) (pss_one (ps_ret (pcall C1 hr (pa_cons (pv 1) pa_nil)))) pss_nil)
      (pss_cons (ps_if (pt_cmpR op_eq (pv 0) pe_str (nomark _)) (pss_one (ps_ret (pcall C2 hr (pa_cons (pv 1) pa_nil)))) pss_nil)
      (pss_one (ps_ret (pe_and (pcall C3 hr (pa_cons (pv 1) pa_nil)) (pe_one (pe_cmpR op_ge (pv 1) pe_int (nomark _))))))), ?_⟩
    refine ⟨_, rfl, rfl, _, rfl, ?_⟩
    rcases hx with ⟨rfl, hx⟩ | ⟨rfl, hx⟩ | ⟨rfl, i, rfl, hi⟩
    · rw [decide_eq_true rfl]
      cases x with
      | str z => exact iteT ⟨_, rfl, .str z, _, rfl, .base (.str z), fun m e => by cases e; exact nm_len hx, fun H' s' => by rw [hx]; exact k H' s'⟩
      | _ => cases hx
    · rw [decide_eq_false (by decide +kernel)]
      refine iteF ⟨_, rfl, rfl, _, rfl, ?_⟩
      rw [decide_eq_true rfl]
      cases x with
      | non => exact iteT ⟨_, rfl, .non, _, rfl, .base .non, k H (Same.refl _)⟩
      | int i => exact iteT ⟨_, rfl, .int i, _, rfl, .base (.int i), by rw [hx]; exact k H (Same.refl _)⟩
      | _ => cases hx
    · rw [decide_eq_false (by decide +kernel)]
      refine iteF ⟨_, rfl, rfl, _, rfl, ?_⟩
      rw [decide_eq_false (by decide +kernel)]
      refine iteF ⟨_, rfl, .int i, _, rfl, .base (.int i), _, rfl, iteT ⟨_, rfl, _, _, rfl, rfl, ?_⟩⟩
      show Q (.bl (decide (0 ≤ i))) H
      rw [decide_eq_true hi]
      exact k H (Same.refl _)
/-! has_parts, at what fits: the parts behind the first name -/
def sp_has_parts (K : PySem.W.Frag) : Sp := fun vs H Q _ => ∃ (t : Addr) (c : Ch), vs = [.str c.kind, .ref t] ∧ SqT K H t (c.toV.drop 2) ∧ c.fits = true ∧ ∀ H', Same H H' → Q (.bl true) H'
theorem ok_has_parts (T : Tx K mg) : Callee P w K mg base CX0 4 "has_parts" ["kind", "parts"] [] (sp_has_parts K) := by
  have C1 := ok_is_single_part (P := P) (w := w) (base := base) T
  have C2 := (ok_is_greatest (P := P) (w := w) (base := base) T).up (show 2 ≤ 3 by decide)
  have C3 := (ok_is_value (P := P) (w := w) (base := base) T).up (show 2 ≤ 3 by decide)
  have C4 := (ok_is_way (P := P) (w := w) (base := base) T).up (show 2 ≤ 3 by decide)
  refine mkCallee (fd_has_parts T) (mg_has_parts T) sc_has_parts (fun _ _ _ _ _ _ us hl => match us, hl with | [_, _], _ => rfl) (fun vs H Q E h => ?_) (fun cdv A outer s H vs Q E hr h => ?_)
  · obtain ⟨t, c, rfl, _⟩ := h
    rfl
  · obtain ⟨t, c, rfl, ht, hf, k⟩ := h
    have gl : mg "len" = none := fr_len T
    refine ⟨_, pss_cons (ps_if (pt_cmpR op_eq (pv 0) pe_str (nomark _)) (pss_one (ps_ret (pe_cmpR op_eq (pe_callB call_len (by rfl) gl PySem.boot_len (pa_cons (pv 1) pa_nil)) pe_int (nomark _)))) pss_nil)
      (pss_cons (ps_if (pt_cmpR op_in_seq (pv 0) (pe_tup (pa_cons pe_str (pa_cons pe_str (pa_cons pe_str pa_nil)))) (by rfl)) (pss_one (ps_ret (pe_and (pe_cmpR op_eq (pe_callB call_len (by rfl) gl PySem.boot_len (pa_cons (pv 1) pa_nil)) pe_int (nomark _))
          (pe_one (pcall C1 hr (pa_cons (pv 0) (pa_cons (pe_ix ix_tup (pv 1) pe_int (fun _ _ => rfl)) pa_nil))))))) pss_nil)
      (pss_cons (ps_if (pt_cmpR op_eq (pv 0) pe_str (nomark _)) (pss_one (ps_ret (pe_and (pe_cmpR op_eq (pe_callB call_len (by rfl) gl PySem.boot_len (pa_cons (pv 1) pa_nil)) pe_int (nomark _))
          (pe_and (pcall C2 hr (pa_cons (pe_ix ix_tup (pv 1) pe_int (fun _ _ => rfl)) pa_nil)) (pe_one (pcall C3 hr (pa_cons (pe_ix ix_tup (pv 1) pe_int (fun _ _ => rfl)) pa_nil))))))) pss_nil)
      (pss_cons (ps_if (pt_cmpR op_eq (pv 0) pe_str (nomark _)) (pss_one (ps_ret (pe_and (pe_cmpR op_eq (pe_callB call_len (by rfl) gl PySem.boot_len (pa_cons (pv 1) pa_nil)) pe_int (nomark _))
          (pe_and (pcall C2 hr (pa_cons (pe_ix ix_tup (pv 1) pe_int (fun _ _ => rfl)) pa_nil)) (pe_one (pcall C4 hr (pa_cons (pe_ix ix_tup (pv 1) pe_int (fun _ _ => rfl)) pa_nil))))))) pss_nil)
      (pss_one (ps_ret pe_bl))))), ?_⟩
    cases c with
    | drop n =>
      refine ⟨_, rfl, rfl, _, rfl, iteT ⟨_, rfl, _, 0, rfl, .inr ⟨_, ht, rfl⟩, rfl, ?_⟩⟩
      exact k H (Same.refl _)
    | rename n m =>
      have hf' : (isNm (.str n) && isNm (.str m)) = true := hf
      rw [Bool.and_eq_true] at hf'
      refine ⟨_, rfl, rfl, _, rfl, ?_⟩
      refine iteD (nes (show ("rename" : Str) ≠ "drop" by decide +kernel)) ⟨_, rfl, (by show 3 ≤ sizeLine; decide), fun t2 nt2 => ⟨t2, _, rfl, .inr (sqT_of upd_same), rfl, rfl, _, rfl, iteT ?_⟩⟩
      have s2 := same_new (o := .tup [V.str "rename", .str "default", .str "fill"]) nt2
      refine ⟨_, rfl, _, 1, rfl, .inr ⟨_, same_tup s2 ht, rfl⟩, rfl, _, rfl, iteT ⟨_, rfl, _, rfl, t, _, 0, _, rfl, rfl, same_tup s2 ht, rfl, _, _, rfl, .inl ⟨rfl, hf'.2⟩, fun H' s' => k H' (s2.trans s')⟩⟩
    | dflt n v =>
      have hf' : (isNm (.str n) && isVal v) = true := hf
      rw [Bool.and_eq_true] at hf'
      refine ⟨_, rfl, rfl, _, rfl, ?_⟩
      refine iteD (nes (show ("default" : Str) ≠ "drop" by decide +kernel)) ⟨_, rfl, (by show 3 ≤ sizeLine; decide), fun t2 nt2 => ⟨t2, _, rfl, .inr (sqT_of upd_same), rfl, rfl, _, rfl, iteT ?_⟩⟩
      have s2 := same_new (o := .tup [V.str "rename", .str "default", .str "fill"]) nt2
      refine ⟨_, rfl, _, 1, rfl, .inr ⟨_, same_tup s2 ht, rfl⟩, rfl, _, rfl, iteT ⟨_, rfl, _, rfl, t, _, 0, _, rfl, rfl, same_tup s2 ht, rfl, _, _, rfl, .inr (.inl ⟨rfl, hf'.2⟩), fun H' s' => k H' (s2.trans s')⟩⟩
    | fill n i =>
      have hf' : (isNm (.str n) && decide (0 ≤ i)) = true := hf
      rw [Bool.and_eq_true] at hf'
      refine ⟨_, rfl, rfl, _, rfl, ?_⟩
      refine iteD (nes (show ("fill" : Str) ≠ "drop" by decide +kernel)) ⟨_, rfl, (by show 3 ≤ sizeLine; decide), fun t2 nt2 => ⟨t2, _, rfl, .inr (sqT_of upd_same), rfl, rfl, _, rfl, iteT ?_⟩⟩
      have s2 := same_new (o := .tup [V.str "rename", .str "default", .str "fill"]) nt2
      refine ⟨_, rfl, _, 1, rfl, .inr ⟨_, same_tup s2 ht, rfl⟩, rfl, _, rfl, iteT ⟨_, rfl, _, rfl, t, _, 0, _, rfl, rfl, same_tup s2 ht, rfl, _, _, rfl, .inr (.inr ⟨rfl, i, rfl, of_decide_eq_true hf'.2⟩), fun H' s' => k H' (s2.trans s')⟩⟩
    | add n g d =>
      have hf' : (isNm (.str n) && (isGr (.int g) && isVal d)) = true := hf
      rw [Bool.and_eq_true, Bool.and_eq_true] at hf'
      refine ⟨_, rfl, rfl, _, rfl, ?_⟩
      refine iteD (nes (show ("add" : Str) ≠ "drop" by decide +kernel)) ⟨_, rfl, (by show 3 ≤ sizeLine; decide), fun t2 nt2 => ⟨t2, _, rfl, .inr (sqT_of upd_same), rfl, rfl, _, rfl, iteF ?_⟩⟩
      have s2 := same_new (o := .tup [V.str "rename", .str "default", .str "fill"]) nt2
      refine ⟨_, rfl, rfl, _, rfl, iteT ⟨_, rfl, _, 2, rfl, .inr ⟨_, same_tup s2 ht, rfl⟩, rfl, _, rfl, iteT ⟨_, rfl, t, _, 0, _, rfl, rfl, same_tup s2 ht, rfl, .int g, _, rfl, .base (.int g), _, rfl, ?_⟩⟩⟩
      rw [hf'.2.1]
      have td : ∃ ty, TyX K (upd H t2 (.tup [V.str "rename", .str "default", .str "fill"])) d (.type ty) := by
        cases d with
        | non => exact ⟨_, .base .non⟩
        | int i => exact ⟨_, .base (.int i)⟩
        | _ => cases hf'.2.2
      obtain ⟨ty, td⟩ := td
      refine iteT ⟨_, rfl, t, _, 1, _, rfl, rfl, same_tup s2 ht, rfl, d, ty, rfl, td, ?_⟩
      rw [hf'.2.2]
      exact k _ s2
    | great n g way =>
      have hf' : (isNm (.str n) && (isGr (.int g) && isWy way)) = true := hf
      rw [Bool.and_eq_true, Bool.and_eq_true] at hf'
      refine ⟨_, rfl, rfl, _, rfl, ?_⟩
      refine iteD (nes (show ("greatest" : Str) ≠ "drop" by decide +kernel)) ⟨_, rfl, (by show 3 ≤ sizeLine; decide), fun t2 nt2 => ⟨t2, _, rfl, .inr (sqT_of upd_same), rfl, rfl, _, rfl, iteF ?_⟩⟩
      have s2 := same_new (o := .tup [V.str "rename", .str "default", .str "fill"]) nt2
      refine ⟨_, rfl, rfl, _, rfl, ?_⟩
      refine iteD (nes (show ("greatest" : Str) ≠ "add" by decide +kernel)) ⟨_, rfl, rfl, _, rfl, iteT ⟨_, rfl, _, 2, rfl, .inr ⟨_, same_tup s2 ht, rfl⟩, rfl, _, rfl, iteT ⟨_, rfl, t, _, 0, _, rfl, rfl, same_tup s2 ht, rfl, .int g, _, rfl, .base (.int g), _, rfl, ?_⟩⟩⟩
      rw [hf'.2.1]
      exact iteT ⟨_, rfl, t, _, 1, _, rfl, rfl, same_tup s2 ht, rfl, way, rfl, hf'.2.2, k _ s2⟩
/-! is_change, at what fits -/
/-- a change stands at t -/
def ChAt (K : PySem.W.Frag) (H : Hp) (t : Addr) (c : Ch) : Prop := SqT K H t c.toV
theorem ChAt.keep {K : PySem.W.Frag} {H H' : Hp} {t : Addr} {c : Ch} (s : Same H H') (h : ChAt K H t c) : ChAt K H' t c := same_tup s h
theorem Ch.nm {c : Ch} (h : c.fits = true) : isNm (.str c.name) = true := by
  cases c <;> first | exact h | exact (Bool.and_eq_true_iff.mp h).1
theorem Ch.len (c : Ch) : 2 ≤ c.toV.length := by cases c <;> simp [Ch.toV]
theorem sqT_tup {K : PySem.W.Frag} {H : Hp} {a : Addr} {xs : List V} (h : SqT K H a xs) : TyX K H (.ref a) (.type "tuple") := by
  rcases h with (h | ⟨o, h⟩) | ⟨o, its, n, h, hc, _⟩
  · exact .base (.tup h)
  · exact .fTuple h
  · exact .kTuple h hc
def sp_is_change (K : PySem.W.Frag) : Sp := fun vs H Q _ => ∃ (t : Addr) (c : Ch), vs = [.ref t] ∧ ChAt K H t c ∧ c.fits = true ∧ ∀ H', Same H H' → Q (.bl true) H'
theorem six2 {n : Nat} (h : 2 ≤ n) : HT.sIx n 0 (some 2) = 2 := by
  have e := HT.sIx_nat n 0 2
  have e2 : ((2 : Nat) : Int) = 2 := rfl
  rw [e2] at e
  rw [e]
  omega
theorem cut2 (c : Ch) : cutV c.toV (some 2) none = c.toV.drop 2 := by
  have h := c.len
  unfold cutV
  rw [six2 h, HT.sIx_none]
  exact List.take_of_length_le (by rw [List.length_drop]; exact Nat.le_refl _)
theorem ok_is_change (T : Tx K mg) : Callee P w K mg base CX0 5 "is_change" ["value"] [] (sp_is_change K) := by
  have C1 := (ok_is_name (P := P) (w := w) (base := base) T).up (show 1 ≤ 4 by decide)
  have C2 := ok_has_parts (P := P) (w := w) (base := base) T
  refine mkCallee (fd_is_change T) (mg_is_change T) sc_is_change (fun _ _ _ _ _ _ us hl => match us, hl with | [_], _ => rfl) (fun vs H Q E h => ?_) (fun cdv A outer s H vs Q E hr h => ?_)
  · obtain ⟨t, c, rfl, _⟩ := h
    rfl
  · obtain ⟨t, c, rfl, ht, hf, k⟩ := h
    refine ⟨_, pss_cons (ps_if (PW.pt (pw_or (pt_not (pt_val (pe_callB call_isi (by rfl) (fr_isinstance T) (by decide +kernel) (pa_cons (pv 0) (pa_cons (pe_bltn (v := .ty "tuple") (by rfl) (fr_tuple T) (by decide +kernel) rfl) pa_nil)))))
        (pw_or1 (pt_cmpR op_lt (pe_callB call_len (by rfl) (fr_len T) PySem.boot_len (pa_cons (pv 0) pa_nil)) pe_int (nomark _))))) (pss_one (ps_ret pe_bl)) pss_nil)
      (pss_one (ps_ret (pe_and (pe_callB call_isi (by rfl) (fr_isinstance T) (by decide +kernel) (pa_cons (pe_ix ix_tup (pv 0) pe_int (fun _ _ => rfl)) (pa_cons (pe_bltn (v := .ty "str") (by rfl) (fr_str T) (by decide +kernel) rfl) pa_nil)))
        (pe_and (pcall C1 hr (pa_cons (pe_ix ix_tup (pv 0) pe_int (fun _ _ => rfl)) pa_nil)) (pe_one (pcall C2 hr (pa_cons (pe_ix ix_tup (pv 0) pe_int (fun _ _ => rfl)) (pa_cons (pe_slice sl_tup (pv 0) (po_some pe_int) po_none) pa_nil)))))))), ?_⟩
    have hl := c.len
    refine ⟨_, rfl, .ref t, .ty "tuple", _, _, true, rfl, .ty "tuple", sqT_tup ht, kit_ty (by decide +kernel), _, rfl, iteF ⟨_, rfl, _, c.toV.length, rfl, .inr ⟨_, ht, rfl⟩, _, _, rfl, rfl, _, rfl, iteD (by omega) ?_⟩⟩
    refine ⟨_, rfl, t, _, 0, _, rfl, rfl, ht, c.at0, .str c.kind, .ty "str", _, _, true, rfl, .ty "str", .base (.str _), kit_ty (by decide +kernel), _, rfl, iteT ?_⟩
    have hn := Ch.nm hf
    refine ⟨_, rfl, t, _, 1, _, rfl, rfl, ht, c.at1, .str c.name, _, rfl, .base (.str _), fun n e => by cases e; exact nm_len hn, fun H1 s1 => ⟨_, rfl, ?_⟩⟩
    rw [hn]
    refine iteT ⟨_, rfl, t, _, 0, _, rfl, rfl, same_tup s1 ht, c.at0, _, rfl, 2, rfl, t, _, rfl, same_tup s1 ht, fun z => by rw [six2 hl] at z; exact absurd z.1 (by decide), fun p np => ?_⟩
    rw [cut2]
    exact ⟨p, c, rfl, sqT_of upd_same, hf, fun H' s' => k H' ((s1.trans (same_new np)).trans s')⟩
/-! value_above -/
/-- what a value above becomes -/
def abv (g : Int) (way : Str) : V := if way = "cut" then .int g else if way = "none" then .non else .str "missing"
def sp_value_above (K : PySem.W.Frag) : Sp := fun vs H Q _ => ∃ (t : Addr) (n way : Str) (g : Int), vs = [.ref t] ∧ ChAt K H t (.great n g way) ∧ Q (abv g way) H
theorem ok_value_above (T : Tx K mg) : Callee P w K mg base CX0 1 "value_above" ["change"] [] (sp_value_above K) := by
  refine mkCallee (fd_value_above T) (mg_value_above T) sc_value_above (fun _ _ _ _ _ _ us hl => match us, hl with | [_], _ => rfl) (fun vs H Q E h => ?_) (fun cdv A outer s H vs Q E hr h => ?_)
  · obtain ⟨t, n, way, g, rfl, _⟩ := h
    rfl
  · obtain ⟨t, n, way, g, rfl, ht, k⟩ := h
    obtain ⟨tk, gM⟩ := ms_MISSING T
    refine ⟨_, pss_cons (ps_if (pt_cmpR op_eq (pe_ix ix_tup (pv 0) pe_int (fun _ _ => rfl)) pe_str (nomark _)) (pss_one (ps_ret (pe_ix ix_tup (pv 0) pe_int (fun _ _ => rfl)))) pss_nil)
      (pss_cons (ps_if (pt_cmpR op_eq (pe_ix ix_tup (pv 0) pe_int (fun _ _ => rfl)) pe_str (nomark _)) (pss_one (ps_ret pe_non)) pss_nil) (pss_one (ps_ret (pe_glob (v := .str "missing") (by rfl) gM ⟨_, rfl⟩)))), ?_⟩
    have i3 : atI (Ch.great n g way).toV 3 = some (.str way) := rfl
    have i2 : atI (Ch.great n g way).toV 2 = some (.int g) := rfl
    refine ⟨_, rfl, t, _, 3, _, rfl, rfl, ht, i3, rfl, _, rfl, ?_⟩
    unfold abv at k
    by_cases h1 : way = "cut"
    · rw [if_pos h1] at k
      subst h1
      exact iteDT rfl ⟨_, rfl, t, _, 2, _, rfl, rfl, ht, i2, k⟩
    · rw [if_neg h1] at k
      refine iteD (nes h1) ⟨_, rfl, t, _, 3, _, rfl, rfl, ht, i3, rfl, _, rfl, ?_⟩
      by_cases h2 : way = "none"
      · rw [if_pos h2] at k
        subst h2
        exact iteDT rfl k
      · rw [if_neg h2] at k
        exact iteD (nes h2) k
/-! changed_value -/
/-- what a value of a column of this name becomes -/
def chgV (n : Str) (c : Ch) (v : V) : V := if c.name = n then (match c, v with
  | .fill _ i, .non => .int i
  | .great _ g way, .int j => if g < j then abv g way else .int j
  | _, v => v) else v
/-- None or an int -/
def valOk : V → Bool
  | .non => true
  | .int _ => true
  | _ => false
def sp_changed_value (K : PySem.W.Frag) : Sp := fun vs H Q _ => ∃ (a t : Addr) (n : Str) (g k : Int) (d v : V) (c : Ch), vs = [.ref a, .ref t, v] ∧ ColAt K H a n g d k ∧ ChAt K H t c ∧ valOk v = true ∧ Q (chgV n c v) H
theorem ok_changed_value (T : Tx K mg) : Callee P w K mg base CX0 2 "changed_value" ["column", "change", "value"] [] (sp_changed_value K) := by
  have C1 := ok_value_above (P := P) (w := w) (base := base) T
  refine mkCallee (fd_changed_value T) (mg_changed_value T) sc_changed_value (fun _ _ _ _ _ _ us hl => match us, hl with | [_, _, _], _ => rfl) (fun vs H Q E h => ?_) (fun cdv A outer s H vs Q E hr h => ?_)
  · obtain ⟨a, t, n, g, k, d, v, c, rfl, _⟩ := h
    rfl
  · obtain ⟨a, t, n, g, k, d, v, c, rfl, ⟨dx, ha⟩, ht, hv, kk⟩ := h
    refine ⟨_, pss_cons (ps_if (pt_cmpR op_ne (pe_ix ix_tup (pv 1) pe_int (fun _ _ => rfl)) (pe_fld (pv 0) rfl) (nomark _)) (pss_one (ps_ret (pv 2))) pss_nil)
      (pss_cons (ps_if (PW.pt (pw_and (pt_cmpR op_eq (pe_ix ix_tup (pv 1) pe_int (fun _ _ => rfl)) pe_str (nomark _)) (pw_and1 (pt_cmpR op_isN (pv 2) pe_non (nomark _))))) (pss_one (ps_ret (pe_ix ix_tup (pv 1) pe_int (fun _ _ => rfl)))) pss_nil)
      (pss_cons (ps_if (PW.pt (pw_and (pt_cmpR op_eq (pe_ix ix_tup (pv 1) pe_int (fun _ _ => rfl)) pe_str (nomark _)) (pw_and (pt_cmpR op_notN (pv 2) pe_non (nomark _)) (pw_and1 (pt_cmpR op_gt (pv 2) (pe_ix ix_tup (pv 1) pe_int (fun _ _ => rfl)) (nomark _))))))
        (pss_one (ps_ret (pcall C1 hr (pa_cons (pv 1) pa_nil)))) pss_nil)
      (pss_one (ps_ret (pv 2))))), ?_⟩
    refine ⟨_, rfl, t, _, 1, _, rfl, rfl, ht, c.at1, _, rfl, a, _, dx, _, _, rfl, ha, cl_Column T, na_Column_name T, colFs_name, rfl, _, rfl, ?_⟩
    unfold chgV at kk
    by_cases hn : c.name = n
    · rw [if_pos hn] at kk
      refine iteNS (by rw [hn]) ?_
      cases c with
      | add n2 g2 d2 =>
        refine ⟨_, rfl, t, _, 0, _, rfl, rfl, ht, rfl, rfl, _, rfl, iteD (nes (show ("add" : Str) ≠ "fill" by decide +kernel)) (iteF ?_)⟩
        exact ⟨_, rfl, t, _, 0, _, rfl, rfl, ht, rfl, rfl, _, rfl, iteD (nes (show ("add" : Str) ≠ "greatest" by decide +kernel)) (iteF ⟨_, rfl, kk⟩)⟩
      | drop n2 =>
        refine ⟨_, rfl, t, _, 0, _, rfl, rfl, ht, rfl, rfl, _, rfl, iteD (nes (show ("drop" : Str) ≠ "fill" by decide +kernel)) (iteF ?_)⟩
        exact ⟨_, rfl, t, _, 0, _, rfl, rfl, ht, rfl, rfl, _, rfl, iteD (nes (show ("drop" : Str) ≠ "greatest" by decide +kernel)) (iteF ⟨_, rfl, kk⟩)⟩
      | rename n2 m2 =>
        refine ⟨_, rfl, t, _, 0, _, rfl, rfl, ht, rfl, rfl, _, rfl, iteD (nes (show ("rename" : Str) ≠ "fill" by decide +kernel)) (iteF ?_)⟩
        exact ⟨_, rfl, t, _, 0, _, rfl, rfl, ht, rfl, rfl, _, rfl, iteD (nes (show ("rename" : Str) ≠ "greatest" by decide +kernel)) (iteF ⟨_, rfl, kk⟩)⟩
      | dflt n2 v2 =>
        refine ⟨_, rfl, t, _, 0, _, rfl, rfl, ht, rfl, rfl, _, rfl, iteD (nes (show ("default" : Str) ≠ "fill" by decide +kernel)) (iteF ?_)⟩
        exact ⟨_, rfl, t, _, 0, _, rfl, rfl, ht, rfl, rfl, _, rfl, iteD (nes (show ("default" : Str) ≠ "greatest" by decide +kernel)) (iteF ⟨_, rfl, kk⟩)⟩
      | fill n2 i =>
        refine ⟨_, rfl, t, _, 0, _, rfl, rfl, ht, rfl, rfl, _, rfl, iteDT rfl ⟨_, rfl, rfl, _, rfl, ?_⟩⟩
        cases v with
        | non => exact iteDT rfl ⟨_, rfl, t, _, 2, _, rfl, rfl, ht, rfl, kk⟩
        | int j =>
          refine iteD (by intro z; cases z) ?_
          exact ⟨_, rfl, t, _, 0, _, rfl, rfl, ht, rfl, rfl, _, rfl, iteD (nes (show ("fill" : Str) ≠ "greatest" by decide +kernel)) (iteF ⟨_, rfl, kk⟩)⟩
        | _ => cases hv
      | great n2 g2 way =>
        refine ⟨_, rfl, t, _, 0, _, rfl, rfl, ht, rfl, rfl, _, rfl, iteD (nes (show ("greatest" : Str) ≠ "fill" by decide +kernel)) (iteF ?_)⟩
        refine ⟨_, rfl, t, _, 0, _, rfl, rfl, ht, rfl, rfl, _, rfl, iteDT rfl ⟨_, rfl, rfl, _, rfl, ?_⟩⟩
        cases v with
        | non => exact iteNS rfl (iteF ⟨_, rfl, kk⟩)
        | int j =>
          refine iteNF (by intro z; cases z) ⟨_, rfl, _, rfl, t, _, 2, _, rfl, rfl, ht, rfl, _, _, rfl, rfl, _, rfl, ?_⟩
          by_cases hj : g2 < j
          · refine iteDT hj ⟨_, rfl, t, n2, way, g2, rfl, ht, ?_⟩
            have e : (if g2 < j then abv g2 way else V.int j) = abv g2 way := if_pos hj
            rw [← e]
            exact kk
          · refine iteD hj ⟨_, rfl, ?_⟩
            have e : (if g2 < j then abv g2 way else V.int j) = V.int j := if_neg hj
            rw [← e]
            exact kk
        | _ => cases hv
    · rw [if_neg hn] at kk
      exact iteNF (nes hn) ⟨_, rfl, kk⟩
/-! add_hindrance -/
def addHind (cs : List Col) (n : Str) (g : Int) (d : V) : V := if (cs.find? (isN n)).isSome = true then .str "alive" else if 6 ≤ cs.length then .str "many" else if isIn g d = true then .non else .str "above"
def sp_add_hindrance (K : PySem.W.Frag) : Sp := fun vs H Q _ => ∃ (l t : Addr) (as : List Addr) (cs : List Col) (x : V) (n : Str) (g : Int) (d : V), vs = [.ref l, x, .ref t] ∧ (SqL K H l (as.map V.ref) ∨ SqT K H l (as.map V.ref)) ∧ Cols K H as cs ∧ Named as cs n x ∧ ChAt K H t (.add n g d) ∧ isVal d = true ∧ Q (addHind cs n g d) H
theorem ok_add_hindrance (T : Tx K mg) : Callee P w K mg base CX0 4 "add_hindrance" ["columns", "namesake", "change"] [] (sp_add_hindrance K) := by
  have C1 := ok_is_within (P := P) (w := w) (base := base) T
  refine mkCallee (fd_add_hindrance T) (mg_add_hindrance T) sc_add_hindrance (fun _ _ _ _ _ _ us hl => match us, hl with | [_, _, _], _ => rfl) (fun vs H Q E h => ?_) (fun cdv A outer s H vs Q E hr h => ?_)
  · obtain ⟨l, t, as, cs, x, n, g, d, rfl, _⟩ := h
    rfl
  · obtain ⟨l, t, as, cs, x, n, g, d, rfl, hl, hc, hx, ht, hd, k⟩ := h
    obtain ⟨tk, gM⟩ := mi_MOST_COLUMNS T
    refine ⟨_, pss_cons (ps_if (pt_cmpR op_notN (pv 1) pe_non (nomark _)) (pss_one (ps_ret pe_str)) pss_nil)
      (pss_cons (ps_if (pt_cmpR op_ge (pe_callB call_len (by rfl) (fr_len T) PySem.boot_len (pa_cons (pv 0) pa_nil)) (pe_glob (v := .int 6) (by rfl) gM ⟨_, rfl⟩) (nomark _)) (pss_one (ps_ret pe_str)) pss_nil)
      (pss_cons (ps_if (pt_not (pt_val (pcall C1 hr (pa_cons (pe_ix ix_tup (pv 2) pe_int (fun _ _ => rfl)) (pa_cons (pe_ix ix_tup (pv 2) pe_int (fun _ _ => rfl)) pa_nil))))) (pss_one (ps_ret pe_str)) pss_nil)
      (pss_one (ps_ret pe_non)))), ?_⟩
    unfold addHind at k
    refine ⟨_, rfl, rfl, _, rfl, ?_⟩
    rcases hx with ⟨rfl, hf⟩ | ⟨i, a, c, rfl, _, _, hf⟩
    · rw [hf] at k
      rw [if_neg (show ¬ (Option.isSome (none : Option Col)) = true by decide)] at k
      refine iteNS rfl ?_
      have hlen : LenV K (.ref l) H cs.length := by
        rcases hl with hl | hl
        · exact .inl ⟨_, hl, by rw [List.length_map]; exact hc.len.symm⟩
        · exact .inr ⟨_, hl, by rw [List.length_map]; exact hc.len.symm⟩
      refine ⟨_, rfl, _, cs.length, rfl, hlen, _, _, rfl, rfl, _, rfl, ?_⟩
      by_cases h6 : 6 ≤ cs.length
      · rw [if_pos h6] at k
        exact iteDT (by omega) k
      · rw [if_neg h6] at k
        have td : ∃ ty, TyX K H d (.type ty) := by
          cases d with
          | non => exact ⟨_, .base .non⟩
          | int i => exact ⟨_, .base (.int i)⟩
          | _ => cases hd
        obtain ⟨ty, td⟩ := td
        refine iteD (by omega) ⟨_, rfl, t, _, 3, _, rfl, rfl, ht, rfl, _, rfl, t, _, 2, _, rfl, rfl, ht, rfl, d, g, ty, rfl, td, _, rfl, ?_⟩
        cases hi : isIn g d with
        | true =>
          rw [hi, if_pos rfl] at k
          exact iteF k
        | false =>
          rw [hi, if_neg (by decide)] at k
          exact iteT k
    · rw [hf] at k
      rw [if_pos (show (Option.isSome (some c)) = true from rfl)] at k
      exact iteNF (by intro z; cases z) k
/-! hindrance -/
/-- the word by which a change cannot be done, or None -/
def hindV (cs : List Col) (c : Ch) : V := match c with
  | .add n g d => addHind cs n g d
  | .drop n => match cs.find? (isN n) with
    | none => .str "unknown"
    | some _ => if cs.length = 1 then .str "only" else .non
  | .rename n m => match cs.find? (isN n) with
    | none => .str "unknown"
    | some _ => if (cs.find? (isN m)).isSome = true then .str "alive" else .non
  | .dflt n v => match cs.find? (isN n) with
    | none => .str "unknown"
    | some e => if isIn e.top v = true then .non else .str "above"
  | .great n g way => match cs.find? (isN n) with
    | none => .str "unknown"
    | some e => if chgV e.name (.great n g way) e.dflt = .str "missing" then .str "default" else .non
  | .fill n i => match cs.find? (isN n) with
    | none => .str "unknown"
    | some e => if isIn e.top (.int i) = true then .non else .str "above"
def sp_hindrance (K : PySem.W.Frag) : Sp := fun vs H Q _ => ∃ (l t : Addr) (as : List Addr) (cs : List Col) (c : Ch), vs = [.ref l, .ref t] ∧ (SqL K H l (as.map V.ref) ∨ SqT K H l (as.map V.ref)) ∧ Cols K H as cs ∧ (∀ e ∈ cs, valOk e.dflt = true) ∧ ChAt K H t c ∧ c.fits = true ∧ ∀ H', Same H H' → Q (hindV cs c) H'
theorem chg_scal {n : Str} {c : Ch} {v : V} (h : valOk v = true) : scal (chgV n c v) (.str "missing") = true := by
  unfold chgV
  split
  · cases c <;> cases v <;> first | cases h | rfl | skip
    all_goals (simp only [abv]; repeat (first | rfl | split))
  · cases v <;> first | rfl | cases h
theorem ok_hindrance (T : Tx K mg) : Callee P w K mg base CX0 5 "hindrance" ["columns", "change"] [] (sp_hindrance K) := by
  have C1 := (ok_column_named (P := P) (w := w) (base := base) T).up (show 1 ≤ 4 by decide)
  have C2 := ok_add_hindrance (P := P) (w := w) (base := base) T
  have C3 := (ok_is_within (P := P) (w := w) (base := base) T).up (show 3 ≤ 4 by decide)
  have C4 := (ok_changed_value (P := P) (w := w) (base := base) T).up (show 2 ≤ 4 by decide)
  refine mkCallee (fd_hindrance T) (mg_hindrance T) sc_hindrance (fun _ _ _ _ _ _ us hl => match us, hl with | [_, _], _ => rfl) (fun vs H Q E h => ?_) (fun cdv A outer s H vs Q E hr h => ?_)
  · obtain ⟨l, t, as, cs, c, rfl, _⟩ := h
    rfl
  · obtain ⟨l, t, as, cs, c, rfl, hl, hc, hd, ht, hf, k⟩ := h
    obtain ⟨tk, gM⟩ := ms_MISSING T
    have nd := sc_hindrance.nd
    refine ⟨_, pss_cons (ps_set (i := 2) nd rfl (Or.inl rfl) (pe_ix ix_tup (pv 1) pe_int (fun _ _ => rfl)))
      (pss_cons (ps_set (i := 3) nd rfl (Or.inl rfl) (pcall C1 hr (pa_cons (pv 0) (pa_cons (pe_ix ix_tup (pv 1) pe_int (fun _ _ => rfl)) pa_nil))))
      (pss_cons (ps_if (pt_cmpR op_eq (pv 2) pe_str (nomark _)) (pss_one (ps_ret (pcall C2 hr (pa_cons (pv 0) (pa_cons (pv 3) (pa_cons (pv 1) pa_nil)))))) pss_nil)
      (pss_cons (ps_if (pt_cmpR op_isN (pv 3) pe_non (nomark _)) (pss_one (ps_ret pe_str)) pss_nil)
      (pss_cons (ps_if (PW.pt (pw_and (pt_cmpR op_eq (pv 2) pe_str (nomark _)) (pw_and1 (pt_cmpR op_notN (pcall C1 hr (pa_cons (pv 0) (pa_cons (pe_ix ix_tup (pv 1) pe_int (fun _ _ => rfl)) pa_nil))) pe_non (nomark _))))) (pss_one (ps_ret pe_str)) pss_nil)
      (pss_cons (ps_if (PW.pt (pw_and (pt_cmpR op_eq (pv 2) pe_str (nomark _)) (pw_and1 (pt_cmpR op_eq (pe_callB call_len (by rfl) (fr_len T) PySem.boot_len (pa_cons (pv 0) pa_nil)) pe_int (nomark _))))) (pss_one (ps_ret pe_str)) pss_nil)
      (pss_cons (ps_if (PW.pt (pw_and (pt_cmpR op_in_seq (pv 2) (pe_tup (pa_cons pe_str (pa_cons pe_str pa_nil))) (by rfl)) (pw_and1 (pt_not (pt_val (pcall C3 hr (pa_cons (pe_ix ix_tup (pv 1) pe_int (fun _ _ => rfl)) (pa_cons (pe_fld (pv 3) rfl) pa_nil))))))))
        (pss_one (ps_ret pe_str)) pss_nil)
      (pss_cons (ps_if (PW.pt (pw_and (pt_cmpR op_eq (pv 2) pe_str (nomark _)) (pw_and1 (pt_cmpR op_eq (pcall C4 hr (pa_cons (pv 3) (pa_cons (pv 1) (pa_cons (pe_fld (pv 3) rfl) pa_nil)))) (pe_glob (v := .str "missing") (by rfl) gM ⟨_, rfl⟩) (nomark _))))) (pss_one (ps_ret pe_str)) pss_nil)
      (pss_one (ps_ret pe_non))))))))), ?_⟩
    have hlen : ∀ H', Same H H' → LenV K (.ref l) H' cs.length := fun H' s' => by
      rcases hl with hl | hl
      · exact .inl ⟨_, s'.seq hl, by rw [List.length_map]; exact hc.len.symm⟩
      · exact .inr ⟨_, same_tup s' hl, by rw [List.length_map]; exact hc.len.symm⟩
    refine ⟨_, rfl, t, _, 0, _, rfl, rfl, ht, c.at0, ?_⟩
    refine ⟨_, rfl, _, rfl, t, _, 1, _, rfl, rfl, ht, c.at1, l, as, cs, c.name, rfl, hl, hc, fun x hx => ?_⟩
    have kn : ∀ v, hindV cs c = v → ∀ H', Same H H' → Q v H' := fun v e H' s' => by
      rw [← e]
      exact k H' s'
    have nn : ∀ a, ¬ V.ref a = V.non := fun a z => by cases z
    cases c with
    | add n g d =>
      have hf' : (isNm (.str n) && (isGr (.int g) && isVal d)) = true := hf
      rw [Bool.and_eq_true, Bool.and_eq_true] at hf'
      exact ⟨_, rfl, rfl, _, rfl, iteDT rfl ⟨_, rfl, _, rfl, _, rfl, l, t, as, cs, x, n, g, d, rfl, hl, hc, hx, ht, hf'.2.2, kn _ rfl H (Same.refl _)⟩⟩
    | drop n =>
      refine ⟨_, rfl, rfl, _, rfl, iteD (nes (show ("drop" : Str) ≠ "add" by decide +kernel)) ⟨_, rfl, rfl, _, rfl, ?_⟩⟩
      rcases hx with ⟨rfl, hx⟩ | ⟨i, a, e, rfl, hia, hie, hx⟩
      · have hx' : cs.find? (isN n) = none := hx
        exact iteDT rfl (kn _ (by simp only [hindV, hx']) H (Same.refl _))
      have hx' : cs.find? (isN n) = some e := hx
      refine iteD (nn a) ⟨_, rfl, rfl, _, rfl, iteD (nes (show ("drop" : Str) ≠ "rename" by decide +kernel)) (iteF ⟨_, rfl, rfl, _, rfl, iteDT rfl ⟨_, rfl, _, cs.length, rfl, hlen _ (Same.refl _), rfl, _, rfl, ?_⟩⟩)⟩
      by_cases h1 : cs.length = 1
      · exact iteDT (by rw [h1]; rfl) (kn _ (by simp only [hindV, hx']; rw [if_pos h1]) H (Same.refl _))
      · refine iteD (nei (by omega)) ?_
        exact ⟨_, rfl, (by show 2 ≤ sizeLine; decide), fun t2 nt2 => ⟨t2, _, rfl, .inr (sqT_of upd_same), rfl, rfl, _, rfl, iteF (iteF ⟨_, rfl, rfl, _, rfl, iteD (nes (show ("drop" : Str) ≠ "greatest" by decide +kernel)) (iteF (kn _ (by simp only [hindV, hx']; rw [if_neg h1]) _ (same_new nt2)))⟩)⟩⟩
    | rename n m =>
      refine ⟨_, rfl, rfl, _, rfl, iteD (nes (show ("rename" : Str) ≠ "add" by decide +kernel)) ⟨_, rfl, rfl, _, rfl, ?_⟩⟩
      rcases hx with ⟨rfl, hx⟩ | ⟨i, a, e, rfl, hia, hie, hx⟩
      · have hx' : cs.find? (isN n) = none := hx
        exact iteDT rfl (kn _ (by simp only [hindV, hx']) H (Same.refl _))
      have hx' : cs.find? (isN n) = some e := hx
      have i2 : atI (Ch.rename n m).toV 2 = some (.str m) := rfl
      refine iteD (nn a) ⟨_, rfl, rfl, _, rfl, iteDT rfl ⟨_, rfl, _, rfl, t, _, 2, _, rfl, rfl, ht, i2, l, as, cs, m, rfl, hl, hc, fun y hy => ⟨rfl, _, rfl, ?_⟩⟩⟩
      rcases hy with ⟨rfl, hy⟩ | ⟨i', a', e', rfl, _, _, hy⟩
      · refine iteNS rfl ⟨_, rfl, rfl, _, rfl, iteD (nes (show ("rename" : Str) ≠ "drop" by decide +kernel)) (iteF ?_)⟩
        exact ⟨_, rfl, (by show 2 ≤ sizeLine; decide), fun t2 nt2 => ⟨t2, _, rfl, .inr (sqT_of upd_same), rfl, rfl, _, rfl, iteF (iteF ⟨_, rfl, rfl, _, rfl, iteD (nes (show ("rename" : Str) ≠ "greatest" by decide +kernel)) (iteF (kn _ (by simp only [hindV, hx', hy]; rfl) _ (same_new nt2)))⟩)⟩⟩
      · exact iteNF (nn _) (kn _ (by simp only [hindV, hx', hy]; rfl) H (Same.refl _))
    | dflt n v =>
      refine ⟨_, rfl, rfl, _, rfl, iteD (nes (show ("default" : Str) ≠ "add" by decide +kernel)) ⟨_, rfl, rfl, _, rfl, ?_⟩⟩
      rcases hx with ⟨rfl, hx⟩ | ⟨i, a, e, rfl, hia, hie, hx⟩
      · have hx' : cs.find? (isN n) = none := hx
        exact iteDT rfl (kn _ (by simp only [hindV, hx']) H (Same.refl _))
      have hx' : cs.find? (isN n) = some e := hx
      obtain ⟨e2, he2, dx, hat⟩ := hc.at_ hia
      obtain rfl : e = e2 := Option.some.inj (hie.symm.trans he2)
      have i2 : atI (Ch.dflt n v).toV 2 = some v := rfl
      refine iteD (nn a) ⟨_, rfl, rfl, _, rfl, iteD (nes (show ("default" : Str) ≠ "rename" by decide +kernel)) (iteF ⟨_, rfl, rfl, _, rfl, iteD (nes (show ("default" : Str) ≠ "drop" by decide +kernel)) (iteF ⟨_, rfl, (by show 2 ≤ sizeLine; decide), fun t2 nt2 => ⟨t2, _, rfl, .inr (sqT_of upd_same), rfl, rfl, _, rfl, iteT ?_⟩⟩)⟩)⟩
      have s2 := same_new (o := .tup [V.str "default", .str "fill"]) nt2
      have tv : ∃ ty, ∀ H : Hp, TyX K H v (.type ty) := by
        have hv : (isNm (.str n) && isVal v) = true := hf
        rw [Bool.and_eq_true] at hv
        cases v with
        | non => exact ⟨_, fun _ => .base .non⟩
        | int i => exact ⟨_, fun _ => .base (.int i)⟩
        | _ => cases hv.2
      obtain ⟨ty, tv⟩ := tv
      refine ⟨_, rfl, t, _, 2, _, rfl, rfl, same_tup s2 ht, i2, _, rfl, a, _, dx, _, _, rfl, s2 _ _ hat, cl_Column T, na_Column_greatest T, colFs_greatest, v, e.top, ty, rfl, tv _, _, rfl, ?_⟩
      cases hi : isIn e.top v with
      | true => exact iteF (nxt ⟨_, rfl, rfl, _, rfl, iteD (nes (show ("default" : Str) ≠ "greatest" by decide +kernel)) (iteF (nxt (kn _ (by simp only [hindV, hx']; rw [if_pos hi]) _ s2)))⟩)
      | false => exact iteT (kn _ (by simp only [hindV, hx']; rw [if_neg (by rw [hi]; decide)]) _ s2)
    | fill n v =>
      refine ⟨_, rfl, rfl, _, rfl, iteD (nes (show ("fill" : Str) ≠ "add" by decide +kernel)) ⟨_, rfl, rfl, _, rfl, ?_⟩⟩
      rcases hx with ⟨rfl, hx⟩ | ⟨i, a, e, rfl, hia, hie, hx⟩
      · have hx' : cs.find? (isN n) = none := hx
        exact iteDT rfl (kn _ (by simp only [hindV, hx']) H (Same.refl _))
      have hx' : cs.find? (isN n) = some e := hx
      obtain ⟨e2, he2, dx, hat⟩ := hc.at_ hia
      obtain rfl : e = e2 := Option.some.inj (hie.symm.trans he2)
      have i2 : atI (Ch.fill n v).toV 2 = some (.int v) := rfl
      refine iteD (nn a) ⟨_, rfl, rfl, _, rfl, iteD (nes (show ("fill" : Str) ≠ "rename" by decide +kernel)) (iteF ⟨_, rfl, rfl, _, rfl, iteD (nes (show ("fill" : Str) ≠ "drop" by decide +kernel)) (iteF ⟨_, rfl, (by show 2 ≤ sizeLine; decide), fun t2 nt2 => ⟨t2, _, rfl, .inr (sqT_of upd_same), rfl, rfl, _, rfl, iteT ?_⟩⟩)⟩)⟩
      have s2 := same_new (o := .tup [V.str "default", .str "fill"]) nt2
      have tv : ∃ ty, ∀ H : Hp, TyX K H (.int v) (.type ty) := ⟨_, fun _ => .base (.int v)⟩
      obtain ⟨ty, tv⟩ := tv
      refine ⟨_, rfl, t, _, 2, _, rfl, rfl, same_tup s2 ht, i2, _, rfl, a, _, dx, _, _, rfl, s2 _ _ hat, cl_Column T, na_Column_greatest T, colFs_greatest, (.int v), e.top, ty, rfl, tv _, _, rfl, ?_⟩
      cases hi : isIn e.top (.int v) with
      | true => exact iteF (nxt ⟨_, rfl, rfl, _, rfl, iteD (nes (show ("fill" : Str) ≠ "greatest" by decide +kernel)) (iteF (nxt (kn _ (by simp only [hindV, hx']; rw [if_pos hi]) _ s2)))⟩)
      | false => exact iteT (kn _ (by simp only [hindV, hx']; rw [if_neg (by rw [hi]; decide)]) _ s2)
    | great n g way =>
      refine ⟨_, rfl, rfl, _, rfl, iteD (nes (show ("greatest" : Str) ≠ "add" by decide +kernel)) ⟨_, rfl, rfl, _, rfl, ?_⟩⟩
      rcases hx with ⟨rfl, hx⟩ | ⟨i, a, e, rfl, hia, hie, hx⟩
      · have hx' : cs.find? (isN n) = none := hx
        exact iteDT rfl (kn _ (by simp only [hindV, hx']) H (Same.refl _))
      have hx' : cs.find? (isN n) = some e := hx
      obtain ⟨e2, he2, dx, hat⟩ := hc.at_ hia
      obtain rfl : e = e2 := Option.some.inj (hie.symm.trans he2)
      have hde := hd e (List.mem_of_getElem? hie)
      refine iteD (nn a) ⟨_, rfl, rfl, _, rfl, iteD (nes (show ("greatest" : Str) ≠ "rename" by decide +kernel)) (iteF ⟨_, rfl, rfl, _, rfl, iteD (nes (show ("greatest" : Str) ≠ "drop" by decide +kernel)) (iteF ⟨_, rfl, (by show 2 ≤ sizeLine; decide), fun t2 nt2 => ⟨t2, _, rfl, .inr (sqT_of upd_same), rfl, rfl, _, rfl, iteF (iteF ?_)⟩⟩)⟩)⟩
      have s2 := same_new (o := .tup [V.str "default", .str "fill"]) nt2
      refine ⟨_, rfl, rfl, _, rfl, iteDT rfl ⟨_, rfl, _, rfl, _, rfl, a, _, dx, _, _, rfl, s2 _ _ hat, cl_Column T, na_Column_default T, colFs_default, a, t, e.name, e.top, e.num, e.dflt, e.dflt, .great n g way, rfl, ⟨dx, s2 _ _ hat⟩, same_tup s2 ht, hde, chg_scal hde, _, rfl, ?_⟩⟩
      by_cases hm : chgV e.name (.great n g way) e.dflt = .str "missing"
      · exact iteDT hm (kn _ (by simp only [hindV, hx']; rw [if_pos hm]) _ s2)
      · exact iteD hm (nxt (kn _ (by simp only [hindV, hx']; rw [if_neg hm]) _ s2))
/-! why_not, at what is a change -/
theorem ok_why_not (T : Tx K mg) : Callee P w K mg base CX0 6 "why_not" ["columns", "change"] [] (sp_hindrance K) := by
  have C1 := ok_is_change (P := P) (w := w) (base := base) T
  have C2 := ok_hindrance (P := P) (w := w) (base := base) T
  refine mkCallee (fd_why_not T) (mg_why_not T) sc_why_not (fun _ _ _ _ _ _ us hl => match us, hl with | [_, _], _ => rfl) (fun vs H Q E h => ?_) (fun cdv A outer s H vs Q E hr h => ?_)
  · obtain ⟨l, t, as, cs, c, rfl, _⟩ := h
    rfl
  · obtain ⟨l, t, as, cs, c, rfl, hl, hc, hd, ht, hf, k⟩ := h
    refine ⟨_, pss_cons (ps_if (pt_not (pt_val (pcall C1 hr (pa_cons (pv 1) pa_nil)))) (pss_one ps_never) pss_nil) (pss_one (ps_ret (pcall C2 hr (pa_cons (pv 0) (pa_cons (pv 1) pa_nil))))), ?_⟩
    refine ⟨_, rfl, t, c, rfl, ht, hf, fun H1 s1 => ⟨_, rfl, iteF ⟨_, rfl, _, rfl, l, t, as, cs, c, rfl, ?_, hc.keep s1, hd, ht.keep s1, hf, fun H' s' => k H' (s1.trans s')⟩⟩⟩
    exact hl.imp (fun h => s1.seq h) (fun h => same_tup s1 h)
/-! _law_pool -/
def sp_pool (K : PySem.W.Frag) : Sp := fun vs H Q _ => ∃ (a : Addr) (ns : List Int) (k : Int), vs = [.ref a, .int k] ∧ SqL K H a (ns.map V.int) ∧ 0 ≤ k ∧ k ≤ 1000 ∧
  ∀ (p : Addr) (H' : Hp) (z0 z1 : Int), H p = none → Same H H' → H' p = some (.lst [.int z0, .int z1]) → Q (.ref p) H'
theorem ok_pool (T : Tx K mg) : Callee P w K mg base CX0 1 "_law_pool" ["_law_script", "_law_k"] [] (sp_pool K) := by
  refine mkCallee (fd__law_pool T) (mg__law_pool T) sc__law_pool (fun _ _ _ _ _ _ us hl => match us, hl with | [_, _], _ => rfl) (fun vs H Q E h => ?_) (fun cdv A outer s H vs Q E hr h => ?_)
  · obtain ⟨a, ns, k, rfl, _⟩ := h
    rfl
  · obtain ⟨a, ns, k, rfl, hs, k0, k1, kk⟩ := h
    have gi : mg "int" = none := fr_int T
    refine ⟨_, pss_cons (ps_set (i := 2) sc__law_pool.nd rfl (Or.inl rfl) (pe_ifExp (pt_cmpR op_lt (pv 1) (pe_callB call_len (by rfl) (fr_len T) PySem.boot_len (pa_cons (pv 0) pa_nil)) (nomark _))
        (pe_callB (call_max2 rfl) (by rfl) (fr_max T) (by decide +kernel) (pa_cons (pe_callTy call_int1 (by rfl) gi (by decide +kernel) (pa_cons (pe_ix ix_list (pv 0) (pv 1) (fun _ _ => rfl)) pa_nil))
          (pa_cons (pe_callTy call_int1 (by rfl) gi (by decide +kernel) (pa_cons (pe_op op_sub (pe_un un_neg pe_int) (pe_ix ix_list (pv 0) (pv 1) (fun _ _ => rfl))) pa_nil)) pa_nil))) pe_int))
      (pss_cons (ps_set (i := 3) sc__law_pool.nd rfl (Or.inl rfl) (pe_op op_add (pe_op op_modN (pe_callTy call_int1 (by rfl) gi (by decide +kernel) (pa_cons (pe_op op_mul (pe_op op_add (pe_op op_modN (pe_callTy call_int1 (by rfl) gi (by decide +kernel) (pa_cons (pv 2) pa_nil)) pe_int)
        (pe_op op_mul pe_int (pe_op op_add (pv 1) pe_int))) pe_int) pa_nil)) pe_int) pe_int))
      (pss_one (ps_ret (pe_lst (pa_cons (pe_op op_mul (pv 2) (pe_callTy call_int1 (by rfl) gi (by decide +kernel) (pa_cons (pe_cmpR op_ge (pv 2) (pe_op op_pow pe_int pe_int) (nomark _)) pa_nil)))
        (pa_cons (pe_op op_modN (pe_callTy call_int1 (by rfl) gi (by decide +kernel) (pa_cons (pe_op op_mul (pv 3) (pv 3)) pa_nil)) pe_int) pa_nil)))))), ?_⟩
    refine q_asgI (fun R r => ?_) fun z => ?_
    · refine ⟨_, rfl, _, rfl, _, (ns.map V.int).length, rfl, .inl ⟨_, hs, rfl⟩, _, _, rfl, rfl, _, rfl, ?_⟩
      by_cases hk : k < ((ns.map V.int).length : Int)
      · rw [decide_eq_true hk]
        obtain ⟨j, rfl⟩ : ∃ j : Nat, k = (j : Int) := ⟨k.toNat, by omega⟩
        have hj : j < ns.length := by
          rw [List.length_map] at hk
          omega
        have hx : (ns.map V.int)[j]? = some (V.int ns[j]) := by
          rw [List.getElem?_map, List.getElem?_eq_getElem hj]
          rfl
        refine iteT ⟨_, rfl, _, rfl, a, _, _, _, rfl, rfl, hs, at_of (j := j) rfl hx, .inl ⟨_, rfl, _, rfl, _, rfl, _, rfl, a, _, _, _, rfl, rfl, hs, at_of (j := j) rfl hx, _, _, rfl, rfl, .inl ⟨_, rfl, _, _, rfl, r _⟩⟩⟩
      · rw [decide_eq_false hk]
        exact iteF (r 7)
    · refine ⟨_, rfl, .inl ⟨_, rfl, _, _, rfl, rfl, (show (2147483629 : Int) ≠ 0 by decide), _, rfl, _, _, rfl, rfl, _, _, rfl, rfl, .inl ⟨by decide, by decide⟩, _, _, rfl, rfl, _, _, rfl, rfl, .inr ⟨by decide, by decide⟩, .inl ⟨_, rfl, _, _, rfl, rfl, (show (2147483629 : Int) ≠ 0 by decide), _, _, rfl, rfl, ?_⟩⟩⟩
      have m0 := mod_lo (i := (z.fmod 2147483629 + 104729 * (k + 1)) * 48271) (j := 2147483629) (by decide)
      have m1 := mod_hi (i := (z.fmod 2147483629 + 104729 * (k + 1)) * 48271) (j := 2147483629) (by decide)
      refine ⟨_, rfl, _, rfl, _, _, rfl, rfl, ⟨by decide, by decide, by decide⟩, _, _, rfl, rfl, .inr ⟨_, rfl, _, _, rfl, rfl, ?_, _, rfl, _, rfl, _, _, rfl, rfl, .inl ⟨by omega, by omega⟩, .inl ⟨_, rfl, _, _, rfl, rfl, (show (2147483629 : Int) ≠ 0 by decide), (by show 2 ≤ sizeLine; decide), fun p hp => ?_⟩⟩⟩
      · refine .inr ?_
        split
        · exact ⟨by decide, by decide⟩
        · exact ⟨by decide, by decide⟩
      · exact kk p _ _ _ hp (same_new hp) upd_same
/-! _law_draw -/
def sp_draw : Sp := fun vs H Q _ => ∃ (a : Addr) (z0 z1 m : Int), vs = [.ref a, .int m] ∧ H a = some (.lst [.int z0, .int z1]) ∧ 0 < m ∧ m < 1073741824 ∧
  ∀ r y0 y1 : Int, 0 ≤ r → r < m → Q (.int r) (upd H a (.lst [.int y0, .int y1]))
theorem ok_draw (T : Tx K mg) : Callee P w K mg base CX0 1 "_law_draw" ["_law_pool_here", "_law_many"] [] sp_draw := by
  refine mkCallee (fd__law_draw T) (mg__law_draw T) sc__law_draw (fun _ _ _ _ _ _ us hl => match us, hl with | [_, _], _ => rfl) (fun vs H Q E h => ?_) (fun cdv A outer s H vs Q E hr h => ?_)
  · obtain ⟨a, z0, z1, m, rfl, _⟩ := h
    rfl
  · obtain ⟨a, z0, z1, m, rfl, ha, hm, hm2, k⟩ := h
    have gi : mg "int" = none := fr_int T
    refine ⟨_, pss_cons (ps_if (pt_cmpR op_gt (pe_ix ix_list (pv 0) pe_int (fun _ _ => rfl)) pe_int (nomark _))
        (pss_cons (ps_set (i := 2) sc__law_draw.nd rfl (Or.inl rfl) (pe_op op_modN (pe_callTy call_int1 (by rfl) gi (by decide +kernel) (pa_cons (pe_ix ix_list (pv 0) pe_int (fun _ _ => rfl)) pa_nil)) (pv 1)))
        (pss_cons (ps_asg (pe_op op_fdivN (pe_ix ix_list (pv 0) pe_int (fun _ _ => rfl)) (pv 1)) (pg_sub (pv 0) pe_int set_list))
        (pss_one (ps_ret (pv 2))))) pss_nil)
      (pss_cons (ps_asg (pe_op op_modN (pe_callTy call_int1 (by rfl) gi (by decide +kernel) (pa_cons (pe_op op_add (pe_op op_mul (pe_ix ix_list (pv 0) pe_int (fun _ _ => rfl)) pe_int) pe_int) pa_nil)) pe_int) (pg_sub (pv 0) pe_int set_list))
      (pss_one (ps_ret (pe_op op_modN (pe_callTy call_int1 (by rfl) gi (by decide +kernel) (pa_cons (pe_op op_fdivN (pe_op op_modN (pe_callTy call_int1 (by rfl) gi (by decide +kernel)
        (pa_cons (pe_op op_mul (pe_ix ix_list (pv 0) pe_int (fun _ _ => rfl)) (pe_ix ix_list (pv 0) pe_int (fun _ _ => rfl))) pa_nil)) pe_int) pe_int) pa_nil)) (pv 1))))), ?_⟩
    have i0 : atI [V.int z0, V.int z1] 0 = some (V.int z0) := rfl
    have i1 : atI [V.int z0, V.int z1] 1 = some (V.int z1) := rfl
    refine ⟨_, rfl, a, _, _, _, rfl, rfl, sqL_of ha, i0, _, _, rfl, rfl, _, rfl, ?_⟩
    by_cases hz : 0 < z0
    · rw [decide_eq_true hz]
      refine iteT ⟨_, rfl, a, _, _, _, rfl, rfl, sqL_of ha, i0, .inl ⟨_, rfl, _, rfl, _, _, rfl, rfl, (by omega), ?_⟩⟩
      refine ⟨_, rfl, a, _, _, _, rfl, rfl, sqL_of ha, i0, _, rfl, _, _, rfl, rfl, ⟨by omega, by omega⟩, _, rfl, a, _, 0, 0, rfl, rfl, ha, rfl, ?_⟩
      exact ⟨_, rfl, k _ _ _ (mod_lo hm) (mod_hi hm)⟩
    · rw [decide_eq_false hz]
      refine iteF ?_
      refine ⟨_, rfl, a, _, _, _, rfl, rfl, sqL_of ha, i1, _, _, rfl, rfl, .inr ⟨by decide, by decide⟩, _, _, rfl, rfl, .inl ⟨_, rfl, _, _, rfl, rfl, (show (2147483647 : Int) ≠ 0 by decide), ?_⟩⟩
      refine ⟨_, rfl, a, _, 1, 1, rfl, rfl, ha, rfl, ?_⟩
      have hy0 : 0 ≤ (z1 * 48271 + 11).fmod 2147483647 := mod_lo (by decide)
      have hy1 : (z1 * 48271 + 11).fmod 2147483647 < 2147483647 := mod_hi (by decide)
      have u1 : upd H a (.lst ([V.int z0, V.int z1].set 1 (.int ((z1 * 48271 + 11).fmod 2147483647)))) a = some (.lst [.int z0, .int ((z1 * 48271 + 11).fmod 2147483647)]) := upd_same
      have j1 : atI [V.int z0, V.int ((z1 * 48271 + 11).fmod 2147483647)] 1 = some (V.int ((z1 * 48271 + 11).fmod 2147483647)) := rfl
      refine ⟨_, rfl, a, _, _, _, rfl, rfl, sqL_of u1, j1, _, rfl, a, _, _, _, rfl, rfl, sqL_of u1, j1, _, _, rfl, rfl, .inl ⟨by omega, by omega⟩, .inl ⟨_, rfl, _, _, rfl, rfl, (show (2147483629 : Int) ≠ 0 by decide), _, _, rfl, rfl, ⟨by decide, by decide⟩, .inl ⟨_, rfl, _, rfl, _, _, rfl, rfl, (by omega), ?_⟩⟩⟩
      exact k _ _ _ (mod_lo hm) (mod_hi hm)
/-! _law_pick -/
def sp_pick : Sp := fun vs H Q _ => ∃ (a b : Addr) (z0 z1 : Int) (xs : List V), vs = [.ref a, .ref b] ∧ H a = some (.lst [.int z0, .int z1]) ∧ H b = some (.lst xs) ∧ b ≠ a ∧ 0 < xs.length ∧ xs.length < 1000000 ∧
  ∀ (x : V) (y0 y1 : Int), x ∈ xs → Q x (upd H a (.lst [.int y0, .int y1]))
theorem ok_pick (T : Tx K mg) : Callee P w K mg base CX0 2 "_law_pick" ["_law_pool_here", "_law_row"] [] sp_pick := by
  have C1 := ok_draw (P := P) (w := w) (base := base) T
  refine mkCallee (fd__law_pick T) (mg__law_pick T) sc__law_pick (fun _ _ _ _ _ _ us hl => match us, hl with | [_, _], _ => rfl) (fun vs H Q E h => ?_) (fun cdv A outer s H vs Q E hr h => ?_)
  · obtain ⟨a, b, z0, z1, xs, rfl, _⟩ := h
    rfl
  · obtain ⟨a, b, z0, z1, xs, rfl, ha, hb, nb, h0, h1, k⟩ := h
    have gl : mg "len" = none := fr_len T
    refine ⟨_, pss_one (ps_ret (pe_ix ix_list (pv 1) (pcall C1 hr (pa_cons (pv 0) (pa_cons (pe_callB call_len_seq (by rfl) gl PySem.boot_len (pa_cons (pv 1) pa_nil)) pa_nil))) (fun _ _ => rfl))), ?_⟩
    refine ⟨_, rfl, _, rfl, _, rfl, b, xs, rfl, .inl (sqL_of hb), a, z0, z1, _, rfl, ha, (by omega), (by omega), fun r y0 y1 hr0 hr1 => ?_⟩
    obtain ⟨j, rfl⟩ : ∃ j : Nat, r = (j : Int) := ⟨r.toNat, by omega⟩
    have hj : j < xs.length := by omega
    refine ⟨b, xs, _, xs[j], rfl, rfl, sqL_of (by rw [upd_ne nb]; exact hb), at_of (j := j) rfl (List.getElem?_eq_getElem hj), ?_⟩
    exact k _ _ _ (List.getElem_mem hj)
/-! _law_value -/
/-- all but what stands at p is as it was -/
def But (p : Addr) (H H' : Hp) : Prop := ∀ b o, b ≠ p → H b = some o → H' b = some o
theorem But.refl (p : Addr) (H : Hp) : But p H H := fun _ _ _ e => e
theorem But.trans {p : Addr} {H H1 H2 : Hp} (a : But p H H1) (b : But p H1 H2) : But p H H2 := fun c o h e => b c o h (a c o h e)
theorem But.of {p : Addr} {H H' : Hp} (s : Same H H') : But p H H' := fun b o _ e => s b o e
theorem But.mut {p : Addr} {H : Hp} {o : HO} : But p H (upd H p o) := fun b u h e => by
  rw [upd_ne h]
  exact e
/-- nothing that stood ahead of p is touched -/
theorem But.same {p : Addr} {H0 H H' : Hp} (b : But p H H') (s : Same H0 H) (n : H0 p = none) : Same H0 H' := fun c o e => b c o (ne_of_none e n) (s c o e)
def sp_value (m0 : Int) : Sp := fun vs H Q _ => ∃ (p : Addr) (z0 z1 m : Int), vs = [.ref p, .int m] ∧ H p = some (.lst [.int z0, .int z1]) ∧ 0 ≤ m ∧ m ≤ m0 ∧
  ∀ (v : V) (y0 y1 : Int) (H' : Hp), isIn m v = true → But p H H' → H' p = some (.lst [.int y0, .int y1]) → Q v H'
theorem valsTo_in {g : Int} {v : V} (h : v ∈ valsTo g) : isIn g v = true := by
  unfold valsTo at h
  rcases List.mem_cons.mp h with rfl | h
  · rfl
  · unfold rgV at h
    obtain ⟨i, hi, rfl⟩ := List.mem_map.mp h
    rw [List.mem_range] at hi
    show (decide ((0 : Int) ≤ 0 + (i : Int)) && decide ((0 : Int) + (i : Int) ≤ g)) = true
    rw [Bool.and_eq_true]
    exact ⟨decide_eq_true (by omega), decide_eq_true (by omega)⟩
theorem ok_value (T : Tx K mg) : Callee P w K mg base CX0 3 "_law_value" ["_law_pool_here", "_law_most"] [] (sp_value 1000) := by
  have C1 := ok_pick (P := P) (w := w) (base := base) T
  refine mkCallee (fd__law_value T) (mg__law_value T) sc__law_value (fun _ _ _ _ _ _ us hl => match us, hl with | [_, _], _ => rfl) (fun vs H Q E h => ?_) (fun cdv A outer s H vs Q E hr h => ?_)
  · obtain ⟨p, z0, z1, m, rfl, _⟩ := h
    rfl
  · obtain ⟨p, z0, z1, m, rfl, hp, h0, h1, k⟩ := h
    refine ⟨_, pss_one (ps_ret (pcall C1 hr (pa_cons (pv 0) (pa_cons (pe_op op_cat (pe_lst (pa_cons pe_non pa_nil)) (pe_listRg rfl (by rfl) (fr_list T) (prg_1 (by rfl) (fr_range T) (pe_op op_add (pv 1) pe_int)))) pa_nil)))), ?_⟩
    refine ⟨_, rfl, (by show 1 ≤ sizeLine; decide), fun l nl => ⟨_, rfl, _, _, rfl, rfl, _, rfl, .of_le (by omega) (by omega) (by omega) (by omega), fun q nq => ?_⟩⟩
    refine ⟨l, q, _, _, rfl, rfl, same_new nq _ _ upd_same, upd_same, ?_, fun c nc => ?_⟩
    · rw [rgV_length]
      have e : sizeLine = 16777216 := by decide
      rw [e]
      show 1 + (m + 1 - 0).toNat ≤ _
      omega
    have s3 := ((same_new (o := .lst [.non]) nl).trans (same_new (o := .lst (rgV 0 (m + 1))) nq)).trans (same_new (o := .lst ([V.non] ++ rgV 0 (m + 1))) nc)
    have hp3 := s3 _ _ hp
    have ncp : c ≠ p := fun e => by
      have h2 := ((same_new (o := .lst [.non]) nl).trans (same_new (o := .lst (rgV 0 (m + 1))) nq)) _ _ hp
      rw [← e, nc] at h2
      cases h2
    refine ⟨p, c, z0, z1, valsTo m, rfl, hp3, upd_same, ncp, ?_, ?_, fun v y0 y1 hv => k v y0 y1 _ (valsTo_in hv) ((But.of s3).trans But.mut) upd_same⟩
    · unfold valsTo
      rw [List.length_cons]
      omega
    · unfold valsTo
      rw [List.length_cons, rgV_length]
      omega
/-! _law_cut -/
def cutL (g : Int) (way : Str) (v : V) : V := match v with
  | .int j => if g < j then (if way = "cut" then .int g else if way = "none" then .non else .str "barred") else .int j
  | v => v
theorem merge3 (x y z : V) : mergeK [] [(Sum.inr "cut", x), (Sum.inr "none", y), (Sum.inr "refuse", z)] = ([(Sum.inr "cut", x), (Sum.inr "none", y), (Sum.inr "refuse", z)] : List (Key × V)) := by
  have h1 : ¬ ((Sum.inr "cut" : Key) = (Sum.inr "none" : Key)) := by decide +kernel
  have h2 : ¬ ((Sum.inr "cut" : Key) = (Sum.inr "refuse" : Key)) := by decide +kernel
  have h3 : ¬ ((Sum.inr "none" : Key) = (Sum.inr "refuse" : Key)) := by decide +kernel
  simp [mergeK, putK, h1, h2, h3]
theorem val3 {x y z : V} {way : Str} (hw : isWy way = true) : valV ([(Sum.inr "cut", x), (Sum.inr "none", y), (Sum.inr "refuse", z)] : List (Key × V)) (Sum.inr way) = some (if way = "cut" then x else if way = "none" then y else z) := by
  have h1 : ¬ ((Sum.inr "cut" : Key) = (Sum.inr "none" : Key)) := by decide +kernel
  have h2 : ¬ ((Sum.inr "cut" : Key) = (Sum.inr "refuse" : Key)) := by decide +kernel
  have h3 : ¬ ((Sum.inr "none" : Key) = (Sum.inr "refuse" : Key)) := by decide +kernel
  have g1 : ¬ (("none" : Str) = "cut") := by decide +kernel
  have g2 : ¬ (("refuse" : Str) = "cut") := by decide +kernel
  have g3 : ¬ (("refuse" : Str) = "none") := by decide +kernel
  have h' : (decide (way = "cut") || (decide (way = "none") || decide (way = "refuse"))) = true := hw
  rw [Bool.or_eq_true, Bool.or_eq_true, decide_eq_true_iff, decide_eq_true_iff, decide_eq_true_iff] at h'
  rcases h' with rfl | rfl | rfl
  · rw [if_pos rfl]
    exact valV_pos rfl
  · rw [if_neg g1, if_pos rfl]
    simp [valV, h1]
  · rw [if_neg g2, if_neg g3]
    simp [valV, h2, h3]
def sp_cut (K : PySem.W.Frag) : Sp := fun vs H Q _ => ∃ (t : Addr) (n way : Str) (g : Int) (v : V), vs = [v, .ref t] ∧ ChAt K H t (.great n g way) ∧ isWy way = true ∧ valOk v = true ∧ ∀ H', Same H H' → Q (cutL g way v) H'
theorem ok_cut (T : Tx K mg) : Callee P w K mg base CX0 1 "_law_cut" ["_law_value_here", "_law_change"] [] (sp_cut K) := by
  refine mkCallee (fd__law_cut T) (mg__law_cut T) sc__law_cut (fun _ _ _ _ _ _ us hl => match us, hl with | [_, _], _ => rfl) (fun vs H Q E h => ?_) (fun cdv A outer s H vs Q E hr h => ?_)
  · obtain ⟨t, n, way, g, v, rfl, _⟩ := h
    rfl
  · obtain ⟨t, n, way, g, v, rfl, ht, hw, hv, k⟩ := h
    have i2 : atI (Ch.great n g way).toV 2 = some (.int g) := rfl
    have i3 : atI (Ch.great n g way).toV 3 = some (.str way) := rfl
    refine ⟨_, pss_cons (ps_if (PW.pt (pw_or (pt_cmpR op_isN (pv 0) pe_non (nomark _)) (pw_or1 (pt_cmpR op_le (pv 0) (pe_ix ix_tup (pv 1) pe_int (fun _ _ => rfl)) (nomark _))))) (pss_one (ps_ret (pv 0))) pss_nil)
      (pss_one (ps_ret (pe_dget (hu_of hr) (pe_disp (pps_cons pe_str (pe_ix ix_tup (pv 1) pe_int (fun _ _ => rfl)) (pps_cons pe_str pe_non (pps_cons pe_str pe_str pps_nil))) (by rfl) (by rfl) (fun z => by cases z) (by decide)) (pe_ix ix_tup (pv 1) pe_int (fun _ _ => rfl)) (fun _ _ => rfl)))), ?_⟩
    refine ⟨_, rfl, rfl, _, rfl, ?_⟩
    cases v with
    | non => exact iteDT rfl (iteT ⟨_, rfl, k H (Same.refl _)⟩)
    | int j =>
      refine iteD (by intro z; cases z) ⟨_, rfl, _, rfl, t, _, 2, _, rfl, rfl, ht, i2, _, _, rfl, rfl, _, rfl, ?_⟩
      by_cases hj : j ≤ g
      · refine iteDT hj ⟨_, rfl, ?_⟩
        have e : cutL g way (.int j) = .int j := if_neg (by omega)
        rw [← e]
        exact k H (Same.refl _)
      · refine iteD hj (nxt ?_)
        have e : cutL g way (.int j) = (if way = "cut" then .int g else if way = "none" then .non else .str "barred") := if_pos (by omega)
        refine fun p np => ⟨_, rfl, t, _, 2, _, rfl, rfl, same_tup (same_new np) ht, i2, upd_same, [(Sum.inr "cut", V.int g), (Sum.inr "none", V.non), (Sum.inr "refuse", V.str "barred")], rfl, (by show 3 ≤ 15; decide), ?_⟩
        rw [upd_upd, merge3]
        have s2 : Same H (upd H p (.dK [(Sum.inr "cut", V.int g), (Sum.inr "none", V.non), (Sum.inr "refuse", V.str "barred")])) := same_new np
        refine ⟨_, rfl, t, _, 3, _, rfl, rfl, same_tup s2 ht, i3, p, cutL g way (.int j), rfl, ?_, k _ s2⟩
        rw [e, ← val3 hw]
        exact DGet.k (k := Sum.inr way) upd_same
    | _ => cases hv
/-! _law_draw_change -/
theorem ne_pool {H : Hp} {p l : Addr} {o : HO} (h : H p = some o) (n : H l = none) : l ≠ p := fun e => by
  rw [e, h] at n
  cases n
def sp_draw_change (K : PySem.W.Frag) : Sp := fun vs H Q _ => ∃ (p : Addr) (z0 z1 m : Int) (n : Str), vs = [.ref p, .str n, .int m] ∧ H p = some (.lst [.int z0, .int z1]) ∧ isNm (.str n) = true ∧ 0 ≤ m ∧ m ≤ 1000 ∧
  ∀ (t : Addr) (c : Ch) (y0 y1 : Int) (H' : Hp), c.fits = true → c.name = n → But p H H' → H' p = some (.lst [.int y0, .int y1]) → ChAt K H' t c → Q (.ref t) H'
theorem ok_draw_change (T : Tx K mg) : Callee P w K mg base CX0 4 "_law_draw_change" ["_law_pool_here", "_law_name", "_law_top"] [] (sp_draw_change K) := by
  have C1 := (ok_pick (P := P) (w := w) (base := base) T).up (show 2 ≤ 3 by decide)
  have C2 := ok_value (P := P) (w := w) (base := base) T
  have C3 := (ok_draw (P := P) (w := w) (base := base) T).up (show 1 ≤ 3 by decide)
  refine mkCallee (fd__law_draw_change T) (mg__law_draw_change T) sc__law_draw_change (fun _ _ _ _ _ _ us hl => match us, hl with | [_, _, _], _ => rfl) (fun vs H Q E h => ?_) (fun cdv A outer s H vs Q E hr h => ?_)
  · obtain ⟨p, z0, z1, m, n, rfl, _⟩ := h
    rfl
  · obtain ⟨p, z0, z1, m, n, rfl, hp, hn, h0, h1, k⟩ := h
    have nd := sc__law_draw_change.nd
    refine ⟨_, pss_cons (ps_set (i := 3) nd rfl (Or.inl rfl) (pcall C1 hr (pa_cons (pv 0) (pa_cons (pe_lst (pa_cons pe_str (pa_cons pe_str (pa_cons pe_str (pa_cons pe_str (pa_cons pe_str pa_nil)))))) pa_nil))))
      (pss_cons (ps_if (pt_cmpR op_eq (pv 3) pe_str (nomark _)) (pss_one (ps_ret (pe_tup (pa_cons (pv 3) (pa_cons (pv 1) (pa_cons pe_str pa_nil)))))) pss_nil)
      (pss_cons (ps_if (pt_cmpR op_eq (pv 3) pe_str (nomark _)) (pss_one (ps_ret (pe_tup (pa_cons (pv 3) (pa_cons (pv 1) (pa_cons (pcall C2 hr (pa_cons (pv 0) (pa_cons (pv 2) pa_nil))) pa_nil)))))) pss_nil)
      (pss_cons (ps_if (pt_cmpR op_eq (pv 3) pe_str (nomark _)) (pss_one (ps_ret (pe_tup (pa_cons (pv 3) (pa_cons (pv 1) (pa_cons (pcall C3 hr (pa_cons (pv 0) (pa_cons (pe_op op_add (pv 2) pe_int) pa_nil))) pa_nil)))))) pss_nil)
      (pss_one (ps_ret (pe_tup (pa_cons (pv 3) (pa_cons (pv 1) (pa_cons (pe_op op_add pe_int (pcall C3 hr (pa_cons (pv 0) (pa_cons pe_int pa_nil)))) (pa_cons (pcall C1 hr (pa_cons (pv 0) (pa_cons (pe_lst (pa_cons pe_str (pa_cons pe_str (pa_cons pe_str pa_nil)))) pa_nil))) pa_nil)))))))))), ?_⟩
    refine ⟨_, rfl, (by show 5 ≤ sizeLine; decide), fun l nl => ?_⟩
    refine ⟨p, l, z0, z1, _, rfl, same_new nl _ _ hp, upd_same, ne_pool hp nl, (by show 0 < 5; decide), (by show 5 < 1000000; decide), fun x y0 y1 hx => ?_⟩
    have b1 : But p H (upd (upd H l (.lst [.str "rename", .str "default", .str "greatest", .str "greatest", .str "fill"])) p (.lst [.int y0, .int y1])) := (But.of (same_new nl)).trans But.mut
    have p1 : upd (upd H l (.lst [.str "rename", .str "default", .str "greatest", .str "greatest", .str "fill"])) p (.lst [.int y0, .int y1]) p = some (.lst [.int y0, .int y1]) := upd_same
    generalize upd (upd H l (.lst [.str "rename", .str "default", .str "greatest", .str "greatest", .str "fill"])) p (.lst [.int y0, .int y1]) = H1 at b1 p1
    have hx' : x = .str "rename" ∨ x = .str "default" ∨ x = .str "greatest" ∨ x = .str "fill" := by
      simp only [List.mem_cons, List.not_mem_nil, or_false] at hx
      rcases hx with h | h | h | h | h
      · exact .inl h
      · exact .inr (.inl h)
      · exact .inr (.inr (.inl h))
      · exact .inr (.inr (.inl h))
      · exact .inr (.inr (.inr h))
    rcases hx' with rfl | rfl | rfl | rfl
    · refine ⟨_, rfl, rfl, _, rfl, iteDT rfl ⟨_, rfl, _, rfl, (by show 3 ≤ sizeLine; decide), fun t nt => ?_⟩⟩
      refine k t (.rename n "other") y0 y1 _ ?_ rfl (b1.trans (But.of (same_new nt))) (same_new nt _ _ p1) (sqT_of upd_same)
      show (isNm (.str n) && isNm (.str "other")) = true
      rw [hn]
      decide +kernel
    · refine ⟨_, rfl, rfl, _, rfl, iteD (nes (show ("default" : Str) ≠ "rename" by decide +kernel)) ⟨_, rfl, rfl, _, rfl, iteDT rfl ⟨_, rfl, _, rfl, _, rfl, _, rfl, p, y0, y1, m, rfl, p1, h0, h1, fun v u0 u1 H2 hv b2 p2 => ⟨(by show 3 ≤ sizeLine; decide), fun t nt => ?_⟩⟩⟩⟩
      refine k t (.dflt n v) u0 u1 _ ?_ rfl ((b1.trans b2).trans (But.of (same_new nt))) (same_new nt _ _ p2) (sqT_of upd_same)
      show (isNm (.str n) && isVal v) = true
      rw [hn, Bool.true_and]
      cases v with
      | non => rfl
      | int i =>
        have hv' : (decide (0 ≤ i) && decide (i ≤ m)) = true := hv
        exact (Bool.and_eq_true_iff.mp hv').1
      | _ => cases hv
    · refine ⟨_, rfl, rfl, _, rfl, iteD (nes (show ("greatest" : Str) ≠ "rename" by decide +kernel)) ⟨_, rfl, rfl, _, rfl, iteD (nes (show ("greatest" : Str) ≠ "default" by decide +kernel)) ⟨_, rfl, rfl, _, rfl, iteD (nes (show ("greatest" : Str) ≠ "fill" by decide +kernel)) ?_⟩⟩⟩
      refine ⟨_, rfl, _, rfl, _, rfl, p, y0, y1, 5, rfl, p1, by decide, by decide, fun r u0 u1 r0 r1 => ⟨_, _, rfl, rfl, ?_⟩⟩
      refine ⟨_, rfl, (by show 3 ≤ sizeLine; decide), fun l2 nl2 => ?_⟩
      have p2 : upd H1 p (.lst [.int u0, .int u1]) p = some (.lst [.int u0, .int u1]) := upd_same
      refine ⟨p, l2, u0, u1, _, rfl, same_new nl2 _ _ p2, upd_same, ne_pool p2 nl2, (by show 0 < 3; decide), (by show 3 < 1000000; decide), fun x w0 w1 hw => ⟨(by show 4 ≤ sizeLine; decide), fun t nt => ?_⟩⟩
      have hx3 : ∃ z : Str, x = .str z ∧ isWy z = true := by
        simp only [List.mem_cons, List.not_mem_nil, or_false] at hw
        rcases hw with rfl | rfl | rfl
        · exact ⟨_, rfl, by decide +kernel⟩
        · exact ⟨_, rfl, by decide +kernel⟩
        · exact ⟨_, rfl, by decide +kernel⟩
      obtain ⟨z, rfl, hz⟩ := hx3
      refine k t (.great n (1 + r) z) w0 w1 _ ?_ rfl (((b1.trans But.mut).trans ((But.of (same_new nl2)).trans But.mut)).trans (But.of (same_new nt))) (same_new nt _ _ upd_same) (sqT_of upd_same)
      show (isNm (.str n) && ((decide (1 ≤ 1 + r) && decide (1 + r ≤ 99)) && isWy z)) = true
      rw [hn, hz, decide_eq_true (by omega), decide_eq_true (by omega)]
      rfl
    · refine ⟨_, rfl, rfl, _, rfl, iteD (nes (show ("fill" : Str) ≠ "rename" by decide +kernel)) ⟨_, rfl, rfl, _, rfl, iteD (nes (show ("fill" : Str) ≠ "default" by decide +kernel)) ⟨_, rfl, rfl, _, rfl, iteDT rfl ?_⟩⟩⟩
      refine ⟨_, rfl, _, rfl, _, rfl, _, rfl, _, _, rfl, rfl, p, y0, y1, _, rfl, p1, (by omega), (by omega), fun r u0 u1 r0 r1 => ⟨(by show 3 ≤ sizeLine; decide), fun t nt => ?_⟩⟩
      refine k t (.fill n r) u0 u1 _ ?_ rfl ((b1.trans But.mut).trans (But.of (same_new nt))) (same_new nt _ _ upd_same) (sqT_of upd_same)
      show (isNm (.str n) && decide (0 ≤ r)) = true
      rw [hn, decide_eq_true r0]
      rfl
/-! _law_due -/
def sp_due (K : PySem.W.Frag) : Sp := fun vs H Q _ => ∃ (t : Addr) (n : Str) (v : V) (c : Ch), vs = [.str n, .ref t, v] ∧ ChAt K H t c ∧ c.fits = true ∧ valOk v = true ∧ ∀ H', Same H H' → Q (chgV n c v) H'
theorem cut_abv {g j : Int} {way : Str} (hw : isWy way = true) (h : g < j) : (if cutL g way (.int j) = .str "barred" then V.str "missing" else cutL g way (.int j)) = abv g way := by
  have e : cutL g way (.int j) = (if way = "cut" then .int g else if way = "none" then .non else .str "barred") := if_pos h
  rw [e]
  unfold abv
  by_cases h1 : way = "cut"
  · rw [if_pos h1, if_pos h1, if_neg (by intro z; cases z)]
  · rw [if_neg h1, if_neg h1]
    by_cases h2 : way = "none"
    · rw [if_pos h2, if_pos h2, if_neg (by intro z; cases z)]
    · rw [if_neg h2, if_neg h2, if_pos rfl]
theorem cut_scal {g : Int} {way : Str} {v : V} (h : valOk v = true) : scal (cutL g way v) (.str "barred") = true := by
  cases v with
  | non => rfl
  | int j =>
    simp only [cutL]
    repeat (first | rfl | split)
  | _ => cases h
theorem ok_due (T : Tx K mg) : Callee P w K mg base CX0 2 "_law_due" ["_law_name", "_law_change", "_law_value_here"] [] (sp_due K) := by
  have C1 := ok_cut (P := P) (w := w) (base := base) T
  refine mkCallee (fd__law_due T) (mg__law_due T) sc__law_due (fun _ _ _ _ _ _ us hl => match us, hl with | [_, _, _], _ => rfl) (fun vs H Q E h => ?_) (fun cdv A outer s H vs Q E hr h => ?_)
  · obtain ⟨t, n, v, c, rfl, _⟩ := h
    rfl
  · obtain ⟨t, n, v, c, rfl, ht, hf, hv, kk⟩ := h
    have nd := sc__law_due.nd
    refine ⟨_, pss_cons (ps_if (pt_cmpR op_ne (pe_ix ix_tup (pv 1) pe_int (fun _ _ => rfl)) (pv 0) (nomark _)) (pss_one (ps_ret (pv 2))) pss_nil)
      (pss_cons (ps_if (PW.pt (pw_and (pt_cmpR op_eq (pe_ix ix_tup (pv 1) pe_int (fun _ _ => rfl)) pe_str (nomark _)) (pw_and1 (pt_cmpR op_isN (pv 2) pe_non (nomark _))))) (pss_one (ps_ret (pe_ix ix_tup (pv 1) pe_int (fun _ _ => rfl)))) pss_nil)
      (pss_cons (ps_if (pt_cmpR op_eq (pe_ix ix_tup (pv 1) pe_int (fun _ _ => rfl)) pe_str (nomark _))
        (pss_cons (ps_set (i := 3) nd rfl (Or.inl rfl) (pcall C1 hr (pa_cons (pv 2) (pa_cons (pv 1) pa_nil))))
          (pss_one (ps_ret (pe_ifExp (pt_cmpR op_eq (pv 3) pe_str (nomark _)) pe_str (pv 3))))) pss_nil)
      (pss_one (ps_ret (pv 2))))), ?_⟩
    refine ⟨_, rfl, t, _, 1, _, rfl, rfl, ht, c.at1, _, rfl, rfl, _, rfl, ?_⟩
    have k0 := kk H (Same.refl _)
    unfold chgV at kk k0
    by_cases hn : c.name = n
    · rw [if_pos hn] at kk k0
      refine iteNS (by rw [hn]) ?_
      cases c with
      | add n2 g2 d2 =>
        refine ⟨_, rfl, t, _, 0, _, rfl, rfl, ht, rfl, rfl, _, rfl, iteD (nes (show ("add" : Str) ≠ "fill" by decide +kernel)) (iteF ?_)⟩
        exact ⟨_, rfl, t, _, 0, _, rfl, rfl, ht, rfl, rfl, _, rfl, iteD (nes (show ("add" : Str) ≠ "greatest" by decide +kernel)) ⟨_, rfl, k0⟩⟩
      | drop n2 =>
        refine ⟨_, rfl, t, _, 0, _, rfl, rfl, ht, rfl, rfl, _, rfl, iteD (nes (show ("drop" : Str) ≠ "fill" by decide +kernel)) (iteF ?_)⟩
        exact ⟨_, rfl, t, _, 0, _, rfl, rfl, ht, rfl, rfl, _, rfl, iteD (nes (show ("drop" : Str) ≠ "greatest" by decide +kernel)) ⟨_, rfl, k0⟩⟩
      | rename n2 m2 =>
        refine ⟨_, rfl, t, _, 0, _, rfl, rfl, ht, rfl, rfl, _, rfl, iteD (nes (show ("rename" : Str) ≠ "fill" by decide +kernel)) (iteF ?_)⟩
        exact ⟨_, rfl, t, _, 0, _, rfl, rfl, ht, rfl, rfl, _, rfl, iteD (nes (show ("rename" : Str) ≠ "greatest" by decide +kernel)) ⟨_, rfl, k0⟩⟩
      | dflt n2 v2 =>
        refine ⟨_, rfl, t, _, 0, _, rfl, rfl, ht, rfl, rfl, _, rfl, iteD (nes (show ("default" : Str) ≠ "fill" by decide +kernel)) (iteF ?_)⟩
        exact ⟨_, rfl, t, _, 0, _, rfl, rfl, ht, rfl, rfl, _, rfl, iteD (nes (show ("default" : Str) ≠ "greatest" by decide +kernel)) ⟨_, rfl, k0⟩⟩
      | fill n2 i =>
        refine ⟨_, rfl, t, _, 0, _, rfl, rfl, ht, rfl, rfl, _, rfl, iteDT rfl ⟨_, rfl, rfl, _, rfl, ?_⟩⟩
        cases v with
        | non => exact iteDT rfl ⟨_, rfl, t, _, 2, _, rfl, rfl, ht, rfl, k0⟩
        | int j =>
          refine iteD (by intro z; cases z) ?_
          exact ⟨_, rfl, t, _, 0, _, rfl, rfl, ht, rfl, rfl, _, rfl, iteD (nes (show ("fill" : Str) ≠ "greatest" by decide +kernel)) ⟨_, rfl, k0⟩⟩
        | _ => cases hv
      | great n2 g2 way =>
        have hf' : (isNm (.str n2) && (isGr (.int g2) && isWy way)) = true := hf
        rw [Bool.and_eq_true, Bool.and_eq_true] at hf'
        refine ⟨_, rfl, t, _, 0, _, rfl, rfl, ht, rfl, rfl, _, rfl, iteD (nes (show ("greatest" : Str) ≠ "fill" by decide +kernel)) (iteF ?_)⟩
        refine ⟨_, rfl, t, _, 0, _, rfl, rfl, ht, rfl, rfl, _, rfl, iteDT rfl ?_⟩
        refine ⟨_, rfl, _, rfl, t, n2, way, g2, v, rfl, ht, hf'.2.2, hv, fun H1 s1 => ⟨_, rfl, cut_scal hv, _, rfl, ?_⟩⟩
        have k1 := kk H1 s1
        cases v with
        | non => exact iteD (by intro z; cases z) ⟨_, rfl, k1⟩
        | int j =>
          by_cases hj : g2 < j
          · have e : (if g2 < j then abv g2 way else V.int j) = abv g2 way := if_pos hj
            have k2 : Q (abv g2 way) H1 := by
              rw [← e]
              exact k1
            rw [← cut_abv hf'.2.2 hj] at k2
            by_cases hb : cutL g2 way (.int j) = .str "barred"
            · rw [if_pos hb] at k2
              exact iteDT hb k2
            · rw [if_neg hb] at k2
              exact iteD hb ⟨_, rfl, k2⟩
          · have e : (if g2 < j then abv g2 way else V.int j) = V.int j := if_neg hj
            have k2 : Q (.int j) H1 := by
              rw [← e]
              exact k1
            have e2 : cutL g2 way (.int j) = .int j := if_neg hj
            refine iteD (by rw [e2]; intro z; cases z) ⟨_, rfl, ?_⟩
            rw [e2]
            exact k2
        | _ => cases hv
    · rw [if_neg hn] at k0
      exact iteNF (nes hn) ⟨_, rfl, k0⟩
def sp_law (K : PySem.W.Frag) : Sp := fun vs H Q _ => ∃ (a : Addr) (ns : List Int), vs = [.ref a] ∧ SqL K H a (ns.map V.int) ∧ ns.length ≤ 63 ∧ (∀ z ∈ ns, Builtin.Int.intBits z ≤ 1048576) ∧ ∀ H', Q (.bl true) H'
abbrev NL : List Str := ["_law_script", "_law_k", "_law_pool_here", "_law_top", "_law_one", "_law_turn", "_law_change", "_law_value_here"]
theorem ok_law (T : Tx K mg) {fd : FuncData} (F : FunD K "law" "law" (defArgs s_law) (defBody s_law) (defScope s_law) (d_law.dvs K) (d_law.kws K) (He.ga K "law") fd) : FnOk P w K mg base CX0 8 (He.ga K "law") fd ["_law_script"] (sp_law K) := by
  have Cpool := (ok_pool (P := P) (w := w) (base := base) T).up (show 1 ≤ 7 by decide)
  have Cdraw := (ok_draw (P := P) (w := w) (base := base) T).up (show 1 ≤ 7 by decide)
  have Cpick := (ok_pick (P := P) (w := w) (base := base) T).up (show 2 ≤ 7 by decide)
  have Cval := (ok_value (P := P) (w := w) (base := base) T).up (show 3 ≤ 7 by decide)
  have Cch := (ok_draw_change (P := P) (w := w) (base := base) T).up (show 4 ≤ 7 by decide)
  have Cwhy := (ok_why_not (P := P) (w := w) (base := base) T).up (show 6 ≤ 7 by decide)
  have Cchg := (ok_changed_value (P := P) (w := w) (base := base) T).up (show 2 ≤ 7 by decide)
  have Cdue := (ok_due (P := P) (w := w) (base := base) T).up (show 2 ≤ 7 by decide)
  obtain ⟨fdI, GI, FI⟩ := ok_Col_init (P := P) (w := w) (base := base) T
  obtain ⟨dsI, vI, bI⟩ := binds_Col3 T FI
  obtain ⟨fdA, GA, bA⟩ := ok_all_values (P := P) (w := w) (base := base) T
  have gr : mg "range" = none := fr_range T
  have cl := cl_Column T
  refine F.ok (CX := CX0) (N := NL) sc_law (fun vs H Q E h => ?_) (fun cdv A outer s H vs Q E hr h => ?_)
  · obtain ⟨a, ns, rfl, _⟩ := h
    rfl
  suffices hh : ∃ t, PSs (cxOf CX0 P w K mg base NL "law" (defScope s_law) (He.ga K "law") cdv A outer s H E).nox (defBody s_law) t ∧ t { nx := fun _ H' => Q .non H', rt := Q } (start NL vs) H by
    obtain ⟨t, h1, h2⟩ := hh
    exact ⟨t, h1.nox, h2⟩
  obtain ⟨a, ns, rfl, hs, hlen, _, kk⟩ := h
  have nd := sc_law.nd
  have hrI : Room 5 (cxOf CX0 P w K mg base NL "law" (defScope s_law) (He.ga K "law") cdv A outer s H E).nox.A := hr.mono (by decide)
  have hrA : Room 2 (cxOf CX0 P w K mg base NL "law" (defScope s_law) (He.ga K "law") cdv A outer s H E).nox.A := hr.mono (by decide)
  refine ⟨_, pss_cons (ps_for PassesOwn.never rfl (pi_range1 (by rfl) gr (pa_cons (pe_callB (call_max2 rfl) (by rfl) (fr_max T) (by decide +kernel) (pa_cons pe_int (pa_cons (pe_callB (call_min2 rfl) (by rfl) (fr_min T) (by decide +kernel)
        (pa_cons (pe_callB call_len (by rfl) (fr_len T) PySem.boot_len (pa_cons (pv 0) pa_nil)) (pa_cons pe_int pa_nil))) pa_nil))) pa_nil)) (pg_name (i := 1) nd rfl (Or.inl rfl))
      (pss_cons (ps_set (i := 2) nd rfl (Or.inl rfl) (pcall Cpool hr (pa_cons (pv 0) (pa_cons (pv 1) pa_nil))))
      (pss_cons (ps_set (i := 3) nd rfl (Or.inl rfl) (pe_op op_add pe_int (pcall Cdraw hr (pa_cons (pv 2) (pa_cons pe_int pa_nil)))))
      (pss_cons (ps_set (i := 4) nd rfl (Or.inl rfl) (pe_make (mk_Column T) GI hrI (by rfl) (mg_Column T) bI vI pass0 (pa_cons pe_str (pa_cons (pv 3) (pa_cons (pcall Cval hr (pa_cons (pv 2) (pa_cons (pv 3) pa_nil))) pa_nil)))))
      (pss_one (ps_for PassesOwn.never rfl (pi_range1 (by rfl) gr (pa_cons pe_int pa_nil)) (pg_name (i := 5) nd rfl (Or.inl rfl))
        (pss_cons (ps_set (i := 6) nd rfl (Or.inl rfl) (pcall Cch hr (pa_cons (pv 2) (pa_cons (pcall Cpick hr (pa_cons (pv 2) (pa_cons (pe_lst (pa_cons pe_str (pa_cons pe_str (pa_cons pe_str (pa_cons pe_str pa_nil))))) pa_nil))) (pa_cons (pv 3) pa_nil)))))
        (pss_one (ps_if (PW.pt (pw_or (pt_cmpR op_eq (pe_ix ix_tup (pv 6) pe_int (fun _ _ => rfl)) pe_str (nomark _)) (pw_or1 (pt_cmpR op_isN (pcall Cwhy hr (pa_cons (pe_lst (pa_cons (pv 4) pa_nil)) (pa_cons (pv 6) pa_nil))) pe_non (nomark _)))))
          (pss_one (ps_for PassesOwn.never rfl (pi_list (pe_meth0 (pv 4) cl (me_Column_all_values T) GA hrA bA .nil pass0)) (pg_name (i := 7) nd rfl (Or.inl rfl))
            (pss_one (ps_if (pt_cmpR op_ne (pcall Cchg hr (pa_cons (pv 4) (pa_cons (pv 6) (pa_cons (pv 7) pa_nil)))) (pcall Cdue hr (pa_cons pe_str (pa_cons (pv 6) (pa_cons (pv 7) pa_nil)))) (nomark _)) (pss_one (ps_ret pe_bl)) pss_nil)))) pss_nil)))))))))
    (pss_one (ps_ret pe_bl)), ?_⟩
  refine ⟨_, rfl, _, (ns.map V.int).length, rfl, .inl ⟨_, hs, rfl⟩, _, _, rfl, _, _, rfl, _, rfl, ?_, ?_, ?_⟩
  · split <;> (try split) <;> omega
  · split <;> (try split) <;> omega
  generalize hN : (if (if (2 : Int) < (((ns.map V.int).length : Nat) : Int) then (2 : Int) else (((ns.map V.int).length : Nat) : Int)) > 1 then (if (2 : Int) < (((ns.map V.int).length : Nat) : Int) then (2 : Int) else (((ns.map V.int).length : Nat) : Int)) else 1) = nT
  have hT2 : nT ≤ 2 := by
    rw [← hN]
    split <;> (try split) <;> omega
  refine for_range (lo := 0) (n := nT.toNat) (fun i σ H' => Same H H' ∧ ∃ y1 y2 y3 y4 y5 y6 y7 : Option V, σ = [some (.ref a), y1, y2, y3, y4, y5, y6, y7]) ⟨Same.refl _, _, _, _, _, _, _, _, rfl⟩ ?_ ?_
  case refine_2 =>
    rintro σ H' ⟨_, y1, y2, y3, y4, y5, y6, y7, rfl⟩
    exact kk H'
  rintro i σ H0 hi ⟨sH, y1, y2, y3, y4, y5, y6, y7, rfl⟩
  have hk0 : 0 ≤ (0 : Int) + (i : Int) := by omega
  have hk1 : (0 : Int) + (i : Int) ≤ 1000 := by omega
  generalize hkk : (0 : Int) + (i : Int) = kI at hk0 hk1
  refine q_asgX ⟨_, rfl, _, rfl, a, ns, kI, rfl, sH.seq hs, hk0, hk1, fun p H1 z0 z1 np s1 hp => ?_⟩
  refine q_asgX ⟨_, rfl, p, z0, z1, 4, rfl, hp, by decide, by decide, fun r u0 u1 r0 r1 => ⟨_, _, rfl, rfl, ?_⟩⟩
  have h2p : upd H1 p (.lst [V.int u0, V.int u1]) p = some (.lst [V.int u0, V.int u1]) := upd_same
  have s2 : Same H0 (upd H1 p (.lst [V.int u0, V.int u1])) := same_mut s1 np
  generalize upd H1 p (.lst [V.int u0, V.int u1]) = H2 at h2p s2
  have top1 : 1 ≤ (1 + r) := by omega
  have top5 : (1 + r) ≤ 4 := by omega
  refine q_asgX ⟨_, rfl, _, rfl, _, rfl, p, u0, u1, (1 + r), rfl, h2p, by omega, by omega, fun d v0 v1 H3 hd b3 h3p => ?_⟩
  refine fun c dx nc ndx ndc => ?_
  refine ⟨c, dx, "a", (1 + r), 0, d, rfl, upd_same, by decide +kernel, ?_, hd, by decide, fun H4 hc4 k4 => ⟨rfl, ?_⟩⟩
  · show (decide (1 ≤ (1 + r)) && decide ((1 + r) ≤ 99)) = true
    rw [decide_eq_true top1, decide_eq_true (by omega)]
    rfl
  have s34 : Same H3 H4 := fun b o e => k4 b o (ne_of_none e nc) (by rw [upd_ne (ne_of_none e nc), upd_ne (ne_of_none e ndx)]; exact e)
  have s4 : Same H0 H4 := (b3.same s2 np).trans s34
  have h4p := s34 _ _ h3p
  have ncp : c ≠ p := ne_pool h3p nc
  have dok : valOk d = true := by
    cases d with
    | non => rfl
    | int j => rfl
    | _ => cases hd
  -- the turns
  refine ⟨_, rfl, by decide, by decide, ?_⟩
  refine for_range (lo := 0) (n := 30) (fun _ σ H' => Same H0 H' ∧ (∃ w0 w1 : Int, H' p = some (.lst [.int w0, .int w1])) ∧ ColAt K H' c "a" (1 + r) d 0 ∧ ∃ y5 y6 y7 : Option V, σ = [some (.ref a), some (.int kI), some (.ref p), some (.int (1 + r)), some (.ref c), y5, y6, y7]) ⟨s4, ⟨_, _, h4p⟩, hc4, _, _, _, rfl⟩ ?_ ?_
  case refine_2 =>
    rintro σ H' ⟨s', _, _, y5, y6, y7, rfl⟩
    exact ⟨sH.trans s', _, _, _, _, _, _, _, rfl⟩
  rintro j σ H5 hj ⟨s5, ⟨w0, w1, h5p⟩, ⟨dx5, hc5⟩, y5, y6, y7, rfl⟩
  refine q_asgX ⟨_, rfl, _, rfl, (by show 4 ≤ sizeLine; decide), fun l nl => ?_⟩
  refine ⟨p, l, w0, w1, _, rfl, same_new nl _ _ h5p, upd_same, ne_pool h5p nl, (by show 0 < 4; decide), (by show 4 < 1000000; decide), fun x e0 e1 hx => ?_⟩
  have b6 : But p H5 (upd (upd H5 l (.lst [.str "a", .str "a", .str "a", .str "b"])) p (.lst [.int e0, .int e1])) := (But.of (same_new nl)).trans But.mut
  have h6p : upd (upd H5 l (.lst [.str "a", .str "a", .str "a", .str "b"])) p (.lst [.int e0, .int e1]) p = some (.lst [.int e0, .int e1]) := upd_same
  generalize upd (upd H5 l (.lst [.str "a", .str "a", .str "a", .str "b"])) p (.lst [.int e0, .int e1]) = H6 at b6 h6p
  have hx2 : ∃ n : Str, x = .str n ∧ isNm (.str n) = true := by
    simp only [List.mem_cons, List.not_mem_nil, or_false] at hx
    rcases hx with rfl | rfl | rfl | rfl
    · exact ⟨_, rfl, by decide +kernel⟩
    · exact ⟨_, rfl, by decide +kernel⟩
    · exact ⟨_, rfl, by decide +kernel⟩
    · exact ⟨_, rfl, by decide +kernel⟩
  obtain ⟨n, rfl, hn⟩ := hx2
  refine ⟨_, rfl, p, e0, e1, (1 + r), n, rfl, h6p, hn, by omega, by omega, fun t ch f0 f1 H7 hf hcn b7 h7p ht7 => ?_⟩
  have b57 : But p H5 H7 := b6.trans b7
  have s7 : Same H0 H7 := b57.same s5 np
  have hc7 : H7 c = some (.ins (He.ga K "Column") dx5 (colFs "a" (1 + r) d 0)) := b57 _ _ ncp hc5
  -- the values, if it can be
  refine s_whenX (fun H8 => Same H7 H8) ?test ?body ?skip
  case skip => exact fun H8 s8 => ⟨s7.trans s8, ⟨_, _, s8 _ _ h7p⟩, ⟨dx5, s8 _ _ hc7⟩, _, _, _, rfl⟩
  case test =>
    intro R hR
    refine ⟨_, rfl, t, _, 1, _, rfl, rfl, ht7, ch.at1, rfl, _, rfl, ?_⟩
    by_cases hb : ch.name = "b"
    · exact iteDT (by rw [hb]) (hR _ _ (Same.refl _))
    · refine iteD (nes hb) ⟨_, rfl, (by show 1 ≤ sizeLine; decide), fun l2 nl2 => ?_⟩
      have s2' : Same H7 (upd H7 l2 (.lst [.ref c])) := same_new nl2
      refine ⟨_, rfl, l2, t, [c], [⟨"a", 1 + r, d, 0⟩], ch, rfl, .inl (sqL_of upd_same), .cons ⟨dx5, s2' _ _ hc7⟩ .nil, ?_, same_tup s2' ht7, hf, fun H8 s8 => ⟨rfl, _, rfl, hR _ _ (s2'.trans s8)⟩⟩
      intro e he
      rw [List.mem_singleton] at he
      rw [he]
      exact dok
  intro H8 s8
  have hc8 := s8 _ _ hc7
  refine ⟨_, rfl, c, dx5, _, rfl, hc8, ?_, c, "a", 1 + r, 0, d, rfl, ⟨dx5, hc8⟩, by omega, by omega, fun l3 H9 nl3 s9 hl3 => ⟨l3, rfl, ⟨_, sqL_of hl3⟩, ?_⟩⟩
  · have g1 : (("all_values" : Str) == "name") = false := by decide +kernel
    have g2 : (("all_values" : Str) == "greatest") = false := by decide +kernel
    have g3 : (("all_values" : Str) == "default") = false := by decide +kernel
    have g4 : (("all_values" : Str) == "number") = false := by decide +kernel
    unfold colFs
    simp [List.lookup, g1, g2, g3, g4]
  have s89 := s8.trans s9
  have hc9 := s9 _ _ hc8
  refine for_list (xs := valsTo (1 + r)) (fun _ σ H' => Same H9 H' ∧ ∃ y7 : Option V, σ = [some (.ref a), some (.int kI), some (.ref p), some (.int (1 + r)), some (.ref c), some (.int (0 + (j : Int))), some (.ref t), y7]) ⟨Same.refl _, _, rfl⟩ (fun _ σ H' _ h => h.1.seq (sqL_of hl3)) ?_ ?_
  · rintro q v σ H' hv ⟨s', y, rfl⟩
    have hvi := valsTo_in (List.mem_of_getElem? hv)
    have hvo : valOk v = true := by
      cases v with
      | non => rfl
      | int _ => rfl
      | _ => cases hvi
    have sc : scal (chgV "a" ch v) (chgV "a" ch v) = true := by
      have h := chg_scal (n := "a") (c := ch) hvo
      cases hq : chgV "a" ch v <;> rw [hq] at h <;> first | rfl | cases h
    refine ⟨_, rfl, _, rfl, _, rfl, c, t, "a", 1 + r, 0, d, v, ch, rfl, ⟨dx5, s' _ _ hc9⟩, same_tup (s89.trans s') ht7, hvo, ?_⟩
    refine ⟨_, rfl, _, rfl, t, "a", v, ch, rfl, same_tup (s89.trans s') ht7, hf, hvo, fun H10 s10 => ⟨sc, _, rfl, iteNS rfl ⟨s'.trans s10, _, rfl⟩⟩⟩
  · rintro σ H' ⟨s', y, rfl⟩
    exact ⟨(s7.trans s89).trans s', ⟨_, _, s' _ _ (s89 _ _ h7p)⟩, ⟨dx5, s' _ _ hc9⟩, _, _, _, rfl⟩
end
theorem factsR {w : World} {K : PySem.W.Frag} {h : Heap} {mg : Str → Option Value} {f : Addr} (X : K.In h) (G : h.Ns mainGlobals mg) (hfa : mg ("law" : Str) = some (.ref f)) (c : He.SaysD fal fnl K ∧ exl K = true) :
    LawOk PySem.Challenge.rw_editionrows_k05_whole_values_behind_chan w mg CX0 8 63 "_law_script" f K := by
  have T : Tx K mg := ⟨c.1, c.2, h, X, G⟩
  obtain ⟨fd, F⟩ := fd_law T
  have e := hfa.symm.trans (mg_law T)
  cases e
  have b := FunD.bindsA (ps := ["_law_script"]) F fun _ _ _ _ _ _ us hl => match us, hl with | [_], _ => rfl
  exact ⟨fd, sp_law K, fun s v => b s [v] rfl, fun H a ns hl hb _ hS => ⟨a, ns, rfl, hS, hl, hb, fun _ => rfl⟩, fun base _ _ => ok_law T F⟩
end ER
open PySem PySem.W PySem.Calls PyProof.Rows
set_option maxRecDepth 100000 in
set_option maxHeartbeats 8000000 in
theorem PySem.Challenge.cw_editionrows_k05_whole_values_behind_chan_holds : PySem.Challenge.rw_editionrows_k05_whole_values_behind_chan.Holds := by
  w_on; o_law
  refine HandSHeadRun.head_any (r := OpenLaw.row PySem.Challenge.rw_editionrows_k05_whole_values_behind_chan) (q := view (OpenLaw.row PySem.Challenge.rw_editionrows_k05_whole_values_behind_chan).prog [40]) (H := ER.hkR) (ob := ER.obR) (M := 3000) (loose := ((["TableError", "BadPart", "BadChange", "MISSING", "LETTERS", "LONGEST_NAME", "MOST_GREATEST", "is_whole", "is_word", "is_name", "is_greatest", "is_value", "is_within", "values_to", "PARTS", "Column", "column_named", "WAYS", "MOST_COLUMNS", "is_change", "has_parts", "is_single_part", "is_way", "why_not", "hindrance"] : List PySem.Str) ++ (["add_hindrance", "changed_value", "value_above", "_law_pool", "_law_draw", "_law_pick", "_law_value", "_law_cut", "_law_draw_change", "_law_due"] : List PySem.Str))) (d := HandSHeadRun.topDef (OpenLaw.row PySem.Challenge.rw_editionrows_k05_whole_values_behind_chan).prog 40) (kwd := []) ER.obR_eq
    (by kernel_rfl) (fun s => by kernel_rfl) ER.runR (by kernel_rfl) (by kernel_rfl) (by kernel_rfl) (by rfl) (by first | assumption | decide +kernel) (by decide +kernel) ⟨rfl, rfl, rfl, rfl, rfl, by decide +kernel⟩ ?hw ?hc
  case hw => w_witness2
  case hc =>
    refine Evl2.walk_bits (l := PySem.Challenge.rw_editionrows_k05_whole_values_behind_chan) (n := 63) (k := 8) (x := "_law_script") (CX := L2.CX0) rfl (by decide) (by kernel_rfl) ⟨rfl, by decide, by decide⟩ ?F (fun _ _ _ _ z => z)
    intro w mg fa h Y G hmg0
    obtain ⟨K, KX, c⟩ := Y
    have hmg : mg ("law" : PySem.Str) = some (.ref fa) := by
      have e : (HandSHeadRun.topDef (OpenLaw.row PySem.Challenge.rw_editionrows_k05_whole_values_behind_chan).prog 40).name = ("law" : PySem.Str) := by kernel_rfl
      rw [← e]
      exact hmg0
    exact ⟨K, KX, ER.factsR (w := w) KX G hmg c⟩

