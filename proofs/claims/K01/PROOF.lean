import PyProof.Rows.All
import Wide.All
import OpenK.AllK
import Wide.FinOn
import PyProof.EqAt
import PyProof.EqKinds
import PyProof.TupleCall
import KE.KStateDown
import Lean
import HandS.Base
import HandS.Call
import HandS.List
import HandS.Comp
import HandS.Ends
import HandS.Dict
import HandS.Iter
import HandS.More
import HandS.Words
import HandS.WordsList
import HandS.WordsDict
import HandS.Exc
import HandS.WordsExc
import HandS.Defaults
import HandS.Head0
import HandS.Head1
import HandS.Head2
import HandS.HeadEnd
import HandS.HeadHook1
import HandS.HeadHook2
import HandS.EndBits
import HandS.Wide
import HandS.IsInst
import HandS.Style
import HandS.Flow
import HandS.SortInts
import HandS.ExcIs
import HandS.Conv
import HandS.Text
import HandS.Walk
import HandS.MakeKwOnly
import HandS.Codes
import HandS.Zip0
import KE.KDictPairs
import PySem.Challenge.RW_editionrows_k01_values
set_option Elab.async false
set_option linter.all false
set_option maxRecDepth 100000
set_option maxHeartbeats 4000000
/-! What every text of ours begins with: a called def in one word, the head's Hook with one more Bool, the end with the script's bits. -/
namespace Evl2
open PySem PySem.Spec PyProof.Rows L2
/-- a def of the text, with its promise, as a caller takes it -/
structure Callee (P : Program) (w : World) (K : PySem.W.Frag) (mg : Str → Option Value) (base : Heap) (CX : CXT) (k : Nat) (x : Str) (ps : List Str) (dvs : List V) (sp : Sp) : Prop where
  ex : ∃ (fd : FuncData) (ds : List Value), FnOk P w K mg base CX k (He.ga K x) fd ps sp ∧ Binds K fd ps ds ∧ Vals dvs ds
  kp : PySem.W.keepIn K (.ref (He.ga K x)) = true
  g : mg x = some (.ref (He.ga K x))
theorem Callee.up {P : Program} {w : World} {K : PySem.W.Frag} {mg : Str → Option Value} {base : Heap} {CX : CXT} {j k : Nat} {x : Str} {ps : List Str} {dvs : List V} {sp : Sp}
    (C : Callee P w K mg base CX j x ps dvs sp) (h : j ≤ k) : Callee P w K mg base CX k x ps dvs sp := by
  obtain ⟨fd, ds, F, b, v⟩ := C.ex
  exact ⟨⟨fd, ds, F.mono h, b, v⟩, C.kp, C.g⟩
/-- f(e, ..) -/
theorem pcall {X : Cx} {k : Nat} {x : Str} {ps : List Str} {dvs : List V} {sp : Sp} {p pos : Pos} {e : Expr} {es : List Expr} {t : TA} (C : Callee X.prog X.w X.K X.mg X.base CX0 k x ps dvs sp) (hr : Room k X.A) (ha : PA X (e :: es) t) (hg : Gl X x := by rfl)
    (hdb : (x == ("__debug__" : Str)) = false := by decide) (he : starEach (e :: es) X.env = (false, eval e X.env) :: starEach es X.env := by rfl) (hpl : (backTo pos (starEach es X.env)).any (·.1) = false := by rfl) :
    PE X (.Call (.Name x p) (e :: es) [] pos) (tCall sp dvs E0 t) := by
  obtain ⟨fd, ds, F, b, v⟩ := C.ex
  exact pe_call F hr hg C.g C.kp b v pass0 ha hdb he hpl
/-- f() -/
theorem pcall0 {X : Cx} {k : Nat} {x : Str} {ps : List Str} {dvs : List V} {sp : Sp} {p pos : Pos} (C : Callee X.prog X.w X.K X.mg X.base CX0 k x ps dvs sp) (hr : Room k X.A) (hg : Gl X x := by rfl)
    (hdb : (x == ("__debug__" : Str)) = false := by decide) : PE X (.Call (.Name x p) [] [] pos) (tCall sp dvs E0 tNil) := by
  obtain ⟨fd, ds, F, b, v⟩ := C.ex
  exact pe_call0 F hr hg C.g C.kp b v pass0 hdb
/-! ### the head's Hook: the library's facts and one more Bool -/
abbrev AlP : Type := He.AlD × Bool
def obsP (n : Nat) (fa : List He.Fa) (fn : List He.DefD) (ex : PySem.W.Frag → Bool) (g : Addr → Option Obj) : AlP := (He.obsD fa fn (He.frG g (He.asD g n)), ex (He.frG g (He.asD g n)))
def valP (fn : List He.DefD) : AlP := (He.valD fn, true)
def hookP (n : Nat) (fa : List He.Fa) (fn : List He.DefD) (ex : PySem.W.Frag → Bool) : PySem.W.Hook where
  α := AlP
  obs := fun s => obsP n fa fn ex s.heap.get?
  val := fun _ => valP fn
  says := fun _ h => ∃ K : PySem.W.Frag, K.In h ∧ (He.SaysD fa fn K ∧ ex K = true)
  of := fun _ _ e => ⟨_, He.frG_in, congrArg (fun z : AlP => z.1) e, congrArg (fun z : AlP => z.2) e⟩
  keeps := fun _ _ _ ⟨K, hK, c⟩ k => ⟨K, PySem.W.Frag.In.keeps hK k, c⟩
theorem obsP_eq {n : Nat} {fa : List He.Fa} {fn : List He.DefD} {ex : PySem.W.Frag → Bool} {g : Addr → Option Obj} {s : Shared} (h : ∀ a, g a = s.heap.get? a) : obsP n fa fn ex g = (hookP n fa fn ex).obs s := by
  have e : g = s.heap.get? := funext h
  rw [e] <;> rfl
/-- what a law's end wants of its promise at a written part K -/
def LawOk (l : PySem.W.OpenLaw) (w : World) (mg : Str → Option Value) (CX : CXT) (k n : Nat) (x : Str) (fa : Addr) (K : PySem.W.Frag) : Prop :=
  ∃ (fd : FuncData) (sp : Sp), (∀ (s : Shared) (u : Value), BindsTo s fd ⟨[u], []⟩ [(x, u)]) ∧
    (∀ (H : Hp) (a : Addr) (ns : List Int), ns.length ≤ n → (∀ z ∈ ns, Builtin.Int.intBits z ≤ 1048576) → Only H → SqL K H a (ns.map V.int) → sp [.ref a] H (fun v _ => v = .bl true) fun _ _ _ => False) ∧
    ∀ base : Heap, K.In base → base.Ns mainGlobals mg → FnOk l.prog w K mg base CX k fa fd [x] sp
theorem walk_bits {l : PySem.W.OpenLaw} {n k : Nat} {q : Program} {loose : List Str} {XP : (Str → Option Value) → Heap → Prop} {YP : World → Heap → Prop} {d : DefRec} {CX : CXT} {x : Str} (hn : l.most = some n) (hn2 : n ≤ sizeLine) (hdf : d.params.defaults = []) (hr : Room k callerA)
    (F : ∀ (w : World) (mg : Str → Option Value) (fa : Addr) (h : Heap), YP w h → h.Ns mainGlobals mg → mg d.name = some (.ref fa) → ∃ K : PySem.W.Frag, K.In h ∧ LawOk l w mg CX k n x fa K)
    (hCX : ∀ (H : Hp) (s : Shared) (e : Value) (s' : Shared), CX [] H s (fun _ _ _ => False) e s' → False) : PySem.W.WalkO q loose XP YP l.row.toRowW d [] (fun f vs => PySem.call f vs) := by
  refine Att.attach_callB hn hdf fun w s₀ s₁ mg mb fa o pm cd doc a vs ns G Y ho hd hcd hmg hobj hints hlen hbits hg => ?_
  obtain ⟨K, KX, fd, sp, hb, hsp, hF⟩ := F w mg fa _ Y G.T.g hmg
  exact law_call KX G.T.g G.T.b G.T.builtins G.T.nolimit hg hobj hints (Nat.le_trans hlen hn2) hr hF hb (fun H hO hS => hsp H a ns hlen hbits hO hS) fun H e s' => hCX H s₁ e s'
end Evl2
/-! ### more words of ours -/
namespace Evl2
open PySem PySem.Spec PyProof.Rows L2
section
variable {P : Program} {w : World} {K : PySem.W.Frag} {mg : Str → Option Value} {base : Heap}
/-- a def without defaults, as a callee -/
theorem mkCallee {x : Str} {params : Arguments} {body : List Stmt} {scope : Scope} {N ps : List Str} {k : Nat} {sp : Sp} (hF : ∃ fd, FunD K x x params body scope [] [] (He.ga K x) fd) (hg : mg x = some (.ref (He.ga K x))) (S : FnScope N ps scope)
    (hb : ∀ (kV doc pm : Value) (an : Option Addr) (cdv ct : Value) (us : List Value), us.length = ps.length → bindArgs (PySem.W.fnOf x x params body scope .none kV doc pm an cdv ct) ⟨us, []⟩ = pure (ps.zip us))
    (len : ∀ vs H Q E, sp vs H Q E → vs.length = ps.length)
    (hbody : ∀ (cdv : Value) (A : Around) (outer : List Env) (s : Shared) (H : Hp) (vs : List V) (Q : VK) (E : XK), Room k (A.deeper (envOfC x scope s.heap.objs.size (He.ga K x) cdv)) → sp vs H Q E →
      ∃ t, PSs (cxOf CX0 P w K mg base N x scope (He.ga K x) cdv A outer s H E).nox body t ∧ t { nx := fun _ H' => Q .non H', rt := Q } (start N vs) H) : Callee P w K mg base CX0 (k + 1) x ps [] sp := by
  obtain ⟨fd, F⟩ := hF
  refine ⟨⟨fd, [], F.ok S len fun cdv A outer s H vs Q E hr h => ?_, F.bindsN hb, .nil⟩, F.kp, hg⟩
  obtain ⟨t, h1, h2⟩ := hbody cdv A outer s H vs Q E hr h
  exact ⟨t, h1.nox, h2⟩
end
theorem s_whenX {t : TT} {tu : TS} {D : Ends} {σ : L2.St} {H : Hp} (P : Hp → Prop) (test : ∀ R : Bool → Hp → Prop, (∀ b H1, P H1 → R b H1) → t σ H R) (body : ∀ H1, P H1 → tu D σ H1) (skip : ∀ H1, P H1 → D.nx σ H1) : tIfS t tu tNext D σ H :=
  test _ fun b H1 p => by
    cases b
    · exact iteF (skip H1 p)
    · exact iteT (body H1 p)
theorem nxt {D : Ends} {σ : L2.St} {H : Hp} (h : D.nx σ H) : tNext D σ H := h
theorem iteD {c A B : Prop} [Decidable c] (hc : ¬ c) (h : B) : if decide c = true then A else B := by
  rw [decide_eq_false hc]
  exact iteF h
theorem iteDT {c A B : Prop} [Decidable c] (hc : c) (h : A) : if decide c = true then A else B := by
  rw [decide_eq_true hc]
  exact iteT h
theorem iteNF {c A B : Prop} [Decidable c] (hc : ¬ c) (h : A) : if (!decide c) = true then A else B := by
  rw [decide_eq_false hc]
  exact iteT h
theorem nes {a b : Str} (h : a ≠ b) : ¬ V.str a = V.str b := fun z => h (V.str.inj z)
theorem nei {a b : Int} (h : a ≠ b) : ¬ V.int a = V.int b := fun z => h (V.int.inj z)
/-- an own error class that is kept -/
def excB (K : PySem.W.Frag) (x : Str) : Bool := PySem.W.keepIn K (.ref (He.ga K x))
/-- what isinstance asks of an own class -/
def insB (K : PySem.W.Frag) (x : Str) : Bool := decide (PySem.W.findIn K (.ref (He.ga K x)) "__class__" = some (some (.builtin "object.__class__"))) && (decide (PySem.W.specialIn K (.builtin "object.__class__") "__get__" = some (some (.builtin "getset_descriptor.__get__"))) &&
  (decide (PySem.W.takesIn K (.builtin "object.__class__") = some true) && decide (PySem.W.mroIn K (He.ga K x) (.type "object") = some true)))
theorem insC_of {K : PySem.W.Frag} {x : Str} (h : insB K x = true) (c : Cls K (He.ga K x)) : C8.InsC K (He.ga K x) := by
  unfold insB at h
  rw [Bool.and_eq_true, Bool.and_eq_true, Bool.and_eq_true] at h
  exact ⟨c, of_decide_eq_true h.1, of_decide_eq_true h.2.1, of_decide_eq_true h.2.2.1, of_decide_eq_true h.2.2.2, if_pos (beq_self_eq_true _)⟩
/-- the empty tuple of the written part -/
def emptyTupB (K : PySem.W.Frag) (a : Addr) : Bool := match K.lookup a with
  | some ⟨.type c, _, .seq its _, _⟩ => decide (c = "tuple") && decide (its.size = 0)
  | _ => false
/-- a pool of draws: a list of two ints -/
def Pl (H : Hp) (a : Addr) : Prop := ∃ z0 z1 : Int, H a = some (.lst [.int z0, .int z1])
/-- all but what stands at a is as it was, at a stands a pool -/
def PlEx (a : Addr) (H H' : Hp) : Prop := (∀ b o, b ≠ a → H b = some o → H' b = some o) ∧ Pl H' a
theorem mod_lo {i j : Int} (h : 0 < j) : 0 ≤ i.fmod j := Int.fmod_nonneg_of_pos i h
theorem mod_hi {i j : Int} (h : 0 < j) : i.fmod j < j := Int.fmod_lt_of_pos i h
/-- values of built-in types: is it an int (no bool)? -/
def isI : V → Bool
  | .int _ => true
  | _ => false
theorem kit_whole {K : PySem.W.Frag} {H : Hp} {x : V} {t : String} (ty : TyX K H x (.type t)) : ∃ a b : Bool, kitB t "int" = some a ∧ kitB t "bool" = some b ∧ (a && !b) = isI x := by
  cases ty with
  | base h => cases h <;> first | exact ⟨true, false, by decide +kernel, by decide +kernel, rfl⟩ | exact ⟨true, true, by decide +kernel, by decide +kernel, rfl⟩ | exact ⟨false, false, by decide +kernel, by decide +kernel, rfl⟩
  | _ => exact ⟨false, false, by decide +kernel, by decide +kernel, rfl⟩
/-! ### heaps -/
theorem same_new {H : Hp} {p : Addr} {o : HO} (h : H p = none) : Same H (upd H p o) := fun a u e => by
  rw [upd_ne (ne_of_none e h)]
  exact e
theorem same_mut {H H' : Hp} {p : Addr} {o : HO} (e : Same H H') (h : H p = none) : Same H (upd H' p o) := fun a u ha => by
  rw [upd_ne (ne_of_none ha h)]
  exact e a u ha
theorem same_tup {K : PySem.W.Frag} {H H' : Hp} {a : Addr} {xs : List V} (e : Same H H') (h : SqT K H a xs) : SqT K H' a xs := by
  rcases h with (h | ⟨o, h⟩) | h
  · exact .inl (.inl (e _ _ h))
  · exact .inl (.inr ⟨o, e _ _ h⟩)
  · exact .inr h
theorem sqL_of {K : PySem.W.Frag} {H : Hp} {a : Addr} {xs : List V} (h : H a = some (.lst xs)) : SqL K H a xs := .inl (.inl h)
theorem sqT_of {K : PySem.W.Frag} {H : Hp} {a : Addr} {xs : List V} (h : H a = some (.tup xs)) : SqT K H a xs := .inl (.inl h)
/-! ### comprehensions that change nothing -/
section
variable {K : PySem.W.Frag} {σ : L2.St} {H : Hp} {tl te : TE} {ta : TA} {tt : TT} {j : Nat} {vs : List Nat} {Q : VK} {xs : List V}
theorem lc_one {f : V → Bool} {v : V → V} {H' : Hp} {D : Addr} {zs : List V} {x : V} (hD : H D = none) (hz : zs.length ≤ 100000) {σ2 : L2.St} (p : Same H H' ∧ H' D = some (.lst zs))
    (ht : ∀ R : Bool → Hp → Prop, (∀ H2, Same H' H2 → R (f x) H2) → tt σ2 H' R) (he : f x = true → ∀ H', Same H H' → ∀ R : VK, (∀ H2, Same H' H2 → R (v x) H2) → te σ2 H' R) {N : Hp → Prop}
    (hN : ∀ H', Same H H' → H' D = some (.lst (zs ++ ([x].filter f).map v)) → N H') :
    tt σ2 H' fun b H3 => if b = true then te σ2 H3 fun y H4 => ∃ acc, H4 D = some (.lst acc) ∧ acc.length < sizeLine ∧ N (upd H4 D (.lst (acc ++ [y]))) else N H3 := by
  refine ht _ fun H3 e3 => ?_
  cases hf : f x with
  | true =>
    refine iteT (he hf H3 (p.1.trans e3) _ fun H4 e4 => ⟨zs, e4 D _ (e3 D _ p.2), Nat.lt_of_le_of_lt hz (by decide), hN _ (same_mut ((p.1.trans e3).trans e4) hD) ?_⟩)
    rw [upd_same, List.filter_cons, if_pos hf]
    rfl
  | false =>
    refine iteF (hN _ (p.1.trans e3) ?_)
    rw [List.filter_cons, if_neg (by rw [hf]; decide)]
    show H3 D = some (.lst (zs ++ []))
    rw [List.append_nil]
    exact e3 D _ p.2
theorem take_one (f : V → Bool) (v : V → V) {i : Nat} {x : V} (h : xs[i]? = some x) : ((xs.take i).filter f).map v ++ ([x].filter f).map v = ((xs.take (i + 1)).filter f).map v := by
  rw [List.take_add_one, h, List.filter_append, List.map_append]
  rfl
theorem take_len (f : V → Bool) (v : V → V) (i : Nat) : (((xs.take i).filter f).map v).length ≤ xs.length := by
  rw [List.length_map]
  refine Nat.le_trans (List.length_filter_le _ _) ?_
  rw [List.length_take]
  exact Nat.min_le_right _ _
theorem tlc_L (f : V → Bool) (v : V → V) (htl : ∀ R : VK, (∀ a H1, Same H H1 → SqL K H1 a xs → R (.ref a) H1) → tl σ H R) (hz : xs.length ≤ 100000) (hw : ∀ x, wipe ((wipe σ vs).set j (some x)) vs = wipe σ vs)
    (ht : ∀ x ∈ xs, ∀ H', Same H H' → ∀ R : Bool → Hp → Prop, (∀ H2, Same H' H2 → R (f x) H2) → tt ((wipe σ vs).set j (some x)) H' R)
    (he : ∀ x ∈ xs, f x = true → ∀ H', Same H H' → ∀ R : VK, (∀ H2, Same H' H2 → R (v x) H2) → te ((wipe σ vs).set j (some x)) H' R)
    (k : ∀ D H', H D = none → Same H H' → H' D = some (.lst ((xs.filter f).map v)) → Q (.ref D) H') : tLc (iList K tl) (gName j) tt te vs σ H Q := by
  refine htl _ fun a H1 e1 hs => ⟨a, rfl, ⟨xs, hs⟩, fun D hD => ?_⟩
  have key : ∀ i x H', xs[i]? = some x → (Same H1 H' ∧ H' D = some (.lst (((xs.take i).filter f).map v))) → gName j x (wipe σ vs) H' fun σ2 H2 => wipe σ2 vs = wipe σ vs ∧ tt σ2 H2 fun b H3 =>
      if b = true then te σ2 H3 fun y H4 => ∃ acc, H4 D = some (.lst acc) ∧ acc.length < sizeLine ∧ (Same H1 (upd H4 D (.lst (acc ++ [y]))) ∧ (upd H4 D (.lst (acc ++ [y]))) D = some (.lst (((xs.take (i + 1)).filter f).map v)))
      else (Same H1 H3 ∧ H3 D = some (.lst (((xs.take (i + 1)).filter f).map v))) := fun i x H' hi p =>
    ⟨hw x, lc_one (N := fun H' => Same H1 H' ∧ H' D = some (.lst (((xs.take (i + 1)).filter f).map v))) (f := f) (v := v) (x := x) hD (Nat.le_trans (take_len f v i) hz) p (ht x (List.mem_of_getElem? hi) H' (e1.trans p.1))
      (fun hf H2 e2 => he x (List.mem_of_getElem? hi) hf H2 (e1.trans e2)) fun H2 s2 d2 => ⟨s2, by rw [d2, take_one f v hi]⟩⟩
  refine lc_list (xs := xs) (fun i H' => Same H1 H' ∧ H' D = some (.lst (((xs.take i).filter f).map v))) ⟨same_new hD, ?_⟩ (fun i H' _ p => p.1.seq hs) key fun H' p => k D H' (e1.free hD) (e1.trans p.1) ?_
  · exact upd_same
  · have q := p.2
    rw [List.take_length] at q
    exact q
theorem tlc_T (f : V → Bool) (v : V → V) (htl : ∀ R : VK, (∀ a H1, Same H H1 → SqT K H1 a xs → R (.ref a) H1) → tl σ H R) (hz : xs.length ≤ 100000) (hw : ∀ x, wipe ((wipe σ vs).set j (some x)) vs = wipe σ vs)
    (ht : ∀ x ∈ xs, ∀ H', Same H H' → ∀ R : Bool → Hp → Prop, (∀ H2, Same H' H2 → R (f x) H2) → tt ((wipe σ vs).set j (some x)) H' R)
    (he : ∀ x ∈ xs, f x = true → ∀ H', Same H H' → ∀ R : VK, (∀ H2, Same H' H2 → R (v x) H2) → te ((wipe σ vs).set j (some x)) H' R)
    (k : ∀ D H', H D = none → Same H H' → H' D = some (.lst ((xs.filter f).map v)) → Q (.ref D) H') : tLc (iTup K tl) (gName j) tt te vs σ H Q := by
  refine htl _ fun a H1 e1 hs => ⟨a, rfl, ⟨xs, hs⟩, fun D hD => ?_⟩
  have key : ∀ i x H', xs[i]? = some x → (Same H1 H' ∧ H' D = some (.lst (((xs.take i).filter f).map v))) → gName j x (wipe σ vs) H' fun σ2 H2 => wipe σ2 vs = wipe σ vs ∧ tt σ2 H2 fun b H3 =>
      if b = true then te σ2 H3 fun y H4 => ∃ acc, H4 D = some (.lst acc) ∧ acc.length < sizeLine ∧ (Same H1 (upd H4 D (.lst (acc ++ [y]))) ∧ (upd H4 D (.lst (acc ++ [y]))) D = some (.lst (((xs.take (i + 1)).filter f).map v)))
      else (Same H1 H3 ∧ H3 D = some (.lst (((xs.take (i + 1)).filter f).map v))) := fun i x H' hi p =>
    ⟨hw x, lc_one (N := fun H' => Same H1 H' ∧ H' D = some (.lst (((xs.take (i + 1)).filter f).map v))) (f := f) (v := v) (x := x) hD (Nat.le_trans (take_len f v i) hz) p (ht x (List.mem_of_getElem? hi) H' (e1.trans p.1))
      (fun hf H2 e2 => he x (List.mem_of_getElem? hi) hf H2 (e1.trans e2)) fun H2 s2 d2 => ⟨s2, by rw [d2, take_one f v hi]⟩⟩
  refine lc_tup (xs := xs) (fun i H' => Same H1 H' ∧ H' D = some (.lst (((xs.take i).filter f).map v))) ⟨same_new hD, ?_⟩ (fun i H' _ p => same_tup p.1 hs) key fun H' p => k D H' (e1.free hD) (e1.trans p.1) ?_
  · exact upd_same
  · have q := p.2
    rw [List.take_length] at q
    exact q
theorem rg_at {n i : Nat} (h : i < n) : ((List.range n).map fun m : Nat => V.int (m : Int))[i]? = some (V.int (i : Int)) := by
  rw [List.getElem?_map, List.getElem?_range h]
  rfl
theorem tlc_R (f : V → Bool) (v : V → V) (n : Int) (hta : ∀ R : List V → Hp → Prop, (∀ H1, Same H H1 → R [.int n] H1) → ta σ H R) (hz : n ≤ 100000) (hw : ∀ x, wipe ((wipe σ vs).set j (some x)) vs = wipe σ vs)
    (ht : ∀ m : Nat, (m : Int) < n → ∀ H', Same H H' → ∀ R : Bool → Hp → Prop, (∀ H2, Same H' H2 → R (f (.int m)) H2) → tt ((wipe σ vs).set j (some (.int m))) H' R)
    (he : ∀ m : Nat, (m : Int) < n → f (.int m) = true → ∀ H', Same H H' → ∀ R : VK, (∀ H2, Same H' H2 → R (v (.int m)) H2) → te ((wipe σ vs).set j (some (.int m))) H' R) (hlo : -100000 ≤ n)
    (k : ∀ D H', H D = none → Same H H' → H' D = some (.lst ((((List.range n.toNat).map fun m : Nat => V.int (m : Int)).filter f).map v)) → Q (.ref D) H') : tLc (iRng1 ta) (gName j) tt te vs σ H Q := by
  refine hta _ fun H1 e1 => ⟨n, rfl, by omega, by omega, fun D hD => ?_⟩
  have key : ∀ i H', i < n.toNat → (Same H1 H' ∧ H' D = some (.lst (((((List.range n.toNat).map fun m : Nat => V.int (m : Int)).take i).filter f).map v))) → gName j (.int ((0 : Int) + (i : Int))) (wipe σ vs) H' fun σ2 H2 => wipe σ2 vs = wipe σ vs ∧ tt σ2 H2 fun b H3 =>
      if b = true then te σ2 H3 fun y H4 => ∃ acc, H4 D = some (.lst acc) ∧ acc.length < sizeLine ∧ (Same H1 (upd H4 D (.lst (acc ++ [y]))) ∧ (upd H4 D (.lst (acc ++ [y]))) D = some (.lst (((((List.range n.toNat).map fun m : Nat => V.int (m : Int)).take (i + 1)).filter f).map v)))
      else (Same H1 H3 ∧ H3 D = some (.lst (((((List.range n.toNat).map fun m : Nat => V.int (m : Int)).take (i + 1)).filter f).map v))) := fun i H' hi p => by
    have e0 : (0 : Int) + (i : Int) = (i : Int) := Int.zero_add _
    rw [e0]
    have hin : (i : Int) < n := by omega
    have hl := take_len (xs := (List.range n.toNat).map fun m : Nat => V.int (m : Int)) f v i
    have hl2 : ((List.range n.toNat).map fun m : Nat => V.int (m : Int)).length = n.toNat := by simp
    exact ⟨hw _, lc_one (N := fun H' => Same H1 H' ∧ H' D = some (.lst (((((List.range n.toNat).map fun m : Nat => V.int (m : Int)).take (i + 1)).filter f).map v))) (f := f) (v := v) (x := .int i) hD (by omega) p (ht i hin H' (e1.trans p.1))
      (fun hf H2 e2 => he i hin hf H2 (e1.trans e2)) fun H2 s2 d2 => ⟨s2, by rw [d2, take_one f v (rg_at hi)]⟩⟩
  refine lc_range (lo := 0) (n := n.toNat) (fun i H' => Same H1 H' ∧ H' D = some (.lst (((((List.range n.toNat).map fun m : Nat => V.int (m : Int)).take i).filter f).map v))) ⟨same_new hD, ?_⟩ key fun H' p => k D H' (e1.free hD) (e1.trans p.1) ?_
  · exact upd_same
  · have q := p.2
    rw [List.take_of_length_le (by simp)] at q
    exact q
end
section
variable {K : PySem.W.Frag} {σ : L2.St} {H : Hp} {te ta : TE} {tt : TT} {U : TS} {D : Ends}
/-- if t: l.append(e), told by the truth of t -/
theorem q_ifapp {l : Addr} {zs : List V} {v : V} (b : Bool) (ht : ∀ R : Bool → Hp → Prop, (∀ H2, Same H H2 → R b H2) → tt σ H R) (hl : H l = some (.lst zs)) (hz : zs.length ≤ 100000) (ha : ∀ (H : Hp) (R : VK), R (.ref l) H → ta σ H R) (he : ∀ (H : Hp) (R : VK), R v H → te σ H R)
    (k : ∀ H', (∀ c o, c ≠ l → H c = some o → H' c = some o) → H' l = some (.lst (zs ++ if b = true then [v] else [])) → U D σ H') : tSeq (tIfS tt (tDrop (tBM K "list" rAppend ta (tCons te tNil))) tNext) U D σ H := by
  refine ht _ fun H2 s2 => ?_
  cases b with
  | true =>
    refine iteT (ha H2 _ ⟨.inl ⟨rfl, _, sqL_of (s2 _ _ hl)⟩, he _ _ ⟨l, _, _, rfl, rfl, s2 _ _ hl, Nat.lt_of_le_of_lt hz (by decide), k _ (fun c o hc e => ?_) upd_same⟩⟩)
    rw [upd_ne hc]
    exact s2 _ _ e
  | false =>
    refine iteF (k H2 (fun c o _ e => s2 _ _ e) ?_)
    show H2 l = some (.lst (zs ++ []))
    rw [List.append_nil]
    exact s2 _ _ hl
end
section
variable {σ : L2.St} {H : Hp} {te : TE} {U : TS} {D : Ends}
/-- x = e, then the rest -/
theorem q_asgX {i : Nat} (h : te σ H fun x H1 => U D (σ.set i (some x)) H1) : tSeq (tAsg te (gName i)) U D σ H := h
/-- x = e, e some int -/
theorem q_asgI {i : Nat} (h : ∀ R : VK, (∀ z : Int, R (.int z) H) → te σ H R) (k : ∀ z : Int, U D (σ.set i (some (.int z))) H) : tSeq (tAsg te (gName i)) U D σ H := h _ k
end
section
variable {K : PySem.W.Frag} {σ : L2.St} {H : Hp} {X : TE} {r : List V → Hp → VK → Prop} {g : TG} {tb U : TS} {D : Ends}
/-- a test by a call of one argument, a for over such a call: the argument first -/
theorem pl_b1 {R : Bool → Hp → Prop} (h : X σ H fun v H1 => r [v] H1 fun x H2 => ∃ c, x = .bl c ∧ R c H2) : tB (tCB r (tCons X tNil)) σ H R := h
theorem pl_r1 {r : List V → Hp → VK → Prop} (h : X σ H fun v H1 => r [v] H1 D.rt) : tRet (tCB r (tCons X tNil)) D σ H := h
theorem pl_forL1 (h : X σ H fun v H1 => r [v] H1 fun x H2 => ∃ a, x = .ref a ∧ (∃ xs, SqL K H2 a xs) ∧ tFor (fun _ H R => R (Itl K a) H) g tb { D with nx := U D } σ H2) : tSeq (tFor (iList K (tCB r (tCons X tNil))) g tb) U D σ H := h
end
/-! ### == of lists of flat values -/
def okV : V → Bool
  | .non => true
  | .bl _ => true
  | .int _ => true
  | .str x => PyData.canLay0 (.str x)
  | _ => false
def dtV : V → PyData
  | .bl b => .bool b
  | .int i => .int i
  | .str x => .str x
  | _ => .none
theorem dp_ok {K : PySem.W.Frag} {H : Hp} : ∀ {x : V}, okV x = true → Dp K H x (dtV x)
  | .non, _ => .non
  | .bl b, _ => .bl b
  | .int i, _ => .int i
  | .str x, _ => .str x
  | .byt _, h => by cases h
  | .flt _, h => by cases h
  | .ref _, h => by cases h
  | .ty _, h => by cases h
theorem dps_ok {K : PySem.W.Frag} {H : Hp} : ∀ {xs : List V}, xs.all okV = true → DpAll K H xs (xs.map dtV)
  | [], _ => .nil
  | x :: r, h => by
    rw [List.all_cons, Bool.and_eq_true] at h
    exact .cons (dp_ok h.1) (dps_ok h.2)
theorem lay_ok : ∀ {x : V}, okV x = true → PyData.canLay0 (dtV x) = true ∧ PyData.depth (dtV x) = 0
  | .non, _ => ⟨rfl, rfl⟩
  | .bl b, _ => ⟨rfl, rfl⟩
  | .int i, _ => ⟨rfl, rfl⟩
  | .str x, h => ⟨h, rfl⟩
  | .byt _, h => by cases h
  | .flt _, h => by cases h
  | .ref _, h => by cases h
  | .ty _, h => by cases h
theorem lays_ok : ∀ {xs : List V}, xs.all okV = true → PyData.canLayAll0 (xs.map dtV) = true ∧ PyData.depthAll (xs.map dtV) = 0
  | [], _ => ⟨rfl, rfl⟩
  | x :: r, h => by
    rw [List.all_cons, Bool.and_eq_true] at h
    obtain ⟨h1, h2⟩ := lay_ok h.1
    obtain ⟨h3, h4⟩ := lays_ok h.2
    constructor
    · show (PyData.canLay0 (dtV x) && PyData.canLayAll0 (r.map dtV)) = true
      rw [h1, h3]
      rfl
    · show max (PyData.depth (dtV x)) (PyData.depthAll (r.map dtV)) = 0
      rw [h2, h4]
      rfl
theorem shaped_ok {xs : List V} (h : xs.all okV = true) : SeqAt.shaped (.list (xs.map dtV)) = true := by
  obtain ⟨h1, h2⟩ := lays_ok h
  unfold SeqAt.shaped
  rw [Bool.and_eq_true]
  refine ⟨h1, decide_eq_true ?_⟩
  show PyData.depthAll (xs.map dtV) + 1 ≤ 64
  rw [h2]
  decide
theorem eqv_ok : ∀ {x : V}, okV x = true → PyData.eqv (dtV x) (dtV x) = true
  | .non, _ => rfl
  | .bl b, _ => by simp [dtV, PyData.eqv]
  | .int i, _ => by simp [dtV, PyData.eqv]
  | .str x, _ => by simp [dtV, PyData.eqv]
  | .byt _, h => by cases h
  | .flt _, h => by cases h
  | .ref _, h => by cases h
  | .ty _, h => by cases h
theorem eqvs_ok : ∀ {xs : List V}, xs.all okV = true → PyData.eqvAll (xs.map dtV) (xs.map dtV) = true
  | [], _ => rfl
  | x :: r, h => by
    rw [List.all_cons, Bool.and_eq_true] at h
    show (PyData.eqv (dtV x) (dtV x) && PyData.eqvAll (r.map dtV) (r.map dtV)) = true
    rw [eqv_ok h.1, eqvs_ok h.2]
    rfl
theorem ne_lists {K : PySem.W.Frag} {H : Hp} {p q : Addr} {xs : List V} {Q : VK} (hp : SqL K H p xs) (hq : SqL K H q xs) (hf : xs.all okV = true) (k : Q (.bl false) H) : rNeD K (.ref p) (.ref q) H Q := by
  refine ⟨.list (xs.map dtV), .list (xs.map dtV), .lst hp (dps_ok hf), .lst hq (dps_ok hf), shaped_ok hf, shaped_ok hf, ?_⟩
  have e : PyData.eqv (.list (xs.map dtV)) (.list (xs.map dtV)) = true := eqvs_ok hf
  rw [e]
  exact k
/-- a value of a built-in type that is no object -/
theorem ty_ok {K : PySem.W.Frag} {H : Hp} : ∀ {x : V}, okV x = true → ∃ t, TyX K H x (.type t)
  | .non, _ => ⟨_, .base .non⟩
  | .bl b, _ => ⟨_, .base (.bl b)⟩
  | .int i, _ => ⟨_, .base (.int i)⟩
  | .str x, _ => ⟨_, .base (.str x)⟩
  | .byt _, h => by cases h
  | .flt _, h => by cases h
  | .ref _, h => by cases h
  | .ty _, h => by cases h
theorem tys_ok {K : PySem.W.Frag} : ∀ {x : V}, okV x = true → ∃ t, ∀ H : Hp, TyX K H x (.type t)
  | .non, _ => ⟨_, fun _ => .base .non⟩
  | .bl b, _ => ⟨_, fun _ => .base (.bl b)⟩
  | .int i, _ => ⟨_, fun _ => .base (.int i)⟩
  | .str x, _ => ⟨_, fun _ => .base (.str x)⟩
  | .byt _, h => by cases h
  | .flt _, h => by cases h
  | .ref _, h => by cases h
  | .ty _, h => by cases h
section
variable {K : PySem.W.Frag} {σ : L2.St} {H : Hp} {tl te : TE} {j : Nat} {vs : List Nat} {Q : VK}
/-- [e for c in a text] -/
theorem tlc_S (v : Nat → V) (z : Str) (htl : ∀ R : VK, R (.str z) H → tl σ H R) (hz : z.cps.size ≤ 100000) (hw : ∀ x, wipe ((wipe σ vs).set j (some x)) vs = wipe σ vs)
    (he : ∀ c ∈ z.cps.toList, ∀ H', Same H H' → ∀ R : VK, (∀ H2, Same H' H2 → R (v c) H2) → te ((wipe σ vs).set j (some (.str ⟨#[c]⟩))) H' R)
    (k : ∀ D H', H D = none → Same H H' → H' D = some (.lst (z.cps.toList.map v)) → Q (.ref D) H') : tLc (iStr tl) (gName j) tYes te vs σ H Q := by
  refine htl _ ⟨z, rfl, fun D hD => ?_⟩
  refine lc_it walk_str (fun i H' => Same H H' ∧ H' D = some (.lst ((z.cps.toList.take i).map v))) ⟨same_new hD, upd_same⟩ (fun _ _ _ _ => trivial) ?_ fun H' p => k D H' hD p.1 ?_
  · rintro i x H' H2 hi p ⟨rfl, c, hc, rfl⟩
    have hc2 : z.cps.toList[i]? = some c := by rw [Array.getElem?_toList]; exact hc
    have hm : c ∈ z.cps.toList := List.mem_of_getElem? hc2
    refine ⟨hw _, he c hm _ p.1 _ fun H3 s3 => ⟨_, s3 _ _ p.2, ?_, same_mut (p.1.trans s3) hD, ?_⟩⟩
    · rw [List.length_map, List.length_take]
      have e : sizeLine = 16777216 := by decide
      omega
    · rw [upd_same, List.take_add_one, hc2, List.map_append]
      rfl
  · have q := p.2
    rw [List.take_of_length_le (by simp)] at q
    exact q
end
/-- None and the ints from 0 to g -/
def valsTo (g : Int) : List V := .non :: rgV 0 (g + 1)
/-- all that is no list is as it was -/
def KeepNL (H H' : Hp) : Prop := ∀ b o, (∀ zs, o ≠ HO.lst zs) → H b = some o → H' b = some o
theorem KeepNL.of {H H' : Hp} (s : Same H H') : KeepNL H H' := fun b o _ e => s b o e
theorem KeepNL.lst {H : Hp} {D : Addr} {zs ys : List V} (h : H D = some (.lst zs)) : KeepNL H (upd H D (.lst ys)) := fun b o n e => by
  rw [upd_ne (fun q => by rw [q, h] at e; exact n zs (Option.some.inj e).symm)]
  exact e
section
variable {K : PySem.W.Frag} {σ : L2.St} {H : Hp} {tl te : TE} {j : Nat} {vs : List Nat} {Q : VK} {xs : List V}
/-- [e for x in xs], e making new objects (no lists among what is told of them) -/
theorem tlc_G (Rl : Nat → V → Hp → Prop) (mono : ∀ i y H H', KeepNL H H' → Rl i y H → Rl i y H') (htl : ∀ R : VK, (∀ a H1, Same H H1 → SqL K H1 a xs → R (.ref a) H1) → tl σ H R) (hz : xs.length ≤ 100000) (hw : ∀ x, wipe ((wipe σ vs).set j (some x)) vs = wipe σ vs)
    (he : ∀ i x, xs[i]? = some x → ∀ H', Same H H' → ∀ R : VK, (∀ y H2, Same H' H2 → Rl i y H2 → R y H2) → te ((wipe σ vs).set j (some x)) H' R)
    (k : ∀ D ys H', H D = none → Same H H' → H' D = some (.lst ys) → ys.length = xs.length → (∀ i y, ys[i]? = some y → Rl i y H') → Q (.ref D) H') : tLc (iList K tl) (gName j) tYes te vs σ H Q := by
  refine htl _ fun a H1 e1 hs => ⟨a, rfl, ⟨xs, hs⟩, fun D hD => ?_⟩
  refine lc_list (xs := xs) (fun i H' => Same H1 H' ∧ ∃ ys, H' D = some (.lst ys) ∧ ys.length = i ∧ ∀ m y, ys[m]? = some y → Rl m y H') ⟨same_new hD, [], upd_same, rfl, fun m y h => by simp at h⟩ (fun i H' _ p => p.1.seq hs) ?_ ?_
  · rintro i x H' hx ⟨s', ys, hys, hl, hr⟩
    have hi : i < xs.length := (List.getElem?_eq_some_iff.mp hx).1
    refine ⟨hw x, he i x hx H' (e1.trans s') _ fun y H2 s2 hy => ⟨ys, s2 _ _ hys, ?_, same_mut (s'.trans s2) hD, ys ++ [y], upd_same, by rw [List.length_append, hl]; rfl, fun m z hm => ?_⟩⟩
    · have e : sizeLine = 16777216 := by decide
      omega
    · have kp : KeepNL H2 (upd H2 D (.lst (ys ++ [y]))) := KeepNL.lst (s2 _ _ hys)
      by_cases hm2 : m < ys.length
      · rw [List.getElem?_append_left hm2] at hm
        exact mono m z _ _ kp (mono m z _ _ (KeepNL.of s2) (hr m z hm))
      · have hm3 : m = ys.length := by
          have h := (List.getElem?_eq_some_iff.mp hm).1
          rw [List.length_append] at h
          have : [y].length = 1 := rfl
          omega
        subst hm3
        rw [List.getElem?_append_right (Nat.le_refl _), Nat.sub_self] at hm
        obtain rfl : y = z := Option.some.inj hm
        rw [hl]
        exact mono i y _ _ kp hy
  · rintro H' ⟨s', ys, hys, hl, hr⟩
    exact k D ys H' (e1.free hD) (e1.trans s') hys hl hr
end
end Evl2
/-! ### own methods called by the language: len(x), v in x, x == y, of instances with a __dict__ -/
namespace Evl2
open PySem PySem.Spec PyProof.Rows L2
section
variable {X : Cx} {CX : CXT} {k : Nat} {f C : Addr} {fd : FuncData} {ps : List Str} {sp : Sp} {E : XK}
/-- an own function called at a place below the running body -/
theorem runA {A : Around} {pins : List (Addr × Obj)} {σ : L2.St} {H : Hp} {s : Shared} {Q : VK} {us : List Value} {vs : List V} (F : FnOk X.prog X.w X.K X.mg X.base CX k f fd ps sp) (hr : Room k A) (e0 : Env0 X.prog X.w X.K X.mg X.base A X.stack s H) (hb : Binds X.K fd ps []) (hx : Passes CX X E)
    (I : Inv X pins σ H s) (r : Vals vs us) (h : sp vs H Q E) : wpAny (model X.prog X.w) A (call (.ref f) us) (EP X pins σ Q) X.xe s := by
  have hl : us.length = ps.length := by rw [← r.length]; exact F.len _ _ _ _ h
  refine wpAny_call (codeAny_mono (F.run A X.stack s H ⟨us, []⟩ us vs Q E hr e0 (by
    have := hb s us I.kIn (by simpa using hl)
    simpa using this) r h) fun r s' hq => ?_)
  cases r with
  | error e => exact hx pins σ H s e s' I hq
  | ok fl =>
    cases fl with
    | ret u => exact I.after hq
    | next => exact False.elim hq
    | brk => exact False.elim hq
    | cont => exact False.elim hq
def rLenOwn (C : Addr) (sp : Sp) (E : XK) : List V → Hp → VK → Prop := fun xs H Q => ∃ a dx fs, xs = [V.ref a] ∧ H a = some (.ins C dx fs) ∧ sp [.ref a] H (fun z H' => ∃ i : Int, z = .int i ∧ (0 ≤ i ∧ i < 2 ^ 63) ∧ Q (.int i) H') E
/-- len(x), x with an own __len__ -/
theorem call_lenOwn (F : FnOk X.prog X.w X.K X.mg X.base CX k f fd ps sp) (hm : Meth X.K C "__len__" f) (hr : Room (k + 1) X.A) (hb : Binds X.K fd ps []) (hx : Passes CX X E) : CallR X (.builtin "len") (rLenOwn C sp E) := by
  intro pins s σ H xs us Q I r h
  obtain ⟨a, dx, fs, rfl, ha, q⟩ := h
  obtain ⟨u, rfl, ru⟩ := r.one
  cases (show u = Value.ref a from ru)
  obtain ⟨mA, J, _⟩ := ins_get I.hok ha
  obtain ⟨od, J, _⟩ := J.look
  obtain ⟨m, hF⟩ := I.fr
  refine PySem.W.len_K hF I.ok.mod.kin J hm.at_ hm.fn ?_
  refine wpAny_mono (runA (us := [.ref a]) (vs := [.ref a]) F hr.in1 I.env0.in1 hb hx I (.cons rfl .nil) q) (fun v s' z => ?_) fun _ _ e => e
  obtain ⟨z', H', I', rz, i, ei, hi, qz⟩ := z
  subst ei
  obtain ⟨t, e⟩ := (show ∃ t, v = Value.int i t from rz)
  cases e
  exact ⟨hi, .int i, H', I'.tok _, ⟨_, rfl⟩, qz⟩
def rInOwn (C : Addr) (sp : Sp) (E : XK) : R2 := fun x y H Q => ∃ a dx fs, y = .ref a ∧ H a = some (.ins C dx fs) ∧ sp [y, x] H (fun z H' => ∃ b, z = .bl b ∧ Q (.bl b) H') E
/-- v in x, x with an own __contains__ that answers a Bool -/
theorem op_inOwn (F : FnOk X.prog X.w X.K X.mg X.base CX k f fd ps sp) (hm : Meth X.K C "__contains__" f) (hr : Room k X.A) (hb : Binds X.K fd ps []) (hx : Passes CX X E) : OpR X (compareOp .In) (rInOwn C sp E) := by
  intro pins s σ H x y v u Q I rx ry h
  obtain ⟨a, dx, fs, rfl, ha, q⟩ := h
  cases (show u = Value.ref a from ry)
  obtain ⟨mA, J, _⟩ := ins_get I.hok ha
  obtain ⟨od, J, _⟩ := J.look
  obtain ⟨m, hF⟩ := I.fr
  refine PySem.W.in_K hF I.ok.mod.kin J hm.at_ hm.fn ?_
  refine wpAny_mono (runA (us := [.ref a, v]) (vs := [.ref a, x]) F hr I.env0 hb hx I (.cons rfl (.cons rx .nil)) q) (fun r s' z => ?_) fun _ _ e => e
  obtain ⟨z', H', I', rz, b, eb, qz⟩ := z
  subst eb
  cases (show r = Value.bool b from rz)
  exact wpAny_truthy_bool ⟨.bl b, H', I', rfl, qz⟩
def rEqOwn (C : Addr) (sp : Sp) (E : XK) : R2 := fun x y H Q => ∃ a dx fs b dy gs, x = .ref a ∧ y = .ref b ∧ H a = some (.ins C dx fs) ∧ H b = some (.ins C dy gs) ∧ sp [x, y] H (fun z H' => ∃ c, z = .bl c ∧ Q (.bl c) H') E
/-- x == y, both of a class with an own __eq__ that answers a Bool -/
theorem op_eqOwn (F : FnOk X.prog X.w X.K X.mg X.base CX k f fd ps sp) (hm : Meth X.K C "__eq__" f) (hr : Room k X.A) (hb : Binds X.K fd ps []) (hx : Passes CX X E) : OpR X (compareOp .Eq) (rEqOwn C sp E) := by
  intro pins s σ H x y v u Q I rx ry h
  obtain ⟨a, dx, fs, b, dy, gs, rfl, rfl, ha, hb', q⟩ := h
  cases (show v = Value.ref a from rx)
  cases (show u = Value.ref b from ry)
  obtain ⟨mA, J, _⟩ := ins_get I.hok ha
  obtain ⟨od, J, _⟩ := J.look
  obtain ⟨mB, J', _⟩ := ins_get I.hok hb'
  obtain ⟨od', J', _⟩ := J'.look
  obtain ⟨m, hF⟩ := I.fr
  show wpAny (model X.prog X.w) X.A (richCompare .Eq (.ref a) (.ref b)) (EP X pins σ Q) X.xe s
  refine PySem.W.cmp_K (op := .Eq) (tb := .ref C) hr.units0 hF I.ok.mod.kin J J'.type (by simp [PySem.W.notFirst]) hm.at_ hm.fn ?_
  refine wpAny_mono (runA (us := [.ref a, .ref b]) (vs := [.ref a, .ref b]) F hr I.env0 hb hx I (.cons rfl (.cons rfl .nil)) q) (fun r s' z => ?_) fun _ _ e => e
  obtain ⟨z', H', I', rz, c, ec, qz⟩ := z
  subst ec
  cases (show r = Value.bool c from rz)
  exact ⟨.bl c, H', I', rfl, qz⟩
end
end Evl2
/-! ### comprehensions over enumerate -/
namespace Evl2
open PySem PySem.Spec PyProof.Rows L2
section
variable {K : PySem.W.Frag} {σ : L2.St} {H : Hp} {ta : TA} {te : TE} {j1 j2 : Nat} {vs : List Nat} {Q : VK} {xs : List V}
/-- [e for i, x in enumerate(xs)], e making new objects (no lists among what is told of them) -/
theorem tlc_GE (Rl : Nat → V → Hp → Prop) (mono : ∀ i y H H', KeepNL H H' → Rl i y H → Rl i y H') (hta : ∀ R : List V → Hp → Prop, (∀ a H1, Same H H1 → SqL K H1 a xs → R [.ref a] H1) → ta σ H R) (hz : xs.length ≤ 100000) (hw : ∀ x y, wipe (((wipe σ vs).set j1 (some x)).set j2 (some y)) vs = wipe σ vs)
    (he : ∀ i x, xs[i]? = some x → ∀ H', Same H H' → ∀ R : VK, (∀ y H2, Same H' H2 → Rl i y H2 → R y H2) → te (((wipe σ vs).set j1 (some (.int (i : Nat)))).set j2 (some x)) H' R)
    (k : ∀ D ys H', H D = none → Same H H' → H' D = some (.lst ys) → ys.length = xs.length → (∀ i y, ys[i]? = some y → Rl i y H') → Q (.ref D) H') : tLc (iEnum K ta) (gTup K 2 (gCons (gName j1) (gCons (gName j2) gNil))) tYes te vs σ H Q := by
  refine hta _ fun a H1 e1 hs => ⟨a, xs, rfl, hs, fun D hD => ?_⟩
  refine lc_it walk_enum (fun i H' => Same H1 H' ∧ ∃ ys, H' D = some (.lst ys) ∧ ys.length = i ∧ ∀ m y, ys[m]? = some y → Rl m y H') ⟨same_new hD, [], upd_same, rfl, fun m y h => by simp at h⟩ (fun i H' _ p => p.1.seq hs) ?_ ?_
  · rintro i v H2 H3 hi ⟨s', ys, hys, hl, hr⟩ ⟨T, x', y', rfl, nT, rfl, ex, ey⟩
    obtain rfl := Option.some.inj ex
    have ey : xs[i]? = some y' := ey
    have st : Same H2 (upd H2 T (.tup [.int (i : Nat), y'])) := same_new nT
    refine ⟨T, _, rfl, sqT_of upd_same, rfl, _, _, rfl, _, _, rfl, rfl, hw _ _, he i y' ey _ (e1.trans (s'.trans st)) _ fun y H4 s2 hy => ⟨ys, s2 _ _ (st _ _ hys), ?_, same_mut (s'.trans (st.trans s2)) hD, ys ++ [y], upd_same, by rw [List.length_append, hl]; rfl, fun m z hm => ?_⟩⟩
    · have e : sizeLine = 16777216 := by decide
      omega
    · have kp : KeepNL H4 (upd H4 D (.lst (ys ++ [y]))) := KeepNL.lst (s2 _ _ (st _ _ hys))
      by_cases hm2 : m < ys.length
      · rw [List.getElem?_append_left hm2] at hm
        exact mono m z _ _ kp (mono m z _ _ (KeepNL.of (st.trans s2)) (hr m z hm))
      · have hm3 : m = ys.length := by
          have h := (List.getElem?_eq_some_iff.mp hm).1
          rw [List.length_append] at h
          have : [y].length = 1 := rfl
          omega
        subst hm3
        rw [List.getElem?_append_right (Nat.le_refl _), Nat.sub_self] at hm
        obtain rfl : y = z := Option.some.inj hm
        rw [hl]
        exact mono i y _ _ kp hy
  · rintro H' ⟨s', ys, hys, hl, hr⟩
    exact k D ys H' (e1.free hD) (e1.trans s') hys hl hr
end
end Evl2

namespace ER
open PySem PySem.Spec PyProof.Rows L2 Evl2
def top (i : Nat) : Stmt := PySem.Challenge.pw_editionrows_k01_values.main.body.getD i (.Pass ⟨0, 0, 0, 0⟩)
abbrev s_is_whole : Stmt := top 2
theorem sc_is_whole : FnScope ["value"] ["value"] (defScope s_is_whole) := ⟨rfl, rfl, rfl, by decide +kernel, rfl, by decide +kernel, by decide +kernel⟩
def d_is_whole : He.DefD := ⟨("is_whole", none), "is_whole", "is_whole", defArgs s_is_whole, defBody s_is_whole, defScope s_is_whole, [], []⟩
abbrev s_is_word : Stmt := top 3
theorem sc_is_word : FnScope ["value", "words"] ["value", "words"] (defScope s_is_word) := ⟨rfl, rfl, rfl, by decide +kernel, rfl, by decide +kernel, by decide +kernel⟩
def d_is_word : He.DefD := ⟨("is_word", none), "is_word", "is_word", defArgs s_is_word, defBody s_is_word, defScope s_is_word, [], []⟩
abbrev s_is_value : Stmt := top 4
theorem sc_is_value : FnScope ["value"] ["value"] (defScope s_is_value) := ⟨rfl, rfl, rfl, by decide +kernel, rfl, by decide +kernel, by decide +kernel⟩
def d_is_value : He.DefD := ⟨("is_value", none), "is_value", "is_value", defArgs s_is_value, defBody s_is_value, defScope s_is_value, [], []⟩
abbrev s_is_within : Stmt := top 5
theorem sc_is_within : FnScope ["value", "greatest"] ["value", "greatest"] (defScope s_is_within) := ⟨rfl, rfl, rfl, by decide +kernel, rfl, by decide +kernel, by decide +kernel⟩
def d_is_within : He.DefD := ⟨("is_within", none), "is_within", "is_within", defArgs s_is_within, defBody s_is_within, defScope s_is_within, [], []⟩
abbrev s_is_missing : Stmt := top 6
theorem sc_is_missing : FnScope ["value"] ["value"] (defScope s_is_missing) := ⟨rfl, rfl, rfl, by decide +kernel, rfl, by decide +kernel, by decide +kernel⟩
def d_is_missing : He.DefD := ⟨("is_missing", none), "is_missing", "is_missing", defArgs s_is_missing, defBody s_is_missing, defScope s_is_missing, [], []⟩
abbrev s_values_to : Stmt := top 7
theorem sc_values_to : FnScope ["greatest"] ["greatest"] (defScope s_values_to) := ⟨rfl, rfl, rfl, by decide +kernel, rfl, by decide +kernel, by decide +kernel⟩
def d_values_to : He.DefD := ⟨("values_to", none), "values_to", "values_to", defArgs s_values_to, defBody s_values_to, defScope s_values_to, [], []⟩
abbrev s_rank : Stmt := top 8
theorem sc_rank : FnScope ["value"] ["value"] (defScope s_rank) := ⟨rfl, rfl, rfl, by decide +kernel, rfl, by decide +kernel, by decide +kernel⟩
def d_rank : He.DefD := ⟨("rank", none), "rank", "rank", defArgs s_rank, defBody s_rank, defScope s_rank, [], []⟩
abbrev s_in_order : Stmt := top 9
theorem sc_in_order : FnScope ["values", "found", "number", "value"] ["values"] (defScope s_in_order) := ⟨rfl, rfl, rfl, by decide +kernel, rfl, by decide +kernel, by decide +kernel⟩
def d_in_order : He.DefD := ⟨("in_order", none), "in_order", "in_order", defArgs s_in_order, defBody s_in_order, defScope s_in_order, [], []⟩
abbrev s__law_pool : Stmt := top 11
theorem sc__law_pool : FnScope ["_law_script", "_law_k", "_law_size", "_law_mixed"] ["_law_script", "_law_k"] (defScope s__law_pool) := ⟨rfl, rfl, rfl, by decide +kernel, rfl, by decide +kernel, by decide +kernel⟩
def d__law_pool : He.DefD := ⟨("_law_pool", none), "_law_pool", "_law_pool", defArgs s__law_pool, defBody s__law_pool, defScope s__law_pool, [], []⟩
abbrev s__law_draw : Stmt := top 12
theorem sc__law_draw : FnScope ["_law_pool_here", "_law_many", "_law_found"] ["_law_pool_here", "_law_many"] (defScope s__law_draw) := ⟨rfl, rfl, rfl, by decide +kernel, rfl, by decide +kernel, by decide +kernel⟩
def d__law_draw : He.DefD := ⟨("_law_draw", none), "_law_draw", "_law_draw", defArgs s__law_draw, defBody s__law_draw, defScope s__law_draw, [], []⟩
abbrev s__law_pick : Stmt := top 13
theorem sc__law_pick : FnScope ["_law_pool_here", "_law_row"] ["_law_pool_here", "_law_row"] (defScope s__law_pick) := ⟨rfl, rfl, rfl, by decide +kernel, rfl, by decide +kernel, by decide +kernel⟩
def d__law_pick : He.DefD := ⟨("_law_pick", none), "_law_pick", "_law_pick", defArgs s__law_pick, defBody s__law_pick, defScope s__law_pick, [], []⟩
abbrev s_law : Stmt := top 14
theorem sc_law : FnScope ["_law_script", "_law_k", "_law_pool_here", "_law_top", "_law_value", "_law_odd", "_law_some", "_law_due", "_law_turn", "_law_number"] ["_law_script"] (defScope s_law) := ⟨rfl, rfl, rfl, by decide +kernel, rfl, by decide +kernel, by decide +kernel⟩
def d_law : He.DefD := ⟨("law", none), "law", "law", defArgs s_law, defBody s_law, defScope s_law, [], []⟩
def fnl : List He.DefD := [d_is_whole, d_is_word, d_is_value, d_is_within, d_is_missing, d_values_to, d_rank, d_in_order, d__law_pool, d__law_draw, d__law_pick, d_law]
def fal : List He.Fa := [.glo "is_whole", .glo "is_word", .glo "is_value", .glo "is_within", .glo "is_missing", .glo "values_to", .glo "rank", .glo "in_order", .glo "_law_pool", .glo "_law_draw", .glo "_law_pick", .glo "law", .str "MISSING" "missing", .free "isinstance", .free "int", .free "bool", .free "str", .free "list", .free "range", .free "any", .free "sorted", .free "len", .free "max", .free "min", .free "tuple"]
def exl (K : PySem.W.Frag) : Bool := [].all id
structure Tx (K : PySem.W.Frag) (mg : Str → Option Value) : Prop where
  c : He.SaysD fal fnl K
  e : exl K = true
  h : ∃ h : Heap, K.In h ∧ h.Ns mainGlobals mg
section
variable {K : PySem.W.Frag} {mg : Str → Option Value}
theorem mg_is_whole (T : Tx K mg) : mg "is_whole" = some (.ref (He.ga K "is_whole")) := by
  obtain ⟨h, X, G⟩ := T.h
  exact He.glo_ok X G (T.c.fact 0 rfl)
theorem mg_is_word (T : Tx K mg) : mg "is_word" = some (.ref (He.ga K "is_word")) := by
  obtain ⟨h, X, G⟩ := T.h
  exact He.glo_ok X G (T.c.fact 1 rfl)
theorem mg_is_value (T : Tx K mg) : mg "is_value" = some (.ref (He.ga K "is_value")) := by
  obtain ⟨h, X, G⟩ := T.h
  exact He.glo_ok X G (T.c.fact 2 rfl)
theorem mg_is_within (T : Tx K mg) : mg "is_within" = some (.ref (He.ga K "is_within")) := by
  obtain ⟨h, X, G⟩ := T.h
  exact He.glo_ok X G (T.c.fact 3 rfl)
theorem mg_is_missing (T : Tx K mg) : mg "is_missing" = some (.ref (He.ga K "is_missing")) := by
  obtain ⟨h, X, G⟩ := T.h
  exact He.glo_ok X G (T.c.fact 4 rfl)
theorem mg_values_to (T : Tx K mg) : mg "values_to" = some (.ref (He.ga K "values_to")) := by
  obtain ⟨h, X, G⟩ := T.h
  exact He.glo_ok X G (T.c.fact 5 rfl)
theorem mg_rank (T : Tx K mg) : mg "rank" = some (.ref (He.ga K "rank")) := by
  obtain ⟨h, X, G⟩ := T.h
  exact He.glo_ok X G (T.c.fact 6 rfl)
theorem mg_in_order (T : Tx K mg) : mg "in_order" = some (.ref (He.ga K "in_order")) := by
  obtain ⟨h, X, G⟩ := T.h
  exact He.glo_ok X G (T.c.fact 7 rfl)
theorem mg__law_pool (T : Tx K mg) : mg "_law_pool" = some (.ref (He.ga K "_law_pool")) := by
  obtain ⟨h, X, G⟩ := T.h
  exact He.glo_ok X G (T.c.fact 8 rfl)
theorem mg__law_draw (T : Tx K mg) : mg "_law_draw" = some (.ref (He.ga K "_law_draw")) := by
  obtain ⟨h, X, G⟩ := T.h
  exact He.glo_ok X G (T.c.fact 9 rfl)
theorem mg__law_pick (T : Tx K mg) : mg "_law_pick" = some (.ref (He.ga K "_law_pick")) := by
  obtain ⟨h, X, G⟩ := T.h
  exact He.glo_ok X G (T.c.fact 10 rfl)
theorem mg_law (T : Tx K mg) : mg "law" = some (.ref (He.ga K "law")) := by
  obtain ⟨h, X, G⟩ := T.h
  exact He.glo_ok X G (T.c.fact 11 rfl)
theorem ms_MISSING (T : Tx K mg) : ∃ t, mg "MISSING" = some (.str "missing" t) := by
  obtain ⟨h, X, G⟩ := T.h
  exact He.str_ok X G (T.c.fact 12 rfl)
theorem fr_isinstance (T : Tx K mg) : mg "isinstance" = none := by
  obtain ⟨h, X, G⟩ := T.h
  exact He.free_ok X G (T.c.fact 13 rfl)
theorem fr_int (T : Tx K mg) : mg "int" = none := by
  obtain ⟨h, X, G⟩ := T.h
  exact He.free_ok X G (T.c.fact 14 rfl)
theorem fr_bool (T : Tx K mg) : mg "bool" = none := by
  obtain ⟨h, X, G⟩ := T.h
  exact He.free_ok X G (T.c.fact 15 rfl)
theorem fr_str (T : Tx K mg) : mg "str" = none := by
  obtain ⟨h, X, G⟩ := T.h
  exact He.free_ok X G (T.c.fact 16 rfl)
theorem fr_list (T : Tx K mg) : mg "list" = none := by
  obtain ⟨h, X, G⟩ := T.h
  exact He.free_ok X G (T.c.fact 17 rfl)
theorem fr_range (T : Tx K mg) : mg "range" = none := by
  obtain ⟨h, X, G⟩ := T.h
  exact He.free_ok X G (T.c.fact 18 rfl)
theorem fr_any (T : Tx K mg) : mg "any" = none := by
  obtain ⟨h, X, G⟩ := T.h
  exact He.free_ok X G (T.c.fact 19 rfl)
theorem fr_sorted (T : Tx K mg) : mg "sorted" = none := by
  obtain ⟨h, X, G⟩ := T.h
  exact He.free_ok X G (T.c.fact 20 rfl)
theorem fr_len (T : Tx K mg) : mg "len" = none := by
  obtain ⟨h, X, G⟩ := T.h
  exact He.free_ok X G (T.c.fact 21 rfl)
theorem fr_max (T : Tx K mg) : mg "max" = none := by
  obtain ⟨h, X, G⟩ := T.h
  exact He.free_ok X G (T.c.fact 22 rfl)
theorem fr_min (T : Tx K mg) : mg "min" = none := by
  obtain ⟨h, X, G⟩ := T.h
  exact He.free_ok X G (T.c.fact 23 rfl)
theorem fr_tuple (T : Tx K mg) : mg "tuple" = none := by
  obtain ⟨h, X, G⟩ := T.h
  exact He.free_ok X G (T.c.fact 24 rfl)
theorem fd_is_whole (T : Tx K mg) : ∃ fd, FunD K "is_whole" "is_whole" (defArgs s_is_whole) (defBody s_is_whole) (defScope s_is_whole) (d_is_whole.dvs K) (d_is_whole.kws K) (He.ga K "is_whole") fd := T.c.def_ 0 (d := d_is_whole) rfl
theorem fd_is_word (T : Tx K mg) : ∃ fd, FunD K "is_word" "is_word" (defArgs s_is_word) (defBody s_is_word) (defScope s_is_word) (d_is_word.dvs K) (d_is_word.kws K) (He.ga K "is_word") fd := T.c.def_ 1 (d := d_is_word) rfl
theorem fd_is_value (T : Tx K mg) : ∃ fd, FunD K "is_value" "is_value" (defArgs s_is_value) (defBody s_is_value) (defScope s_is_value) (d_is_value.dvs K) (d_is_value.kws K) (He.ga K "is_value") fd := T.c.def_ 2 (d := d_is_value) rfl
theorem fd_is_within (T : Tx K mg) : ∃ fd, FunD K "is_within" "is_within" (defArgs s_is_within) (defBody s_is_within) (defScope s_is_within) (d_is_within.dvs K) (d_is_within.kws K) (He.ga K "is_within") fd := T.c.def_ 3 (d := d_is_within) rfl
theorem fd_is_missing (T : Tx K mg) : ∃ fd, FunD K "is_missing" "is_missing" (defArgs s_is_missing) (defBody s_is_missing) (defScope s_is_missing) (d_is_missing.dvs K) (d_is_missing.kws K) (He.ga K "is_missing") fd := T.c.def_ 4 (d := d_is_missing) rfl
theorem fd_values_to (T : Tx K mg) : ∃ fd, FunD K "values_to" "values_to" (defArgs s_values_to) (defBody s_values_to) (defScope s_values_to) (d_values_to.dvs K) (d_values_to.kws K) (He.ga K "values_to") fd := T.c.def_ 5 (d := d_values_to) rfl
theorem fd_rank (T : Tx K mg) : ∃ fd, FunD K "rank" "rank" (defArgs s_rank) (defBody s_rank) (defScope s_rank) (d_rank.dvs K) (d_rank.kws K) (He.ga K "rank") fd := T.c.def_ 6 (d := d_rank) rfl
theorem fd_in_order (T : Tx K mg) : ∃ fd, FunD K "in_order" "in_order" (defArgs s_in_order) (defBody s_in_order) (defScope s_in_order) (d_in_order.dvs K) (d_in_order.kws K) (He.ga K "in_order") fd := T.c.def_ 7 (d := d_in_order) rfl
theorem fd__law_pool (T : Tx K mg) : ∃ fd, FunD K "_law_pool" "_law_pool" (defArgs s__law_pool) (defBody s__law_pool) (defScope s__law_pool) (d__law_pool.dvs K) (d__law_pool.kws K) (He.ga K "_law_pool") fd := T.c.def_ 8 (d := d__law_pool) rfl
theorem fd__law_draw (T : Tx K mg) : ∃ fd, FunD K "_law_draw" "_law_draw" (defArgs s__law_draw) (defBody s__law_draw) (defScope s__law_draw) (d__law_draw.dvs K) (d__law_draw.kws K) (He.ga K "_law_draw") fd := T.c.def_ 9 (d := d__law_draw) rfl
theorem fd__law_pick (T : Tx K mg) : ∃ fd, FunD K "_law_pick" "_law_pick" (defArgs s__law_pick) (defBody s__law_pick) (defScope s__law_pick) (d__law_pick.dvs K) (d__law_pick.kws K) (He.ga K "_law_pick") fd := T.c.def_ 10 (d := d__law_pick) rfl
theorem fd_law (T : Tx K mg) : ∃ fd, FunD K "law" "law" (defArgs s_law) (defBody s_law) (defScope s_law) (d_law.dvs K) (d_law.kws K) (He.ga K "law") fd := T.c.def_ 11 (d := d_law) rfl
end
/-! ### the head and the end -/
abbrev RowR : PySem.W.OpenRow := PySem.W.OpenLaw.row PySem.Challenge.rw_editionrows_k01_values
abbrev hkR : PySem.W.Hook := hookP 5 fal fnl exl
def obR (s : PySem.W.SharedT) : AlP := obsP 5 fal fnl exl (HandSHeadRun.getT s)
theorem obR_eq (s : PySem.W.SharedT) : obR s = hkR.obs s.abs := obsP_eq (HandSHeadRun.getT_eq s)
theorem runR (w : World) : HandSHeadRun.RunEq RowR (PySem.W.view RowR.prog [14]) hkR obR 600 ((["MISSING", "is_whole", "is_word", "is_value", "is_within", "is_missing", "values_to", "rank", "in_order", "_law_pool", "_law_draw", "_law_pick"] : List PySem.Str)) w := by
  intro os
  kernel_rfl
section
variable {P : Program} {w : World} {K : PySem.W.Frag} {mg : Str → Option Value} {base : Heap}
/-! is_whole -/
def sp_is_whole (K : PySem.W.Frag) : Sp := fun vs H Q _ => ∃ (x : V) (t : String), vs = [x] ∧ TyX K H x (.type t) ∧ Q (.bl (isI x)) H
theorem ok_is_whole (T : Tx K mg) : Callee P w K mg base CX0 1 "is_whole" ["value"] [] (sp_is_whole K) := by
  refine mkCallee (fd_is_whole T) (mg_is_whole T) sc_is_whole (fun _ _ _ _ _ _ us hl => match us, hl with | [_], _ => rfl) (fun vs H Q E h => ?_) (fun cdv A outer s H vs Q E hr h => ?_)
  · obtain ⟨x, t, rfl, _⟩ := h
    rfl
  · obtain ⟨x, t, rfl, ty, k⟩ := h
    obtain ⟨ba, bb, e1, e2, e3⟩ := kit_whole ty
    refine ⟨_, pss_one (ps_ret (pe_and (pe_callB call_isi (by rfl) (fr_isinstance T) (by decide +kernel) (pa_cons (pv 0) (pa_cons (pe_bltn (v := .ty "int") (by rfl) (fr_int T) (by decide +kernel) rfl) pa_nil)))
      (pe_one (pe_not (pe_callB call_isi (by rfl) (fr_isinstance T) (by decide +kernel) (pa_cons (pv 0) (pa_cons (pe_bltn (v := .ty "bool") (by rfl) (fr_bool T) (by decide +kernel) rfl) pa_nil))))))), ?_⟩
    refine ⟨x, rfl, x, .ty "int", _, _, ba, rfl, .ty "int", ty, kit_ty e1, ba, rfl, ?_⟩
    cases ba with
    | false =>
      refine iteF ?_
      rw [← e3] at k
      exact k
    | true =>
      refine iteT ⟨x, rfl, x, .ty "bool", _, _, bb, rfl, .ty "bool", ty, kit_ty e2, bb, rfl, ?_⟩
      rw [← e3] at k
      exact k
/-! is_word, of any value and a tuple of words -/
def wordV (x : V) (xs : List V) : Bool := match x with
  | .str z => inV (.str z) xs
  | _ => false
theorem kit_strW {K : PySem.W.Frag} {H : Hp} {x : V} {t : String} (ty : TyX K H x (.type t)) : ∃ a : Bool, kitB t "str" = some a ∧ ((a = true ∧ ∃ z, x = .str z) ∨ (a = false ∧ ∀ xs, wordV x xs = false)) := by
  cases ty with
  | base h =>
    cases h with
    | str z => exact ⟨true, by decide +kernel, .inl ⟨rfl, z, rfl⟩⟩
    | _ => exact ⟨false, by decide +kernel, .inr ⟨rfl, fun _ => rfl⟩⟩
  | _ => exact ⟨false, by decide +kernel, .inr ⟨rfl, fun _ => rfl⟩⟩
def sp_is_word (K : PySem.W.Frag) : Sp := fun vs H Q _ => ∃ (x : V) (t : String) (p : Addr) (xs : List V), vs = [x, .ref p] ∧ TyX K H x (.type t) ∧ SqT K H p xs ∧ xs.all flatV = true ∧ Q (.bl (wordV x xs)) H
theorem ok_is_word (T : Tx K mg) : Callee P w K mg base CX0 1 "is_word" ["value", "words"] [] (sp_is_word K) := by
  refine mkCallee (fd_is_word T) (mg_is_word T) sc_is_word (fun _ _ _ _ _ _ us hl => match us, hl with | [_, _], _ => rfl) (fun vs H Q E h => ?_) (fun cdv A outer s H vs Q E hr h => ?_)
  · obtain ⟨x, t, p, xs, rfl, _⟩ := h
    rfl
  · obtain ⟨x, t, p, xs, rfl, ty, hp, hf, k⟩ := h
    obtain ⟨a, e1, e2⟩ := kit_strW ty
    refine ⟨_, pss_one (ps_ret (pe_and (pe_callB call_isi (by rfl) (fr_isinstance T) (by decide +kernel) (pa_cons (pv 0) (pa_cons (pe_bltn (v := .ty "str") (by rfl) (fr_str T) (by decide +kernel) rfl) pa_nil)))
      (pe_one (pe_cmpR op_in_seq (pv 0) (pv 1) (by rfl))))), ?_⟩
    refine ⟨x, rfl, x, .ty "str", _, _, a, rfl, .ty "str", ty, kit_ty e1, a, rfl, ?_⟩
    rcases e2 with ⟨rfl, z, rfl⟩ | ⟨rfl, e⟩
    · exact iteT ⟨_, rfl, _, rfl, p, xs, rfl, .inr hp, rfl, hf, k⟩
    · rw [e xs] at k
      exact k
/-! is_value -/
def isVal : V → Bool
  | .non => true
  | .int i => decide (0 ≤ i)
  | _ => false
def sp_is_value (K : PySem.W.Frag) : Sp := fun vs H Q _ => ∃ (x : V) (t : String), vs = [x] ∧ TyX K H x (.type t) ∧ Q (.bl (isVal x)) H
theorem ok_is_value (T : Tx K mg) : Callee P w K mg base CX0 2 "is_value" ["value"] [] (sp_is_value K) := by
  have C1 := ok_is_whole (P := P) (w := w) (base := base) T
  refine mkCallee (fd_is_value T) (mg_is_value T) sc_is_value (fun _ _ _ _ _ _ us hl => match us, hl with | [_], _ => rfl) (fun vs H Q E h => ?_) (fun cdv A outer s H vs Q E hr h => ?_)
  · obtain ⟨x, t, rfl, _⟩ := h
    rfl
  · obtain ⟨x, t, rfl, ty, k⟩ := h
    refine ⟨_, pss_one (ps_ret (pe_or (pe_cmpR op_isN (pv 0) pe_non (nomark _)) (pe_one (pe_and (pcall C1 hr (pa_cons (pv 0) pa_nil)) (pe_one (pe_cmpR op_ge (pv 0) pe_int (nomark _))))))), ?_⟩
    refine ⟨x, rfl, rfl, _, rfl, ?_⟩
    by_cases hx : x = .non
    · subst hx
      exact k
    · rw [decide_eq_false hx]
      refine iteF ⟨x, rfl, x, t, rfl, ty, _, rfl, ?_⟩
      cases x with
      | int i => exact ⟨_, rfl, _, _, rfl, rfl, k⟩
      | non => exact absurd rfl hx
      | _ => exact k
/-! is_within -/
def isIn (g : Int) : V → Bool
  | .non => true
  | .int i => decide (0 ≤ i) && decide (i ≤ g)
  | _ => false
def sp_is_within (K : PySem.W.Frag) : Sp := fun vs H Q _ => ∃ (x : V) (g : Int) (t : String), vs = [x, .int g] ∧ TyX K H x (.type t) ∧ Q (.bl (isIn g x)) H
theorem ok_is_within (T : Tx K mg) : Callee P w K mg base CX0 3 "is_within" ["value", "greatest"] [] (sp_is_within K) := by
  have C1 := ok_is_value (P := P) (w := w) (base := base) T
  refine mkCallee (fd_is_within T) (mg_is_within T) sc_is_within (fun _ _ _ _ _ _ us hl => match us, hl with | [_, _], _ => rfl) (fun vs H Q E h => ?_) (fun cdv A outer s H vs Q E hr h => ?_)
  · obtain ⟨x, g, t, rfl, _⟩ := h
    rfl
  · obtain ⟨x, g, t, rfl, ty, k⟩ := h
    refine ⟨_, pss_one (ps_ret (pe_and (pcall C1 hr (pa_cons (pv 0) pa_nil)) (pe_one (pe_or (pe_cmpR op_isN (pv 0) pe_non (nomark _)) (pe_one (pe_cmpR op_le (pv 0) (pv 1) (nomark _))))))), ?_⟩
    refine ⟨x, rfl, x, t, rfl, ty, _, rfl, ?_⟩
    cases x with
    | non => exact ⟨_, rfl, rfl, _, rfl, k⟩
    | int i =>
      by_cases hi : 0 ≤ i
      · have e : isVal (.int i) = true := decide_eq_true hi
        rw [e]
        refine ⟨_, rfl, rfl, _, rfl, ?_⟩
        refine ⟨_, rfl, _, rfl, _, _, rfl, rfl, ?_⟩
        have e2 : isIn g (.int i) = decide (i ≤ g) := by
          show (decide (0 ≤ i) && decide (i ≤ g)) = _
          rw [decide_eq_true hi, Bool.true_and]
        rw [e2] at k
        exact k
      · have e : isVal (.int i) = false := decide_eq_false hi
        rw [e]
        have e2 : isIn g (.int i) = false := by
          show (decide (0 ≤ i) && decide (i ≤ g)) = _
          rw [decide_eq_false hi, Bool.false_and]
        rw [e2] at k
        exact k
    | _ => exact k
/-! is_missing -/
def isMis : V → Bool
  | .str z => decide (z = "missing")
  | _ => false
theorem word_mis (x : V) : wordV x [.str "missing"] = isMis x := by
  cases x with
  | str z =>
    show (("missing" : Str) == z || false) = decide (z = "missing")
    rw [Bool.or_false]
    by_cases h : z = "missing"
    · rw [h, decide_eq_true rfl]
      exact beq_self_eq_true _
    · rw [decide_eq_false h]
      exact beq_eq_false_iff_ne.mpr (fun e => h e.symm)
  | _ => rfl
def sp_is_missing (K : PySem.W.Frag) : Sp := fun vs H Q _ => ∃ (x : V) (t : String), vs = [x] ∧ TyX K H x (.type t) ∧ (∀ H', Same H H' → TyX K H' x (.type t)) ∧ ∀ H', Same H H' → Q (.bl (isMis x)) H'
theorem ok_is_missing (T : Tx K mg) : Callee P w K mg base CX0 2 "is_missing" ["value"] [] (sp_is_missing K) := by
  have C1 := ok_is_word (P := P) (w := w) (base := base) T
  refine mkCallee (fd_is_missing T) (mg_is_missing T) sc_is_missing (fun _ _ _ _ _ _ us hl => match us, hl with | [_], _ => rfl) (fun vs H Q E h => ?_) (fun cdv A outer s H vs Q E hr h => ?_)
  · obtain ⟨x, t, rfl, _⟩ := h
    rfl
  · obtain ⟨x, t, rfl, ty, tm, k⟩ := h
    obtain ⟨tk, gM⟩ := ms_MISSING T
    refine ⟨_, pss_one (ps_ret (pcall C1 hr (pa_cons (pv 0) (pa_cons (pe_tup (pa_cons (pe_glob (v := .str "missing") (by rfl) gM ⟨_, rfl⟩) pa_nil)) pa_nil)))), ?_⟩
    refine ⟨_, rfl, by decide, fun p np => ⟨x, t, p, _, rfl, tm _ (same_new np), sqT_of upd_same, rfl, ?_⟩⟩
    rw [word_mis]
    exact k _ (same_new np)
/-! values_to -/
def sp_values_to : Sp := fun vs H Q _ => ∃ g : Int, vs = [.int g] ∧ 0 ≤ g ∧ g ≤ 1000000 ∧ ∀ p H', H p = none → Same H H' → H' p = some (.lst (valsTo g)) → Q (.ref p) H'
theorem ok_values_to (T : Tx K mg) : Callee P w K mg base CX0 1 "values_to" ["greatest"] [] sp_values_to := by
  refine mkCallee (fd_values_to T) (mg_values_to T) sc_values_to (fun _ _ _ _ _ _ us hl => match us, hl with | [_], _ => rfl) (fun vs H Q E h => ?_) (fun cdv A outer s H vs Q E hr h => ?_)
  · obtain ⟨g, rfl, _⟩ := h
    rfl
  · obtain ⟨g, rfl, h0, h1, k⟩ := h
    refine ⟨_, pss_one (ps_ret (pe_op op_cat (pe_lst (pa_cons pe_non pa_nil)) (pe_listRg rfl (by rfl) (fr_list T) (prg_1 (by rfl) (fr_range T) (pe_op op_add (pv 0) pe_int))))), ?_⟩
    refine ⟨by decide, fun l hl => ?_⟩
    refine ⟨_, rfl, _, _, rfl, rfl, _, rfl, .of_le (by omega) (by omega) (by omega) (by omega), fun q hq => ?_⟩
    have nq : l ≠ q := ne_of_none upd_same hq
    refine ⟨l, q, _, _, rfl, rfl, (by rw [upd_ne nq]; exact upd_same), upd_same, ?_, fun p hp => ?_⟩
    · rw [rgV_length]
      have : sizeLine = 16777216 := by decide
      rw [this]
      show 1 + (g + 1 - 0).toNat ≤ _
      omega
    · have s1 : Same H (upd (upd H l (.lst [.non])) q (.lst (rgV 0 (g + 1)))) := (same_new hl).trans (same_new hq)
      exact k p _ (s1.free hp) (s1.trans (same_new hp)) upd_same
/-! rank -/
def rankV : V → V
  | .non => .int (-1)
  | x => if isMis x = true then .int (-2) else x
def sp_rank (K : PySem.W.Frag) : Sp := fun vs H Q _ => ∃ (x : V) (t : String), vs = [x] ∧ (∀ H', Same H H' → TyX K H' x (.type t)) ∧ ∀ H', Same H H' → Q (rankV x) H'
theorem ok_rank (T : Tx K mg) : Callee P w K mg base CX0 3 "rank" ["value"] [] (sp_rank K) := by
  have C1 := ok_is_missing (P := P) (w := w) (base := base) T
  refine mkCallee (fd_rank T) (mg_rank T) sc_rank (fun _ _ _ _ _ _ us hl => match us, hl with | [_], _ => rfl) (fun vs H Q E h => ?_) (fun cdv A outer s H vs Q E hr h => ?_)
  · obtain ⟨x, t, rfl, _⟩ := h
    rfl
  · obtain ⟨x, t, rfl, ty, k⟩ := h
    refine ⟨_, pss_cons (ps_if (pt_val (pcall C1 hr (pa_cons (pv 0) pa_nil))) (pss_one (ps_ret (pe_un un_neg pe_int))) pss_nil)
      (pss_cons (ps_if (pt_cmpR op_isN (pv 0) pe_non (nomark _)) (pss_one (ps_ret (pe_un un_neg pe_int))) pss_nil) (pss_one (ps_ret (pv 0)))), ?_⟩
    refine ⟨x, rfl, x, t, rfl, ty H (Same.refl _), ty, fun H' s' => ⟨_, rfl, ?_⟩⟩
    cases hm : isMis x with
    | true =>
      refine iteT ⟨_, rfl, ?_⟩
      have e : rankV x = .int (-2) := by
        cases x <;> first | (cases hm; done) | exact if_pos hm
      rw [e] at k
      exact k H' s'
    | false =>
      refine iteF ⟨x, rfl, rfl, _, rfl, ?_⟩
      by_cases hx : x = .non
      · subst hx
        exact ⟨_, rfl, k H' s'⟩
      · rw [decide_eq_false hx]
        refine iteF ⟨x, rfl, ?_⟩
        have e : rankV x = x := by
          cases x <;> first | exact absurd rfl hx | (simp only [rankV]; rw [if_neg (by rw [hm]; decide)])
        rw [e] at k
        exact k H' s'
/-! in_order -/
/-- the told order: MISSING, None, the ints in ns -/
structure InOrd (xs ys : List V) (ns : List Int) : Prop where
  eq : ys = (if xs.any isMis = true then [V.str "missing"] else []) ++ (if xs.any (fun x => decide (x = V.non)) = true then [V.non] else []) ++ ns.map V.int
  up : ns.Pairwise (· < ·)
  mem : ∀ n : Int, n ∈ ns ↔ V.int n ∈ xs
def sp_in_order (K : PySem.W.Frag) : Sp := fun vs H Q _ => ∃ (a : Addr) (xs : List V), vs = [.ref a] ∧ (SqL K H a xs ∨ SqT K H a xs) ∧ xs.length ≤ 1000 ∧ (∀ x ∈ xs, ∃ t, ∀ H', Same H H' → TyX K H' x (.type t)) ∧
  ∀ (p : Addr) (H' : Hp) (ys : List V) (ns : List Int), H p = none → Same H H' → InOrd xs ys ns → H' p = some (.lst ys) → Q (.ref p) H'
/-- the last of the ints so far -/
theorem last_ix (pre : List V) (ms : List Int) (n : Int) : atI (pre ++ (ms ++ [n]).map V.int) (-1) = some (V.int n) := by
  rw [List.map_append, ← List.append_assoc]
  exact atI_last _ _
theorem any_map {xs : List V} (f : V → Bool) : ((xs.filter fun _ => true).map fun x => V.bl (f x)) = (xs.map f).map V.bl := by
  rw [List.filter_eq_self.mpr (fun _ _ => rfl), List.map_map]
  rfl
theorem any_id {xs : List V} (f : V → Bool) : (xs.map f).any id = xs.any f := by
  rw [List.any_map]
  rfl
theorem flt_ints : ∀ xs : List V, ∃ ms : List Int, (xs.filter isI).map (fun x => x) = ms.map V.int ∧ ∀ n : Int, n ∈ ms ↔ V.int n ∈ xs
  | [] => ⟨[], rfl, fun n => by simp⟩
  | x :: r => by
    obtain ⟨ms, e, m⟩ := flt_ints r
    rw [List.map_id'] at e
    cases x with
    | int i =>
      refine ⟨i :: ms, ?_, fun n => ?_⟩
      · rw [List.map_id', List.filter_cons_of_pos (by rfl), e]
        rfl
      · rw [List.mem_cons, List.mem_cons, m]
        constructor
        · rintro (h | h)
          · exact .inl (by rw [h])
          · exact .inr h
        · rintro (h | h)
          · exact .inl (V.int.inj h)
          · exact .inr h
    | _ =>
      refine ⟨ms, ?_, fun n => ?_⟩
      · rw [List.map_id', List.filter_cons_of_neg (by intro z; cases z), e]
      · rw [List.mem_cons, m]
        constructor
        · exact .inr
        · rintro (h | h)
          · cases h
          · exact h
/-- a walk over what the first name holds, within a comprehension -/
def LcW (wi : TI) (a : Addr) (H : Hp) (xs : List V) : Prop := ∀ (σ : L2.St) (j : Nat) (tt : TT) (te : TE) (vs : List Nat) (f : V → Bool) (v : V → V) (Q : VK) (H0 : Hp), σ[0]? = some (some (.ref a)) → Same H H0 → (∀ x, wipe ((wipe σ vs).set j (some x)) vs = wipe σ vs) →
  (∀ x ∈ xs, ∀ H', Same H0 H' → ∀ R : Bool → Hp → Prop, (∀ H2, Same H' H2 → R (f x) H2) → tt ((wipe σ vs).set j (some x)) H' R) → (∀ x ∈ xs, f x = true → ∀ H', Same H0 H' → ∀ R : VK, (∀ H2, Same H' H2 → R (v x) H2) → te ((wipe σ vs).set j (some x)) H' R) →
  (∀ D H', H0 D = none → Same H0 H' → H' D = some (.lst ((xs.filter f).map v)) → Q (.ref D) H') → tLc wi (gName j) tt te vs σ H0 Q
theorem lcw_L {a : Addr} {H : Hp} {xs : List V} (h : SqL K H a xs) (hz : xs.length ≤ 1000) : LcW (iList K (tVar 0)) a H xs := fun σ j tt te vs f v Q H0 e s hw ht he k =>
  tlc_L f v (fun R r => ⟨_, e, r a H0 (Same.refl _) (s.seq h)⟩) (by omega) hw ht he k
theorem lcw_T {a : Addr} {H : Hp} {xs : List V} (h : SqT K H a xs) (hz : xs.length ≤ 1000) : LcW (iTup K (tVar 0)) a H xs := fun σ j tt te vs f v Q H0 e s hw ht he k =>
  tlc_T f v (fun R r => ⟨_, e, r a H0 (Same.refl _) (same_tup s h)⟩) (by omega) hw ht he k
/-- what the loop over the sorted ints has made: the different ones of the first i -/
structure Ded (ks : List Int) (i : Nat) (ns : List Int) : Prop where
  up : ns.Pairwise (· < ·)
  mem : ∀ n : Int, n ∈ ns ↔ n ∈ ks.take i
  len : ns.length ≤ i
theorem ded_turn {ks ns : List Int} {i : Nat} {n : Int} (hs : ks.Pairwise (· ≤ ·)) (d : Ded ks i ns) (hi : ks[i]? = some n) (h : ns = [] ∨ ∃ ms l, ns = ms ++ [l] ∧ l ≠ n) : Ded ks (i + 1) (ns ++ [n]) := by
  have hlt : i < ks.length := (List.getElem?_eq_some_iff.mp hi).1
  have le : ∀ m ∈ ks.take i, m ≤ n := fun m hm => by
    obtain ⟨q, hq, e⟩ := List.mem_iff_getElem.mp hm
    have hq2 : q < i := by
      rw [List.length_take] at hq
      omega
    have e2 : ks[q]'(by omega) = m := by
      rw [← e, List.getElem_take]
    have e3 : ks[i] = n := (List.getElem?_eq_some_iff.mp hi).2
    rw [← e2, ← e3]
    exact List.pairwise_iff_getElem.mp hs q i (by omega) hlt hq2
  refine ⟨?_, fun m => ?_, ?_⟩
  · rw [List.pairwise_append]
    refine ⟨d.up, List.pairwise_singleton _ _, fun m hm k hk => ?_⟩
    rw [List.mem_singleton] at hk
    subst hk
    have l1 := le m ((d.mem m).mp hm)
    rcases h with h | ⟨ms, l, e, ne⟩
    · subst h
      cases hm
    · subst e
      have l2 := le l ((d.mem l).mp (by simp))
      rcases List.mem_append.mp hm with h | h
      · have l3 := (List.pairwise_append.mp d.up).2.2 m h l (by simp)
        omega
      · rw [List.mem_singleton] at h
        subst h
        omega
  · rw [List.mem_append, d.mem, List.mem_singleton, List.take_add_one, hi, List.mem_append]
    simp
  · rw [List.length_append]
    have := d.len
    show _ + 1 ≤ _
    omega
theorem ded_same {ks ms : List Int} {i : Nat} {n : Int} (d : Ded ks i (ms ++ [n])) (hi : ks[i]? = some n) : Ded ks (i + 1) (ms ++ [n]) := by
  refine ⟨d.up, fun m => ?_, Nat.le_succ_of_le d.len⟩
  rw [d.mem, List.take_add_one, hi, List.mem_append]
  constructor
  · exact .inl
  · rintro (h | h)
    · exact h
    · have e : m = n := by simpa using h
      rw [e]
      exact (d.mem n).mp (by simp)
theorem inOrd_of {xs : List V} {ks ms ns : List Int} (hp : ks.Perm ms) (hm : ∀ n : Int, n ∈ ms ↔ V.int n ∈ xs) (d : Ded ks ks.length ns) :
    InOrd xs ((if xs.any isMis = true then [V.str "missing"] else []) ++ (if xs.any (fun x => decide (x = V.non)) = true then [V.non] else []) ++ ns.map V.int) ns := by
  refine ⟨rfl, d.up, fun n => ?_⟩
  rw [d.mem, List.take_length, hp.mem_iff, hm]
theorem body_in_order (T : Tx K mg) {wi : TI} {a : Addr} {xs : List V} {H : Hp} {Q : VK} {E : XK} {cdv : Value} {A : Around} {outer : List Env} {s : Shared} (hr : Room 2 (A.deeper (envOfC "in_order" (defScope s_in_order) s.heap.objs.size (He.ga K "in_order") cdv)))
    (pi : ∀ {tg : Expr} {pos : Pos}, PI (cxOf CX0 P w K mg base ["values", "found", "number", "value"] "in_order" (defScope s_in_order) (He.ga K "in_order") cdv A outer s H E).nox tg (.Name "values" pos) wi) (lw : LcW wi a H xs) (hz : xs.length ≤ 1000)
    (ty : ∀ x ∈ xs, ∃ t, ∀ H', Same H H' → TyX K H' x (.type t)) (kk : ∀ (p : Addr) (H' : Hp) (ys : List V) (ns : List Int), H p = none → Same H H' → InOrd xs ys ns → H' p = some (.lst ys) → Q (.ref p) H') :
    ∃ t, PSs (cxOf CX0 P w K mg base ["values", "found", "number", "value"] "in_order" (defScope s_in_order) (He.ga K "in_order") cdv A outer s H E).nox (defBody s_in_order) t ∧ t { nx := fun _ H' => Q .non H', rt := Q } (start ["values", "found", "number", "value"] [.ref a]) H := by
  have C1 := ok_is_missing (P := P) (w := w) (base := base) T
  have C2 := (ok_is_whole (P := P) (w := w) (base := base) T).up (show 1 ≤ 2 by decide)
  have gi : mg "int" = none := fr_int T
  have gl : mg "len" = none := fr_len T
  have ga : mg "any" = none := fr_any T
  obtain ⟨tk, gM⟩ := ms_MISSING T
  refine ⟨_, pss_cons (ps_set (i := 1) sc_in_order.nd rfl (Or.inl rfl) (pe_lst pa_nil))
    (pss_cons (ps_if (pt_val (pe_callB (cr_any rfl) (by rfl) ga (by decide +kernel) (pa_cons (pe_lc (own := [("value", 3)]) (g := gName 3) (tt := tYes) rfl sc_in_order.nd pi (blkOk_by (N := ["values", "found", "number", "value"]) (sc := defScope s_in_order) (by decide +kernel))
        (fun _ _ _ _ _ => pg_name (i := 3) sc_in_order.nd rfl (Or.inl rfl)) (fun _ _ _ _ _ => pts_nil) (fun _ _ _ _ _ => pcall C1 hr (pa_cons (pv 3) pa_nil))) pa_nil)))
      (pss_one (ps_expr (pe_bm PySem.F.plainAttrs_list PySem.F.slot_list_append PySem.F.type_list_append mt_append (pv 1) (pa_cons (pe_glob (v := .str "missing") (by rfl) gM ⟨_, rfl⟩) pa_nil)))) pss_nil)
    (pss_cons (ps_if (pt_val (pe_callB (cr_any rfl) (by rfl) ga (by decide +kernel) (pa_cons (pe_lc (own := [("value", 3)]) (g := gName 3) (tt := tYes) rfl sc_in_order.nd pi (blkOk_by (N := ["values", "found", "number", "value"]) (sc := defScope s_in_order) (by decide +kernel))
        (fun _ _ _ _ _ => pg_name (i := 3) sc_in_order.nd rfl (Or.inl rfl)) (fun _ _ _ _ _ => pts_nil) (fun _ _ _ _ _ => pe_cmpR op_isN (pv 3) pe_non (nomark _))) pa_nil)))
      (pss_one (ps_expr (pe_bm PySem.F.plainAttrs_list PySem.F.slot_list_append PySem.F.type_list_append mt_append (pv 1) (pa_cons pe_non pa_nil)))) pss_nil)
    (pss_cons (ps_for PassesOwn.never rfl (pi_list (pe_callB cr_sortedI (by rfl) (fr_sorted T) (by decide +kernel) (pa_cons (pe_lc (own := [("value", 3)]) (g := gName 3) rfl sc_in_order.nd pi (blkOk_by (N := ["values", "found", "number", "value"]) (sc := defScope s_in_order) (by decide +kernel))
        (fun _ _ _ _ _ => pg_name (i := 3) sc_in_order.nd rfl (Or.inl rfl)) (fun _ _ _ _ _ => pts_one (pt_val (pcall C2 hr (pa_cons (pv 3) pa_nil)))) (fun _ _ _ _ _ => pe_callTy call_int1 (by rfl) gi (by decide +kernel) (pa_cons (pv 3) pa_nil))) pa_nil))) (pg_name (i := 2) sc_in_order.nd rfl (Or.inl rfl))
      (pss_one (ps_if (PW.pt (pw_or (pt_cmpR op_eq (pe_callB call_len_seq (by rfl) gl PySem.boot_len (pa_cons (pv 1) pa_nil)) pe_int (nomark _)) (pw_or1 (pt_cmpR op_ne (pe_ix ix_list (pv 1) (pe_un un_neg pe_int) (fun _ _ => rfl)) (pv 2) (nomark _)))))
        (pss_one (ps_expr (pe_bm PySem.F.plainAttrs_list PySem.F.slot_list_append PySem.F.type_list_append mt_append (pv 1) (pa_cons (pv 2) pa_nil)))) pss_nil)))
    (pss_one (ps_ret (pv 1)))))), ?_⟩
  refine q_asgX ⟨by decide, fun l hl => ?_⟩
  have hw : ∀ x, wipe ((wipe [some (.ref a), some (.ref l), none, none] [3]).set 3 (some x)) [3] = wipe [some (.ref a), some (.ref l), none, none] [3] := fun x => rfl
  have s0 : Same H (upd H l (.lst [])) := same_new hl
  -- the two texts ahead
  refine q_ifapp (l := l) (zs := []) (v := .str "missing") (xs.any isMis) ?ht1 ?hl1 ?hz1 ?ha1 ?he1 ?k1
  case hl1 => exact upd_same
  case hz1 => decide
  case ha1 => exact fun H R h => ⟨_, rfl, h⟩
  case he1 => exact fun H R h => h
  case ht1 =>
    intro R r
    refine pl_b1 (lw _ 3 _ _ [3] (fun _ => true) (fun x => V.bl (isMis x)) _ _ rfl s0 hw ?_ ?_ ?_)
    · exact fun x hx H' s' R r => r H' (Same.refl _)
    · intro x hx hf H' s' R r
      obtain ⟨t, tx⟩ := ty x hx
      exact ⟨x, rfl, x, t, rfl, tx _ (s0.trans s'), fun H2 s2 => tx _ ((s0.trans s').trans s2), fun H2 s2 => r H2 s2⟩
    · intro D' H' hD sD hD2
      rw [any_map] at hD2
      refine ⟨D', _, rfl, sqL_of hD2, _, rfl, ?_⟩
      rw [any_id]
      exact r H' sD
  intro H1 k1 h1
  have s1 : Same H H1 := fun b o e => k1 b o (ne_of_none e hl) (s0 b o e)
  refine q_ifapp (l := l) (zs := [] ++ if xs.any isMis = true then [V.str "missing"] else []) (v := .non) (xs.any fun x => decide (x = V.non)) ?ht2 ?hl2 ?hz2 ?ha2 ?he2 ?k2
  case hl2 => exact h1
  case hz2 =>
    rw [List.nil_append]
    split <;> decide
  case ha2 => exact fun H R h => ⟨_, rfl, h⟩
  case he2 => exact fun H R h => h
  case ht2 =>
    intro R r
    refine pl_b1 (lw _ 3 _ _ [3] (fun _ => true) (fun x => V.bl (decide (x = V.non))) _ _ rfl s1 hw ?_ ?_ ?_)
    · exact fun x hx H' s' R r => r H' (Same.refl _)
    · exact fun x hx hf H' s' R r => ⟨x, rfl, rfl, r H' (Same.refl _)⟩
    · intro D' H' hD sD hD2
      rw [any_map] at hD2
      refine ⟨D', _, rfl, sqL_of hD2, _, rfl, ?_⟩
      rw [any_id]
      exact r H' sD
  intro H2 k2 h2
  have s2 : Same H H2 := fun b o e => k2 b o (ne_of_none e hl) (s1 b o e)
  rw [List.nil_append] at h2
  generalize e1 : xs.any isMis = b1 at h2
  generalize e2 : (xs.any fun x => decide (x = V.non)) = b2 at h2
  obtain ⟨ms, fe, fm⟩ := flt_ints xs
  refine pl_forL1 (lw _ 3 _ _ [3] isI (fun x => x) _ H2 rfl s2 hw ?_ ?_ ?_)
  · intro x hx H' s' R r
    obtain ⟨t, tx⟩ := ty x hx
    exact ⟨x, rfl, x, t, rfl, tx _ (s2.trans s'), _, rfl, r H' (Same.refl _)⟩
  · intro x hx hf H' s' R r
    cases x with
    | int i => exact ⟨_, rfl, .inl ⟨i, rfl, r H' (Same.refl _)⟩⟩
    | _ => cases hf
  · intro D H' hD sD hD2
    rw [fe] at hD2
    refine ⟨D, ms, rfl, sqL_of hD2, fun ks p hp hup hnp => ⟨p, rfl, ⟨_, sqL_of upd_same⟩, ?_⟩⟩
    have sp : Same H2 (upd H' p (.lst (ks.map V.int))) := sD.trans (same_new hnp)
    have npl : l ≠ p := ne_of_none (sD _ _ h2) hnp
    refine for_list (xs := ks.map V.int) (fun i σ H3 => ∃ (ns : List Int) (y : Option V), σ = [some (.ref a), some (.ref l), y, none] ∧ (∀ b o, b ≠ l → H b = some o → H3 b = some o) ∧ H3 p = some (.lst (ks.map V.int)) ∧ Ded ks i ns ∧
      H3 l = some (.lst ((if b1 = true then [V.str "missing"] else []) ++ (if b2 = true then [V.non] else []) ++ ns.map V.int))) ⟨[], none, rfl, fun b o hb e => sp _ _ (s2 _ _ e), upd_same, ⟨.nil, fun n => by simp, Nat.le_refl _⟩, ?_⟩ ?_ ?_ ?_
    · rw [List.map_nil, List.append_nil]
      exact sp _ _ h2
    · rintro i σ H3 _ ⟨ns, y, rfl, k3, hp3, d3, h3⟩
      exact sqL_of hp3
    · rintro i x σ H3 hx ⟨ns, y, rfl, k3, hp3, d3, h3⟩
      rw [List.getElem?_map] at hx
      cases hk : ks[i]? with
      | none =>
        rw [hk] at hx
        cases hx
      | some n =>
        rw [hk] at hx
        obtain rfl : V.int n = x := Option.some.inj hx
        have hil : i < ks.length := (List.getElem?_eq_some_iff.mp hk).1
        have hkl : ks.length ≤ 1000 := by
          have e := hp.length_eq
          have f := congrArg List.length fe
          rw [List.length_map, List.length_map] at f
          have g := List.length_filter_le isI xs
          omega
        have put : ∀ ns' : List Int, Ded ks (i + 1) ns' → ns' = ns ++ [n] → ∃ (ns : List Int) (y : Option V), [some (V.ref a), some (.ref l), some (.int n), none] = [some (.ref a), some (.ref l), y, none] ∧
            (∀ b o, b ≠ l → H b = some o → (upd H3 l (.lst ((if b1 = true then [V.str "missing"] else []) ++ (if b2 = true then [V.non] else []) ++ (ns').map V.int))) b = some o) ∧
            (upd H3 l (.lst ((if b1 = true then [V.str "missing"] else []) ++ (if b2 = true then [V.non] else []) ++ (ns').map V.int))) p = some (.lst (ks.map V.int)) ∧ Ded ks (i + 1) ns ∧
            (upd H3 l (.lst ((if b1 = true then [V.str "missing"] else []) ++ (if b2 = true then [V.non] else []) ++ (ns').map V.int))) l = some (.lst ((if b1 = true then [V.str "missing"] else []) ++ (if b2 = true then [V.non] else []) ++ ns.map V.int)) := fun ns' d' e' =>
          ⟨ns', some (.int n), rfl, fun b o hb e => by rw [upd_ne hb]; exact k3 b o hb e, by rw [upd_ne npl.symm]; exact hp3, d', upd_same⟩
        have hsz : ((if b1 = true then [V.str "missing"] else []) ++ (if b2 = true then [V.non] else []) ++ ns.map V.int).length < sizeLine := by
          have e : sizeLine = 16777216 := by decide
          rw [e, List.length_append, List.length_append, List.length_map]
          have := d3.len
          have q1 : (if b1 = true then [V.str "missing"] else []).length ≤ 1 := by split <;> decide
          have q2 : (if b2 = true then [V.non] else []).length ≤ 1 := by split <;> decide
          omega
        have app : ∀ ns' : List Int, ns' = ns ++ [n] → (if b1 = true then [V.str "missing"] else []) ++ (if b2 = true then [V.non] else []) ++ ns.map V.int ++ [V.int n] = (if b1 = true then [V.str "missing"] else []) ++ (if b2 = true then [V.non] else []) ++ ns'.map V.int := fun ns' e' => by
          rw [e', List.map_append, ← List.append_assoc]
          rfl
        refine ⟨_, rfl, l, _, rfl, .inl (sqL_of h3), rfl, _, rfl, ?_⟩
        by_cases hb : V.int ((((if b1 = true then [V.str "missing"] else []) ++ (if b2 = true then [V.non] else []) ++ ns.map V.int).length : Nat) : Int) = V.int 0
        · rw [decide_eq_true hb]
          refine iteT (iteT ⟨_, rfl, .inl ⟨rfl, _, sqL_of h3⟩, _, rfl, l, _, _, rfl, rfl, h3, hsz, ?_⟩)
          have ns0 : ns = [] := by
            have hb2 := V.int.inj hb
            cases ns with
            | nil => rfl
            | cons n0 r0 =>
              rw [List.length_append, List.length_map, List.length_cons] at hb2
              omega
          have d' := ded_turn hup d3 hk (.inl ns0)
          rw [app _ rfl]
          exact put _ d' rfl
        · rw [decide_eq_false hb]
          refine iteF ?_
          have nb := hb
          rcases List.eq_nil_or_concat ns with ns0 | ⟨ns1, n1, ns0⟩
          · -- nothing but the texts ahead: the last of them is no int
            subst ns0
            have hx2 : ∃ z pre, (if b1 = true then [V.str "missing"] else []) ++ (if b2 = true then [V.non] else []) ++ ([] : List Int).map V.int = pre ++ [z] ∧ scal z (.int n) = true ∧ z ≠ .int n := by
              cases b2 with
              | true => exact ⟨.non, if b1 = true then [V.str "missing"] else [], by rw [List.map_nil, List.append_nil]; rfl, rfl, fun z => by cases z⟩
              | false =>
                cases b1 with
                | true => exact ⟨.str "missing", [], rfl, rfl, fun z => by cases z⟩
                | false => exact absurd rfl nb
            obtain ⟨z, pre, ez, sz, nz⟩ := hx2
            refine ⟨_, rfl, _, rfl, l, _, _, z, rfl, rfl, sqL_of h3, (by rw [ez]; exact atI_last _ _), _, rfl, sz, _, rfl, ?_⟩
            rw [decide_eq_false nz]
            refine iteT ⟨_, rfl, .inl ⟨rfl, _, sqL_of h3⟩, _, rfl, l, _, _, rfl, rfl, h3, hsz, ?_⟩
            have d' := ded_turn hup d3 hk (.inl rfl)
            rw [app _ rfl]
            exact put _ d' rfl
          · rw [List.concat_eq_append] at ns0
            subst ns0
            refine ⟨_, rfl, _, rfl, l, _, _, .int n1, rfl, rfl, sqL_of h3, last_ix _ _ _, _, rfl, rfl, _, rfl, ?_⟩
            by_cases hn : n1 = n
            · subst hn
              rw [decide_eq_true rfl]
              refine iteF ⟨_, some (.int n1), rfl, k3, hp3, ded_same d3 hk, h3⟩
            · rw [decide_eq_false (fun z => hn (V.int.inj z))]
              refine iteT ⟨_, rfl, .inl ⟨rfl, _, sqL_of h3⟩, _, rfl, l, _, _, rfl, rfl, h3, hsz, ?_⟩
              have d' := ded_turn hup d3 hk (.inr ⟨ns1, n1, rfl, hn⟩)
              rw [app _ rfl]
              exact put _ d' rfl
    · rintro σ H3 ⟨ns, y, rfl, k3, hp3, d3, h3⟩
      rw [List.length_map] at d3
      have iO := inOrd_of (xs := xs) hp fm d3
      rw [e1, e2] at iO
      exact ⟨_, rfl, kk l H3 _ ns hl (fun b o e => k3 b o (ne_of_none e hl) e) iO h3⟩

theorem ok_in_order (T : Tx K mg) : Callee P w K mg base CX0 3 "in_order" ["values"] [] (sp_in_order K) := by
  refine mkCallee (fd_in_order T) (mg_in_order T) sc_in_order (fun _ _ _ _ _ _ us hl => match us, hl with | [_], _ => rfl) (fun vs H Q E h => ?_) (fun cdv A outer s H vs Q E hr h => ?_)
  · obtain ⟨a, xs, rfl, _⟩ := h
    rfl
  · obtain ⟨a, xs, rfl, hs, hz, ty, k⟩ := h
    rcases hs with hs | hs
    · exact body_in_order T hr (fun {tg pos} => pi_list (pv 0)) (lcw_L hs hz) hz ty k
    · exact body_in_order T hr (fun {tg pos} => pi_tup (pv 0)) (lcw_T hs hz) hz ty k
/-! _law_pool -/
def sp_pool (K : PySem.W.Frag) : Sp := fun vs H Q _ => ∃ (a : Addr) (ns : List Int) (k : Int), vs = [.ref a, .int k] ∧ SqL K H a (ns.map V.int) ∧ 0 ≤ k ∧ k ≤ 1000 ∧
  ∀ (p : Addr) (H' : Hp) (z0 z1 : Int), H p = none → Same H H' → H' p = some (.lst [.int z0, .int z1]) → Q (.ref p) H'
theorem ok_pool (T : Tx K mg) : Callee P w K mg base CX0 1 "_law_pool" ["_law_script", "_law_k"] [] (sp_pool K) := by
  refine mkCallee (fd__law_pool T) (mg__law_pool T) sc__law_pool (fun _ _ _ _ _ _ us hl => match us, hl with | [_, _], _ => rfl) (fun vs H Q E h => ?_) (fun cdv A outer s H vs Q E hr h => ?_)
  · obtain ⟨a, ns, k, rfl, _⟩ := h
    rfl
  · obtain ⟨a, ns, k, rfl, hs, k0, k1, kk⟩ := h
    have gi : mg "int" = none := fr_int T
    refine ⟨_, pss_cons (ps_set (i := 2) sc__law_pool.nd rfl (Or.inl rfl) (pe_ifExp (pt_cmpR op_lt (pv 1) (pe_callB call_len (by rfl) (fr_len T) PySem.boot_len (pa_cons (pv 0) pa_nil)) (nomark _))
        (pe_callB (call_max2 rfl) (by rfl) (fr_max T) (by decide +kernel) (pa_cons (pe_callTy call_int1 (by rfl) gi (by decide +kernel) (pa_cons (pe_ix ix_list (pv 0) (pv 1) (fun _ _ => rfl)) pa_nil))
          (pa_cons (pe_callTy call_int1 (by rfl) gi (by decide +kernel) (pa_cons (pe_op op_sub (pe_un un_neg pe_int) (pe_ix ix_list (pv 0) (pv 1) (fun _ _ => rfl))) pa_nil)) pa_nil))) pe_int))
      (pss_cons (ps_set (i := 3) sc__law_pool.nd rfl (Or.inl rfl) (pe_op op_add (pe_op op_modN (pe_callTy call_int1 (by rfl) gi (by decide +kernel) (pa_cons (pe_op op_mul (pe_op op_add (pe_op op_modN (pe_callTy call_int1 (by rfl) gi (by decide +kernel) (pa_cons (pv 2) pa_nil)) pe_int)
        (pe_op op_mul pe_int (pe_op op_add (pv 1) pe_int))) pe_int) pa_nil)) pe_int) pe_int))
      (pss_one (ps_ret (pe_lst (pa_cons (pe_op op_mul (pv 2) (pe_callTy call_int1 (by rfl) gi (by decide +kernel) (pa_cons (pe_cmpR op_ge (pv 2) (pe_op op_pow pe_int pe_int) (nomark _)) pa_nil)))
        (pa_cons (pe_op op_modN (pe_callTy call_int1 (by rfl) gi (by decide +kernel) (pa_cons (pe_op op_mul (pv 3) (pv 3)) pa_nil)) pe_int) pa_nil)))))), ?_⟩
    refine q_asgI (fun R r => ?_) fun z => ?_
    · refine ⟨_, rfl, _, rfl, _, (ns.map V.int).length, rfl, .inl ⟨_, hs, rfl⟩, _, _, rfl, rfl, _, rfl, ?_⟩
      by_cases hk : k < ((ns.map V.int).length : Int)
      · rw [decide_eq_true hk]
        obtain ⟨j, rfl⟩ : ∃ j : Nat, k = (j : Int) := ⟨k.toNat, by omega⟩
        have hj : j < ns.length := by
          rw [List.length_map] at hk
          omega
        have hx : (ns.map V.int)[j]? = some (V.int ns[j]) := by
          rw [List.getElem?_map, List.getElem?_eq_getElem hj]
          rfl
        refine iteT ⟨_, rfl, _, rfl, a, _, _, _, rfl, rfl, hs, at_of (j := j) rfl hx, .inl ⟨_, rfl, _, rfl, _, rfl, _, rfl, a, _, _, _, rfl, rfl, hs, at_of (j := j) rfl hx, _, _, rfl, rfl, .inl ⟨_, rfl, _, _, rfl, r _⟩⟩⟩
      · rw [decide_eq_false hk]
        exact iteF (r 7)
    · refine ⟨_, rfl, .inl ⟨_, rfl, _, _, rfl, rfl, (show (2147483629 : Int) ≠ 0 by decide), _, rfl, _, _, rfl, rfl, _, _, rfl, rfl, .inl ⟨by decide, by decide⟩, _, _, rfl, rfl, _, _, rfl, rfl, .inr ⟨by decide, by decide⟩, .inl ⟨_, rfl, _, _, rfl, rfl, (show (2147483629 : Int) ≠ 0 by decide), _, _, rfl, rfl, ?_⟩⟩⟩
      have m0 := mod_lo (i := (z.fmod 2147483629 + 104729 * (k + 1)) * 48271) (j := 2147483629) (by decide)
      have m1 := mod_hi (i := (z.fmod 2147483629 + 104729 * (k + 1)) * 48271) (j := 2147483629) (by decide)
      refine ⟨_, rfl, _, rfl, _, _, rfl, rfl, ⟨by decide, by decide, by decide⟩, _, _, rfl, rfl, .inr ⟨_, rfl, _, _, rfl, rfl, ?_, _, rfl, _, rfl, _, _, rfl, rfl, .inl ⟨by omega, by omega⟩, .inl ⟨_, rfl, _, _, rfl, rfl, (show (2147483629 : Int) ≠ 0 by decide), (by show 2 ≤ sizeLine; decide), fun p hp => ?_⟩⟩⟩
      · refine .inr ?_
        split
        · exact ⟨by decide, by decide⟩
        · exact ⟨by decide, by decide⟩
      · exact kk p _ _ _ hp (same_new hp) upd_same
/-! _law_draw -/
def sp_draw : Sp := fun vs H Q _ => ∃ (a : Addr) (z0 z1 m : Int), vs = [.ref a, .int m] ∧ H a = some (.lst [.int z0, .int z1]) ∧ 0 < m ∧ m < 1073741824 ∧
  ∀ r y0 y1 : Int, 0 ≤ r → r < m → Q (.int r) (upd H a (.lst [.int y0, .int y1]))
theorem ok_draw (T : Tx K mg) : Callee P w K mg base CX0 1 "_law_draw" ["_law_pool_here", "_law_many"] [] sp_draw := by
  refine mkCallee (fd__law_draw T) (mg__law_draw T) sc__law_draw (fun _ _ _ _ _ _ us hl => match us, hl with | [_, _], _ => rfl) (fun vs H Q E h => ?_) (fun cdv A outer s H vs Q E hr h => ?_)
  · obtain ⟨a, z0, z1, m, rfl, _⟩ := h
    rfl
  · obtain ⟨a, z0, z1, m, rfl, ha, hm, hm2, k⟩ := h
    have gi : mg "int" = none := fr_int T
    refine ⟨_, pss_cons (ps_if (pt_cmpR op_gt (pe_ix ix_list (pv 0) pe_int (fun _ _ => rfl)) pe_int (nomark _))
        (pss_cons (ps_set (i := 2) sc__law_draw.nd rfl (Or.inl rfl) (pe_op op_modN (pe_callTy call_int1 (by rfl) gi (by decide +kernel) (pa_cons (pe_ix ix_list (pv 0) pe_int (fun _ _ => rfl)) pa_nil)) (pv 1)))
        (pss_cons (ps_asg (pe_op op_fdivN (pe_ix ix_list (pv 0) pe_int (fun _ _ => rfl)) (pv 1)) (pg_sub (pv 0) pe_int set_list))
        (pss_one (ps_ret (pv 2))))) pss_nil)
      (pss_cons (ps_asg (pe_op op_modN (pe_callTy call_int1 (by rfl) gi (by decide +kernel) (pa_cons (pe_op op_add (pe_op op_mul (pe_ix ix_list (pv 0) pe_int (fun _ _ => rfl)) pe_int) pe_int) pa_nil)) pe_int) (pg_sub (pv 0) pe_int set_list))
      (pss_one (ps_ret (pe_op op_modN (pe_callTy call_int1 (by rfl) gi (by decide +kernel) (pa_cons (pe_op op_fdivN (pe_op op_modN (pe_callTy call_int1 (by rfl) gi (by decide +kernel)
        (pa_cons (pe_op op_mul (pe_ix ix_list (pv 0) pe_int (fun _ _ => rfl)) (pe_ix ix_list (pv 0) pe_int (fun _ _ => rfl))) pa_nil)) pe_int) pe_int) pa_nil)) (pv 1))))), ?_⟩
    have i0 : atI [V.int z0, V.int z1] 0 = some (V.int z0) := rfl
    have i1 : atI [V.int z0, V.int z1] 1 = some (V.int z1) := rfl
    refine ⟨_, rfl, a, _, _, _, rfl, rfl, sqL_of ha, i0, _, _, rfl, rfl, _, rfl, ?_⟩
    by_cases hz : 0 < z0
    · rw [decide_eq_true hz]
      refine iteT ⟨_, rfl, a, _, _, _, rfl, rfl, sqL_of ha, i0, .inl ⟨_, rfl, _, rfl, _, _, rfl, rfl, (by omega), ?_⟩⟩
      refine ⟨_, rfl, a, _, _, _, rfl, rfl, sqL_of ha, i0, _, rfl, _, _, rfl, rfl, ⟨by omega, by omega⟩, _, rfl, a, _, 0, 0, rfl, rfl, ha, rfl, ?_⟩
      exact ⟨_, rfl, k _ _ _ (mod_lo hm) (mod_hi hm)⟩
    · rw [decide_eq_false hz]
      refine iteF ?_
      refine ⟨_, rfl, a, _, _, _, rfl, rfl, sqL_of ha, i1, _, _, rfl, rfl, .inr ⟨by decide, by decide⟩, _, _, rfl, rfl, .inl ⟨_, rfl, _, _, rfl, rfl, (show (2147483647 : Int) ≠ 0 by decide), ?_⟩⟩
      refine ⟨_, rfl, a, _, 1, 1, rfl, rfl, ha, rfl, ?_⟩
      have hy0 : 0 ≤ (z1 * 48271 + 11).fmod 2147483647 := mod_lo (by decide)
      have hy1 : (z1 * 48271 + 11).fmod 2147483647 < 2147483647 := mod_hi (by decide)
      have u1 : upd H a (.lst ([V.int z0, V.int z1].set 1 (.int ((z1 * 48271 + 11).fmod 2147483647)))) a = some (.lst [.int z0, .int ((z1 * 48271 + 11).fmod 2147483647)]) := upd_same
      have j1 : atI [V.int z0, V.int ((z1 * 48271 + 11).fmod 2147483647)] 1 = some (V.int ((z1 * 48271 + 11).fmod 2147483647)) := rfl
      refine ⟨_, rfl, a, _, _, _, rfl, rfl, sqL_of u1, j1, _, rfl, a, _, _, _, rfl, rfl, sqL_of u1, j1, _, _, rfl, rfl, .inl ⟨by omega, by omega⟩, .inl ⟨_, rfl, _, _, rfl, rfl, (show (2147483629 : Int) ≠ 0 by decide), _, _, rfl, rfl, ⟨by decide, by decide⟩, .inl ⟨_, rfl, _, rfl, _, _, rfl, rfl, (by omega), ?_⟩⟩⟩
      exact k _ _ _ (mod_lo hm) (mod_hi hm)
/-! _law_pick -/
def sp_pick : Sp := fun vs H Q _ => ∃ (a b : Addr) (z0 z1 : Int) (xs : List V), vs = [.ref a, .ref b] ∧ H a = some (.lst [.int z0, .int z1]) ∧ H b = some (.lst xs) ∧ b ≠ a ∧ 0 < xs.length ∧ xs.length < 1000000 ∧
  ∀ (x : V) (y0 y1 : Int), x ∈ xs → Q x (upd H a (.lst [.int y0, .int y1]))
theorem ok_pick (T : Tx K mg) : Callee P w K mg base CX0 2 "_law_pick" ["_law_pool_here", "_law_row"] [] sp_pick := by
  have C1 := ok_draw (P := P) (w := w) (base := base) T
  refine mkCallee (fd__law_pick T) (mg__law_pick T) sc__law_pick (fun _ _ _ _ _ _ us hl => match us, hl with | [_, _], _ => rfl) (fun vs H Q E h => ?_) (fun cdv A outer s H vs Q E hr h => ?_)
  · obtain ⟨a, b, z0, z1, xs, rfl, _⟩ := h
    rfl
  · obtain ⟨a, b, z0, z1, xs, rfl, ha, hb, nb, h0, h1, k⟩ := h
    have gl : mg "len" = none := fr_len T
    refine ⟨_, pss_one (ps_ret (pe_ix ix_list (pv 1) (pcall C1 hr (pa_cons (pv 0) (pa_cons (pe_callB call_len_seq (by rfl) gl PySem.boot_len (pa_cons (pv 1) pa_nil)) pa_nil))) (fun _ _ => rfl))), ?_⟩
    refine ⟨_, rfl, _, rfl, _, rfl, b, xs, rfl, .inl (sqL_of hb), a, z0, z1, _, rfl, ha, (by omega), (by omega), fun r y0 y1 hr0 hr1 => ?_⟩
    obtain ⟨j, rfl⟩ : ∃ j : Nat, r = (j : Int) := ⟨r.toNat, by omega⟩
    have hj : j < xs.length := by omega
    refine ⟨b, xs, _, xs[j], rfl, rfl, sqL_of (by rw [upd_ne nb]; exact hb), at_of (j := j) rfl (List.getElem?_eq_getElem hj), ?_⟩
    exact k _ _ _ (List.getElem_mem hj)
def sp_law (K : PySem.W.Frag) : Sp := fun vs H Q _ => ∃ (a : Addr) (ns : List Int), vs = [.ref a] ∧ SqL K H a (ns.map V.int) ∧ ns.length ≤ 63 ∧ (∀ z ∈ ns, Builtin.Int.intBits z ≤ 1048576) ∧ ∀ H', Q (.bl true) H'
abbrev NL : List Str := ["_law_script", "_law_k", "_law_pool_here", "_law_top", "_law_value", "_law_odd", "_law_some", "_law_due", "_law_turn", "_law_number"]
/-- what the drawn list may hold -/
def Drawn1 (x : V) : Prop := x = .non ∨ x = .str "missing" ∨ ∃ n : Int, x = .int n ∧ 0 ≤ n ∧ n < 100
theorem drawn_ok {x : V} (h : Drawn1 x) : okV x = true := by
  rcases h with rfl | rfl | ⟨n, rfl, _⟩
  · rfl
  · decide +kernel
  · rfl
/-- the numbers below m that are in xs, ascending -/
def numsIn (m : Nat) (xs : List V) : List Int := ((List.range m).filter fun n : Nat => inV (.int (n : Int)) xs).map fun n : Nat => (n : Int)
theorem eq_int_drawn {x : V} (h : Drawn1 x) (n : Int) : eqV x (.int n) = true ↔ x = .int n := by
  rcases h with rfl | rfl | ⟨m, rfl, _⟩
  · exact ⟨fun z => (by cases z), fun z => (by cases z)⟩
  · exact ⟨fun z => (by cases z), fun z => (by cases z)⟩
  · constructor
    · intro z
      have e : (m == n) = true := z
      rw [beq_iff_eq.mp e]
    · intro z
      rw [V.int.inj z]
      show (n == n) = true
      simp
theorem in_int {xs : List V} (h : ∀ x ∈ xs, Drawn1 x) (n : Int) : inV (.int n) xs = true ↔ V.int n ∈ xs := by
  unfold inV
  rw [List.any_eq_true]
  constructor
  · rintro ⟨y, hy, e⟩
    rw [← (eq_int_drawn (h y hy) n).mp e]
    exact hy
  · intro hm
    exact ⟨_, hm, (eq_int_drawn (h _ hm) n).mpr rfl⟩
theorem nums_mem {xs : List V} (h : ∀ x ∈ xs, Drawn1 x) (n : Int) : n ∈ numsIn 200 xs ↔ V.int n ∈ xs := by
  unfold numsIn
  rw [List.mem_map]
  constructor
  · rintro ⟨m, hm, rfl⟩
    exact (in_int h _).mp (List.mem_filter.mp hm).2
  · intro hm
    rcases h _ hm with e | e | ⟨k, e, h0, h1⟩
    · cases e
    · cases e
    · have e2 := V.int.inj e
      subst e2
      refine ⟨n.toNat, List.mem_filter.mpr ⟨List.mem_range.mpr (by omega), ?_⟩, by omega⟩
      have e3 : ((n.toNat : Nat) : Int) = n := by omega
      rw [e3]
      exact (in_int h n).mpr hm
theorem nums_up (m : Nat) (xs : List V) : (numsIn m xs).Pairwise (· < ·) := by
  unfold numsIn
  rw [List.pairwise_map]
  refine List.Pairwise.imp ?_ (List.Pairwise.filter _ List.pairwise_lt_range)
  intro a b h
  omega
theorem up_eq : ∀ {as bs : List Int}, as.Pairwise (· < ·) → bs.Pairwise (· < ·) → (∀ n, n ∈ as ↔ n ∈ bs) → as = bs
  | [], [], _, _, _ => rfl
  | [], b :: r, _, _, h => by
    have := (h b).mpr List.mem_cons_self
    cases this
  | a :: r, [], _, _, h => by
    have := (h a).mp List.mem_cons_self
    cases this
  | a :: r, b :: t, ha, hb, h => by
    have e : a = b := by
      rcases List.mem_cons.mp ((h a).mp List.mem_cons_self) with e | e
      · exact e
      · rcases List.mem_cons.mp ((h b).mpr List.mem_cons_self) with e2 | e2
        · exact e2.symm
        · have l1 := (List.pairwise_cons.mp hb).1 a e
          have l2 := (List.pairwise_cons.mp ha).1 b e2
          omega
    subst e
    rw [up_eq (List.pairwise_cons.mp ha).2 (List.pairwise_cons.mp hb).2 fun n => ?_]
    have q := h n
    rw [List.mem_cons, List.mem_cons] at q
    constructor
    · intro hn
      rcases q.mp (.inr hn) with e | e
      · have := (List.pairwise_cons.mp ha).1 n hn
        omega
      · exact e
    · intro hn
      rcases q.mpr (.inr hn) with e | e
      · have := (List.pairwise_cons.mp hb).1 n hn
        omega
      · exact e
theorem any_mis {xs : List V} (h : ∀ x ∈ xs, Drawn1 x) : inV (.str "missing") xs = xs.any isMis := by
  unfold inV
  rw [Bool.eq_iff_iff, List.any_eq_true, List.any_eq_true]
  constructor
  · rintro ⟨y, hy, e⟩
    refine ⟨y, hy, ?_⟩
    rcases h y hy with rfl | rfl | ⟨n, rfl, _⟩
    · cases e
    · decide +kernel
    · cases e
  · rintro ⟨y, hy, e⟩
    refine ⟨y, hy, ?_⟩
    rcases h y hy with rfl | rfl | ⟨n, rfl, _⟩
    · cases e
    · decide +kernel
    · cases e
theorem any_non {xs : List V} (h : ∀ x ∈ xs, Drawn1 x) : inV .non xs = xs.any fun x => decide (x = V.non) := by
  unfold inV
  rw [Bool.eq_iff_iff, List.any_eq_true, List.any_eq_true]
  constructor
  · rintro ⟨y, hy, e⟩
    refine ⟨y, hy, ?_⟩
    rcases h y hy with rfl | rfl | ⟨n, rfl, _⟩
    · rfl
    · cases e
    · cases e
  · rintro ⟨y, hy, e⟩
    refine ⟨y, hy, ?_⟩
    rw [of_decide_eq_true e]
    rfl
/-- what is due -/
def dueOf (xs : List V) : List V := (List.replicate (if inV (.str "missing") xs = true then 1 else 0) [V.str "missing"]).flatten ++ (List.replicate (if inV .non xs = true then 1 else 0) [V.non]).flatten ++ (numsIn 200 xs).map V.int
theorem due_is {xs ys : List V} {ns : List Int} {zs : List V} (h : ∀ x ∈ zs, Drawn1 x) (hm : ∀ x : V, x ∈ xs ↔ x ∈ zs) (o : InOrd xs ys ns) : ys = dueOf zs := by
  have h2 : ∀ x ∈ xs, Drawn1 x := fun x hx => h x ((hm x).mp hx)
  have e : ns = numsIn 200 zs := up_eq o.up (nums_up 200 zs) fun n => by rw [o.mem, nums_mem h, hm]
  have e1 : xs.any isMis = zs.any isMis := by
    rw [Bool.eq_iff_iff, List.any_eq_true, List.any_eq_true]
    exact ⟨fun ⟨x, a, b⟩ => ⟨x, (hm x).mp a, b⟩, fun ⟨x, a, b⟩ => ⟨x, (hm x).mpr a, b⟩⟩
  have e2 : (xs.any fun x => decide (x = V.non)) = zs.any fun x => decide (x = V.non) := by
    rw [Bool.eq_iff_iff, List.any_eq_true, List.any_eq_true]
    exact ⟨fun ⟨x, a, b⟩ => ⟨x, (hm x).mp a, b⟩, fun ⟨x, a, b⟩ => ⟨x, (hm x).mpr a, b⟩⟩
  rw [o.eq, e1, e2, ← any_mis h, ← any_non h, e]
  unfold dueOf
  cases inV (.str "missing") zs <;> cases inV .non zs <;> rfl
theorem due_ok (xs : List V) : (dueOf xs).all okV = true := by
  unfold dueOf
  rw [List.all_append, List.all_append, Bool.and_eq_true, Bool.and_eq_true]
  refine ⟨⟨?_, ?_⟩, ?_⟩
  · split <;> decide +kernel
  · split <;> decide +kernel
  · rw [List.all_map, List.all_eq_true]
    exact fun _ _ => rfl
theorem within_no {g : Int} {x : V} (h : isVal x = false) : isIn g x = false := by
  cases x with
  | int i =>
    have e : decide (0 ≤ i) = false := h
    show (decide (0 ≤ i) && _) = false
    rw [e, Bool.false_and]
  | non => cases h
  | _ => rfl
theorem b01_lo (b : Bool) : -(2 ^ 63) ≤ (if b = true then (1 : Int) else 0) := by cases b <;> decide
theorem b01_hi (b : Bool) : (if b = true then (1 : Int) else 0) < 2 ^ 63 := by cases b <;> decide
theorem b01_len {v : V} (b : Bool) : [v].length * (if b = true then (1 : Int) else 0).toNat ≤ sizeLine := by
  cases b
  · show 1 * 0 ≤ sizeLine
    decide
  · show 1 * 1 ≤ sizeLine
    decide
theorem b01_all {v : V} (b : Bool) : ((List.replicate (if b = true then (1 : Int) else 0).toNat [v]).flatten).length ≤ 1 := by
  cases b
  · show 0 ≤ 1
    decide
  · show 1 ≤ 1
    decide
theorem b01_nat {v : V} (b : Bool) : ((List.replicate (if b = true then 1 else 0) [v]).flatten).length ≤ 1 := by
  cases b
  · show 0 ≤ 1
    decide
  · show 1 ≤ 1
    decide
theorem ok_law (T : Tx K mg) {fd : FuncData} (F : FunD K "law" "law" (defArgs s_law) (defBody s_law) (defScope s_law) (d_law.dvs K) (d_law.kws K) (He.ga K "law") fd) : FnOk P w K mg base CX0 6 (He.ga K "law") fd ["_law_script"] (sp_law K) := by
  have Cpool := (ok_pool (P := P) (w := w) (base := base) T).up (show 1 ≤ 5 by decide)
  have Cdraw := (ok_draw (P := P) (w := w) (base := base) T).up (show 1 ≤ 5 by decide)
  have Cpick := (ok_pick (P := P) (w := w) (base := base) T).up (show 2 ≤ 5 by decide)
  have Cval := (ok_is_value (P := P) (w := w) (base := base) T).up (show 2 ≤ 5 by decide)
  have Cwin := (ok_is_within (P := P) (w := w) (base := base) T).up (show 3 ≤ 5 by decide)
  have Crank := (ok_rank (P := P) (w := w) (base := base) T).up (show 3 ≤ 5 by decide)
  have Cvt := (ok_values_to (P := P) (w := w) (base := base) T).up (show 1 ≤ 5 by decide)
  have Cord := (ok_in_order (P := P) (w := w) (base := base) T).up (show 3 ≤ 5 by decide)
  have gi : mg "int" = none := fr_int T
  have gl : mg "len" = none := fr_len T
  have gr : mg "range" = none := fr_range T
  obtain ⟨tk, gM⟩ := ms_MISSING T
  refine F.ok (CX := CX0) (N := NL) sc_law (fun vs H Q E h => ?_) (fun cdv A outer s H vs Q E hr h => ?_)
  · obtain ⟨a, ns, rfl, _⟩ := h
    rfl
  suffices hh : ∃ t, PSs (cxOf CX0 P w K mg base NL "law" (defScope s_law) (He.ga K "law") cdv A outer s H E).nox (defBody s_law) t ∧ t { nx := fun _ H' => Q .non H', rt := Q } (start NL vs) H by
    obtain ⟨t, h1, h2⟩ := hh
    exact ⟨t, h1.nox, h2⟩
  obtain ⟨a, ns, rfl, hs, hlen, _, kk⟩ := h
  have nd := sc_law.nd
  have hu : (cxOf CX0 P w K mg base NL "law" (defScope s_law) (He.ga K "law") cdv A outer s H E).nox.A.units + 64 < cLine := hr.units
  refine ⟨_, pss_cons (ps_for PassesOwn.never rfl (pi_range1 (by rfl) gr (pa_cons (pe_callB (call_max2 rfl) (by rfl) (fr_max T) (by decide +kernel) (pa_cons pe_int (pa_cons (pe_callB (call_min2 rfl) (by rfl) (fr_min T) (by decide +kernel)
        (pa_cons (pe_callB call_len (by rfl) gl PySem.boot_len (pa_cons (pv 0) pa_nil)) (pa_cons pe_int pa_nil))) pa_nil))) pa_nil)) (pg_name (i := 1) nd rfl (Or.inl rfl))
      -- the pool, the top
      (pss_cons (ps_set (i := 2) nd rfl (Or.inr rfl) (pcall Cpool hr (pa_cons (pv 0) (pa_cons (pv 1) pa_nil))))
      (pss_cons (ps_set (i := 3) nd rfl (Or.inl rfl) (pcall Cdraw hr (pa_cons (pv 2) (pa_cons pe_int pa_nil))))
      (pss_cons (ps_if (PW.pt (pw_or (pt_cmpR op_ne (pe_glob (v := .str "missing") (by rfl) gM ⟨_, rfl⟩) pe_str (nomark _)) (pw_or1 (pt_cmpR (op_neD hu) (pcall Cvt hr (pa_cons (pv 3) pa_nil))
          (pe_op op_cat (pe_lst (pa_cons pe_non pa_nil)) (pe_listRg rfl (by rfl) (fr_list T) (prg_1 (by rfl) gr (pe_op op_add (pv 3) pe_int)))) (nomark _))))) (pss_one (ps_ret pe_bl)) pss_nil)
      -- the values
      (pss_cons (ps_for PassesOwn.never rfl (pi_list (pe_lst (pa_cons pe_non (pa_cons pe_int (pa_cons pe_int (pa_cons (pv 3) (pa_cons (pe_op op_add (pv 3) pe_int) (pa_cons pe_int pa_nil)))))))) (pg_name (i := 4) nd rfl (Or.inl rfl))
        (pss_cons (ps_if (PW.pt (pw_or (pt_cmpR op_notBl (pcall Cval hr (pa_cons (pv 4) pa_nil)) pe_bl (nomark _)) (pw_or1 (pt_cmpR op_ne (pcall Cwin hr (pa_cons (pv 4) (pa_cons (pv 3) pa_nil)))
            (pe_or (pe_cmpR op_isN (pv 4) pe_non (nomark _)) (pe_one (pe_cmpR op_le (pv 4) (pv 3) (nomark _)))) (nomark _))))) (pss_one (ps_ret pe_bl)) pss_nil)
        (pss_one (ps_if (pt_cmpR op_ne (pcall Crank hr (pa_cons (pv 4) pa_nil)) (pe_ifExp (pt_cmpR op_isN (pv 4) pe_non (nomark _)) (pe_un un_neg pe_int) (pv 4)) (nomark _)) (pss_one (ps_ret pe_bl)) pss_nil))))
      -- the odd ones
      (pss_cons (ps_for PassesOwn.never rfl (pi_list (pe_lst (pa_cons (pe_un un_neg pe_int) (pa_cons pe_bl (pa_cons pe_bl (pa_cons pe_str (pa_cons pe_str (pa_cons (pe_tup (pa_cons pe_int pa_nil)) (pa_cons (pe_lst pa_nil) (pa_cons pe_dnewK pa_nil)))))))))) (pg_name (i := 5) nd rfl (Or.inl rfl))
        (pss_one (ps_if (PW.pt (pw_or (pt_cmpR op_notBl (pcall Cval hr (pa_cons (pv 5) pa_nil)) pe_bl (nomark _)) (pw_or1 (pt_cmpR op_notBl (pcall Cwin hr (pa_cons (pv 5) (pa_cons (pv 3) pa_nil))) pe_bl (nomark _))))) (pss_one (ps_ret pe_bl)) pss_nil)))
      -- some drawn ones
      (pss_cons (ps_set (i := 6) nd rfl (Or.inr rfl) (pe_lc (own := [("_law_turn", 8)]) (g := gName 8) (tt := tYes) rfl nd (pi_range1 (by rfl) gr (pa_cons (pcall Cdraw hr (pa_cons (pv 2) (pa_cons pe_int pa_nil))) pa_nil)) (blkOk_by (N := NL) (sc := defScope s_law) (by decide +kernel))
          (fun _ _ _ _ _ => pg_name (i := 8) nd rfl (Or.inl rfl)) (fun _ _ _ _ _ => pts_nil)
          (fun _ _ _ _ _ => pcall Cpick hr (pa_cons (pv 2) (pa_cons (pe_lst (pa_cons pe_non (pa_cons (pe_glob (v := .str "missing") (by rfl) gM ⟨_, rfl⟩) (pa_cons (pcall Cdraw hr (pa_cons (pv 2) (pa_cons pe_int pa_nil))) (pa_cons (pcall Cdraw hr (pa_cons (pv 2) (pa_cons pe_int pa_nil))) pa_nil))))) pa_nil)))))
      (pss_cons (ps_set (i := 7) nd rfl (Or.inl rfl) (pe_op op_cat (pe_op op_rep (pe_lst (pa_cons (pe_glob (v := .str "missing") (by rfl) gM ⟨_, rfl⟩) pa_nil)) (pe_callTy call_int1 (by rfl) gi (by decide +kernel) (pa_cons (pe_cmpR op_in_seq (pe_glob (v := .str "missing") (by rfl) gM ⟨_, rfl⟩) (pv 6) (by rfl)) pa_nil)))
          (pe_op op_rep (pe_lst (pa_cons pe_non pa_nil)) (pe_callTy call_int1 (by rfl) gi (by decide +kernel) (pa_cons (pe_cmpR op_in_seq pe_non (pv 6) (by rfl)) pa_nil)))))
      (pss_cons (ps_set (i := 7) nd rfl (Or.inl rfl) (pe_op op_cat (pv 7) (pe_lc (own := [("_law_number", 9)]) (g := gName 9) rfl nd (pi_range1 (by rfl) gr (pa_cons pe_int pa_nil)) (blkOk_by (N := NL) (sc := defScope s_law) (by decide +kernel))
          (fun _ _ _ _ _ => pg_name (i := 9) nd rfl (Or.inl rfl)) (fun _ _ _ _ _ => pts_one (pt_cmpR (r := rIn K false) op_in_seq (pv 9) (pv 6) (by rfl))) (fun _ _ _ _ _ => pv 9))))
      (pss_one (ps_if (PW.pt (pw_or (pt_cmpR (op_neD hu) (pcall Cord hr (pa_cons (pv 6) pa_nil)) (pv 7) (nomark _)) (pw_or (pt_cmpR (op_neD hu) (pcall Cord hr (pa_cons (pe_callTy call_tuple_of (by rfl) (fr_tuple T) (by decide +kernel) (pa_cons (pe_revL (pv 6)) pa_nil)) pa_nil)) (pv 7) (nomark _))
          (pw_or (pt_cmpR (op_neD hu) (pcall Cord hr (pa_cons (pe_lst pa_nil) pa_nil)) (pe_lst pa_nil) (nomark _)) (pw_or1 (pt_cmpR op_ne (pcall Crank hr (pa_cons (pe_glob (v := .str "missing") (by rfl) gM ⟨_, rfl⟩) pa_nil)) (pe_un un_neg pe_int) (nomark _))))))) (pss_one (ps_ret pe_bl)) pss_nil)))))))))))
    (pss_one (ps_ret pe_bl)), ?_⟩
  refine ⟨_, rfl, _, (ns.map V.int).length, rfl, .inl ⟨_, hs, rfl⟩, _, _, rfl, _, _, rfl, _, rfl, ?_, ?_, ?_⟩
  · split <;> (try split) <;> omega
  · split <;> (try split) <;> omega
  generalize hN : (if (if (2 : Int) < (((ns.map V.int).length : Nat) : Int) then (2 : Int) else (((ns.map V.int).length : Nat) : Int)) > 1 then (if (2 : Int) < (((ns.map V.int).length : Nat) : Int) then (2 : Int) else (((ns.map V.int).length : Nat) : Int)) else 1) = nT
  have hT2 : nT ≤ 2 := by
    rw [← hN]
    split <;> (try split) <;> omega
  refine for_range (lo := 0) (n := nT.toNat) (fun i σ H' => Same H H' ∧ ∃ y1 y2 y3 y4 y5 y6 y7 y8 y9 : Option V, σ = [some (.ref a), y1, y2, y3, y4, y5, y6, y7, y8, y9]) ⟨Same.refl _, _, _, _, _, _, _, _, _, _, rfl⟩ ?_ ?_
  case refine_2 =>
    rintro σ H' ⟨_, y1, y2, y3, y4, y5, y6, y7, y8, y9, rfl⟩
    exact kk H'
  rintro i σ H0 hi ⟨sH, y1, y2, y3, y4, y5, y6, y7, y8, y9, rfl⟩
  have hk0 : 0 ≤ (0 : Int) + (i : Int) := by omega
  have hk1 : (0 : Int) + (i : Int) ≤ 1000 := by omega
  generalize hkk : (0 : Int) + (i : Int) = kI at hk0 hk1
  refine q_asgX ⟨_, rfl, _, rfl, a, ns, kI, rfl, sH.seq hs, hk0, hk1, fun p H1 z0 z1 np s1 hp => ?_⟩
  refine q_asgX ⟨_, rfl, p, z0, z1, 100, rfl, hp, by decide, by decide, fun top u0 u1 top0 top1 => ?_⟩
  have h2p : upd H1 p (.lst [V.int u0, V.int u1]) p = some (.lst [V.int u0, V.int u1]) := upd_same
  have s2 : Same H0 (upd H1 p (.lst [V.int u0, V.int u1])) := same_mut s1 np
  generalize upd H1 p (.lst [V.int u0, V.int u1]) = H2 at h2p s2
  -- the first test
  refine ⟨rfl, _, rfl, iteNS rfl ⟨_, rfl, top, rfl, top0, by omega, fun q Hq nq sq hq => ?_⟩⟩
  refine ⟨by decide, fun l nl => ⟨_, rfl, _, _, rfl, rfl, _, rfl, .of_le (by omega) (by omega) (by omega) (by omega), fun m nm => ?_⟩⟩
  have s3 : Same H2 (upd (upd Hq l (.lst [V.non])) m (.lst (rgV 0 (top + 1)))) := (sq.trans (same_new nl)).trans (same_new nm)
  have hl3 : upd (upd Hq l (.lst [V.non])) m (.lst (rgV 0 (top + 1))) l = some (.lst [V.non]) := same_new nm _ _ upd_same
  have hm3 : upd (upd Hq l (.lst [V.non])) m (.lst (rgV 0 (top + 1))) m = some (.lst (rgV 0 (top + 1))) := upd_same
  have hq3 : upd (upd Hq l (.lst [V.non])) m (.lst (rgV 0 (top + 1))) q = some (.lst (valsTo top)) := same_new nm _ _ (same_new nl _ _ hq)
  generalize upd (upd Hq l (.lst [V.non])) m (.lst (rgV 0 (top + 1))) = H3 at s3 hl3 hm3 hq3
  refine ⟨l, m, _, _, rfl, rfl, hl3, hm3, ?_, fun c nc => ?_⟩
  · rw [rgV_length]
    have e : sizeLine = 16777216 := by decide
    rw [e]
    show 1 + (top + 1 - 0).toNat ≤ _
    omega
  refine ne_lists (xs := valsTo top) (sqL_of (same_new nc _ _ hq3)) (sqL_of upd_same) ?_ ⟨_, rfl, iteF ?_⟩
  · unfold valsTo rgV
    rw [List.all_cons, List.all_map, Bool.and_eq_true, List.all_eq_true]
    exact ⟨rfl, fun _ _ => rfl⟩
  have s4 : Same H0 (upd H3 c (.lst ([V.non] ++ rgV 0 (top + 1)))) := (s2.trans s3).trans (same_new nc)
  have h4p := same_new (o := .lst ([V.non] ++ rgV 0 (top + 1))) nc _ _ (s3 _ _ h2p)
  generalize upd H3 c (.lst ([V.non] ++ rgV 0 (top + 1))) = H4 at s4 h4p
  -- the values
  refine ⟨_, rfl, _, rfl, _, _, rfl, rfl, (by show 6 ≤ sizeLine; decide), fun l1 nl1 => ⟨l1, rfl, ⟨_, sqL_of upd_same⟩, ?_⟩⟩
  have s5 : Same H4 (upd H4 l1 (.lst [.non, .int 0, .int 1, .int top, .int (top + 1), .int 200])) := same_new nl1
  have hl5 : upd H4 l1 (.lst [.non, .int 0, .int 1, .int top, .int (top + 1), .int 200]) l1 = some (.lst [.non, .int 0, .int 1, .int top, .int (top + 1), .int 200]) := upd_same
  generalize upd H4 l1 (.lst [.non, .int 0, .int 1, .int top, .int (top + 1), .int 200]) = H5 at s5 hl5
  refine for_list (xs := [.non, .int 0, .int 1, .int top, .int (top + 1), .int 200]) (fun _ σ H' => Same H5 H' ∧ ∃ y, σ = [some (.ref a), some (.int kI), some (.ref p), some (.int top), y, y5, y6, y7, y8, y9]) ⟨Same.refl _, _, rfl⟩ (fun _ σ H' _ h => h.1.seq (sqL_of hl5)) ?_ ?_
  · rintro j x σ H' hx ⟨s', y, rfl⟩
    have hv : x = .non ∨ ∃ n : Int, x = .int n ∧ 0 ≤ n := by
      have hm := List.mem_of_getElem? hx
      simp only [List.mem_cons, List.not_mem_nil, or_false] at hm
      rcases hm with rfl | rfl | rfl | rfl | rfl | rfl
      · exact .inl rfl
      · exact .inr ⟨_, rfl, by omega⟩
      · exact .inr ⟨_, rfl, by omega⟩
      · exact .inr ⟨_, rfl, by omega⟩
      · exact .inr ⟨_, rfl, by omega⟩
      · exact .inr ⟨_, rfl, by omega⟩
    rcases hv with rfl | ⟨n, rfl, hn⟩
    · refine ⟨_, rfl, .non, _, rfl, .base .non, _, _, rfl, rfl, _, rfl, iteNS rfl ⟨_, rfl, _, rfl, .non, top, _, rfl, .base .non, _, rfl, rfl, _, rfl, iteT ⟨rfl, _, rfl, iteNS rfl ?_⟩⟩⟩
      exact ⟨_, rfl, .non, _, rfl, fun _ _ => .base .non, fun H2 s2 => ⟨_, rfl, rfl, _, rfl, iteT ⟨_, rfl, rfl, _, rfl, iteNS rfl ⟨s'.trans s2, _, rfl⟩⟩⟩⟩
    · have hv : isVal (.int n) = true := decide_eq_true hn
      refine ⟨_, rfl, .int n, _, rfl, .base (.int n), _, _, rfl, rfl, _, rfl, iteNS hv ⟨_, rfl, _, rfl, .int n, top, _, rfl, .base (.int n), _, rfl, rfl, _, rfl, iteF ⟨_, rfl, _, rfl, _, _, rfl, rfl, rfl, _, rfl, iteNS ?_ ?_⟩⟩⟩
      · show V.bl (decide (0 ≤ n) && decide (n ≤ top)) = _
        rw [decide_eq_true hn, Bool.true_and]
      exact ⟨_, rfl, .int n, _, rfl, fun _ _ => .base (.int n), fun H2 s2 => ⟨_, rfl, rfl, _, rfl, iteF ⟨_, rfl, rfl, _, rfl, iteNS rfl ⟨s'.trans s2, _, rfl⟩⟩⟩⟩
  rintro σ H5' ⟨s5', y4', rfl⟩
  have h5p := s5' _ _ (s5 _ _ h4p)
  have s5t := (s4.trans s5).trans s5'
  -- the odd ones
  refine ⟨_, rfl, (by show 1 ≤ sizeLine; decide), fun t1 nt1 => ⟨(by show 0 ≤ sizeLine; decide), fun l2 nl2 d1 nd1 => ⟨(by show 8 ≤ sizeLine; decide), fun l3 nl3 => ⟨l3, rfl, ⟨_, sqL_of upd_same⟩, ?_⟩⟩⟩⟩
  have s6 : Same H5' (upd (upd (upd (upd H5' t1 (.tup [.int 1])) l2 (.lst [])) d1 (.dK [])) l3 (.lst [.int (-1), .bl true, .bl false, .str "1", .str "missing", .ref t1, .ref l2, .ref d1])) :=
    (((same_new nt1).trans (same_new nl2)).trans (same_new nd1)).trans (same_new nl3)
  have ht6 : upd (upd (upd (upd H5' t1 (.tup [.int 1])) l2 (.lst [])) d1 (.dK [])) l3 (.lst [.int (-1), .bl true, .bl false, .str "1", .str "missing", .ref t1, .ref l2, .ref d1]) t1 = some (.tup [.int 1]) :=
    same_new nl3 _ _ (same_new nd1 _ _ (same_new nl2 _ _ upd_same))
  have hl6 : upd (upd (upd (upd H5' t1 (.tup [.int 1])) l2 (.lst [])) d1 (.dK [])) l3 (.lst [.int (-1), .bl true, .bl false, .str "1", .str "missing", .ref t1, .ref l2, .ref d1]) l2 = some (.lst []) :=
    same_new nl3 _ _ (same_new nd1 _ _ upd_same)
  have hd6 : upd (upd (upd (upd H5' t1 (.tup [.int 1])) l2 (.lst [])) d1 (.dK [])) l3 (.lst [.int (-1), .bl true, .bl false, .str "1", .str "missing", .ref t1, .ref l2, .ref d1]) d1 = some (.dK []) := same_new nl3 _ _ upd_same
  have hm6 : upd (upd (upd (upd H5' t1 (.tup [.int 1])) l2 (.lst [])) d1 (.dK [])) l3 (.lst [.int (-1), .bl true, .bl false, .str "1", .str "missing", .ref t1, .ref l2, .ref d1]) l3 = some (.lst [.int (-1), .bl true, .bl false, .str "1", .str "missing", .ref t1, .ref l2, .ref d1]) := upd_same
  generalize upd (upd (upd (upd H5' t1 (.tup [.int 1])) l2 (.lst [])) d1 (.dK [])) l3 (.lst [.int (-1), .bl true, .bl false, .str "1", .str "missing", .ref t1, .ref l2, .ref d1]) = H6 at s6 ht6 hl6 hd6 hm6
  refine for_list (xs := [.int (-1), .bl true, .bl false, .str "1", .str "missing", .ref t1, .ref l2, .ref d1]) (fun _ σ H' => Same H6 H' ∧ ∃ y, σ = [some (.ref a), some (.int kI), some (.ref p), some (.int top), y4', y, y6, y7, y8, y9]) ⟨Same.refl _, _, rfl⟩ (fun _ σ H' _ h => h.1.seq (sqL_of hm6)) ?_ ?_
  · rintro j x σ H' hx ⟨s', y, rfl⟩
    have hb : isVal x = false ∧ ∃ t, TyX K H' x (.type t) := by
      have hm := List.mem_of_getElem? hx
      simp only [List.mem_cons, List.not_mem_nil, or_false] at hm
      rcases hm with rfl | rfl | rfl | rfl | rfl | rfl | rfl | rfl
      · exact ⟨by decide, _, .base (.int _)⟩
      · exact ⟨rfl, _, .base (.bl _)⟩
      · exact ⟨rfl, _, .base (.bl _)⟩
      · exact ⟨rfl, _, .base (.str _)⟩
      · exact ⟨rfl, _, .base (.str _)⟩
      · exact ⟨rfl, _, .base (.tup (s' _ _ ht6))⟩
      · exact ⟨rfl, _, .base (.lst (s' _ _ hl6))⟩
      · exact ⟨rfl, _, .base (.dK (s' _ _ hd6))⟩
    obtain ⟨hb, t, ty⟩ := hb
    exact ⟨_, rfl, x, t, rfl, ty, _, _, rfl, rfl, _, rfl, iteNS hb ⟨_, rfl, _, rfl, x, top, t, rfl, ty, _, _, rfl, rfl, _, rfl, iteNS (within_no hb) ⟨s', _, rfl⟩⟩⟩
  rintro σ H6' ⟨s6', y5', rfl⟩
  have h6p := s6' _ _ (s6 _ _ h5p)
  have s6t := (s5t.trans s6).trans s6'
  -- some drawn ones
  refine ⟨_, rfl, p, _, _, 9, rfl, h6p, by decide, by decide, fun r v0 v1 r0 r1 => ⟨r, rfl, by omega, by omega, fun D nD => ?_⟩⟩
  have h7p : upd H6' p (.lst [V.int v0, V.int v1]) p = some (.lst [V.int v0, V.int v1]) := upd_same
  have s7 : Same H0 (upd H6' p (.lst [V.int v0, V.int v1])) := same_mut s6t np
  generalize upd H6' p (.lst [V.int v0, V.int v1]) = H7 at h7p s7 nD
  have nDp : D ≠ p := fun e => by rw [e, h7p] at nD; cases nD
  refine lc_range (lo := 0) (n := r.toNat) (fun i H' => (∀ b o, b ≠ p → b ≠ D → H7 b = some o → H' b = some o) ∧ (∃ w0 w1 : Int, H' p = some (.lst [.int w0, .int w1])) ∧ ∃ zs : List V, H' D = some (.lst zs) ∧ zs.length = i ∧ ∀ z ∈ zs, Drawn1 z) ?_ ?_ ?_
  · exact ⟨fun b o _ hb e => by rw [upd_ne hb]; exact e, ⟨_, _, by rw [upd_ne nDp.symm]; exact h7p⟩, [], upd_same, rfl, fun z hz => by cases hz⟩
  · rintro j H' hj ⟨k1, ⟨w0, w1, hp'⟩, zs, hD, hzl, hzd⟩
    refine ⟨rfl, _, rfl, _, rfl, p, w0, w1, 5, rfl, hp', by decide, by decide, fun r5 a0 a1 h50 h51 => ⟨_, rfl, p, _, _, 100, rfl, upd_same, by decide, by decide, fun r100 b0 b1 h10 h11 => ⟨(by show 4 ≤ sizeLine; decide), fun l4 nl4 => ?_⟩⟩⟩
    have np4 : p ≠ l4 := fun e => by rw [← e, upd_same] at nl4; cases nl4
    have nD4 : D ≠ l4 := fun e => by rw [← e, upd_ne nDp, upd_ne nDp, hD] at nl4; cases nl4
    refine ⟨p, l4, b0, b1, _, rfl, (by rw [upd_ne np4]; exact upd_same), upd_same, np4.symm, (by show 0 < 4; decide), (by show 4 < 1000000; decide), fun x c0 c1 hx => ⟨zs, ?_, ?_, ?_⟩⟩
    · rw [upd_ne nDp, upd_ne nD4, upd_ne nDp, upd_ne nDp]
      exact hD
    · have e : sizeLine = 16777216 := by decide
      rw [e]
      omega
    · refine ⟨fun b o hb1 hb2 e => ?_, ⟨_, _, by rw [upd_ne nDp.symm]; exact upd_same⟩, zs ++ [x], upd_same, by rw [List.length_append, hzl]; rfl, fun z hz => ?_⟩
      · have e2 := k1 b o hb1 hb2 e
        have nb4 : b ≠ l4 := fun q => by rw [← q, upd_ne hb1, upd_ne hb1, e2] at nl4; cases nl4
        rw [upd_ne hb2, upd_ne hb1, upd_ne nb4, upd_ne hb1, upd_ne hb1]
        exact e2
      · rcases List.mem_append.mp hz with hz | hz
        · exact hzd z hz
        · rw [List.mem_singleton] at hz
          subst hz
          simp only [List.mem_cons, List.not_mem_nil, or_false] at hx
          rcases hx with rfl | rfl | rfl | rfl
          · exact .inl rfl
          · exact .inr (.inl rfl)
          · exact .inr (.inr ⟨_, rfl, h50, by omega⟩)
          · exact .inr (.inr ⟨_, rfl, h10, h11⟩)
  rintro H8 ⟨k8, _, zs, hD8, hzl, hzd⟩
  have s8 : Same H0 H8 := fun b o e => k8 b o (ne_of_none e np) (ne_of_none (s7 _ _ e) nD) (s7 _ _ e)
  have zflat : zs.all flatV = true := List.all_eq_true.mpr fun z hz => by
    rcases hzd z hz with rfl | rfl | ⟨n, rfl, _⟩ <;> rfl
  have zok : ∀ z ∈ zs, ∃ t, ∀ H' : Hp, TyX K H' z (.type t) := fun z hz => tys_ok (drawn_ok (hzd z hz))
  have z9 : zs.length ≤ 9 := by omega
  -- what is due
  refine ⟨(by show 1 ≤ sizeLine; decide), fun l5 nl5 => ⟨_, rfl, D, zs, rfl, .inl (sqL_of (same_new nl5 _ _ hD8)), rfl, zflat, .inr ⟨_, rfl, l5, _, _, rfl, rfl, upd_same, ?_, ?_, ?_, fun l6 nl6 => ?_⟩⟩⟩
  · exact b01_lo _
  · exact b01_hi _
  · exact b01_len _
  refine ⟨(by show 1 ≤ sizeLine; decide), fun l7 nl7 => ⟨_, rfl, D, zs, rfl, .inl (sqL_of (same_new nl7 _ _ (same_new nl6 _ _ (same_new nl5 _ _ hD8)))), rfl, zflat, .inr ⟨_, rfl, l7, _, _, rfl, rfl, upd_same, ?_, ?_, ?_, fun l8 nl8 => ?_⟩⟩⟩
  · exact b01_lo _
  · exact b01_hi _
  · exact b01_len _
  refine ⟨l6, l8, _, _, rfl, rfl, same_new nl8 _ _ (same_new nl7 _ _ upd_same), upd_same, ?_, fun l9 nl9 => ?_⟩
  · have q1 := b01_all (v := V.str "missing") (if false = true then !inV (V.str "missing") zs else inV (V.str "missing") zs)
    have q2 := b01_all (v := V.non) (if false = true then !inV V.non zs else inV V.non zs)
    have e : sizeLine = 16777216 := by decide
    omega
  have e9 : ∀ H : Hp, upd H l9 (.lst ((List.replicate (if (if false = true then !inV (V.str "missing") zs else inV (V.str "missing") zs) = true then (1 : Int) else 0).toNat [V.str "missing"]).flatten ++
      (List.replicate (if (if false = true then !inV V.non zs else inV V.non zs) = true then (1 : Int) else 0).toNat [V.non]).flatten)) l9 = some (.lst ((List.replicate (if inV (.str "missing") zs = true then 1 else 0) [V.str "missing"]).flatten ++
      (List.replicate (if inV .non zs = true then 1 else 0) [V.non]).flatten)) := fun H => by
    rw [upd_same]
    cases inV (.str "missing") zs <;> cases inV .non zs <;> rfl
  have h9 := e9 (upd (upd (upd (upd H8 l5 (.lst [V.str "missing"])) l6 (.lst (List.replicate (if (if false = true then !inV (V.str "missing") zs else inV (V.str "missing") zs) = true then (1 : Int) else 0).toNat [V.str "missing"]).flatten)) l7 (.lst [V.non])) l8
    (.lst (List.replicate (if (if false = true then !inV V.non zs else inV V.non zs) = true then (1 : Int) else 0).toNat [V.non]).flatten))
  have s9 := ((((same_new (o := .lst [V.str "missing"]) nl5).trans (same_new (o := .lst (List.replicate (if (if false = true then !inV (V.str "missing") zs else inV (V.str "missing") zs) = true then (1 : Int) else 0).toNat [V.str "missing"]).flatten) nl6)).trans
    (same_new (o := .lst [V.non]) nl7)).trans (same_new (o := .lst (List.replicate (if (if false = true then !inV V.non zs else inV V.non zs) = true then (1 : Int) else 0).toNat [V.non]).flatten) nl8)).trans
    (same_new (o := .lst ((List.replicate (if (if false = true then !inV (V.str "missing") zs else inV (V.str "missing") zs) = true then (1 : Int) else 0).toNat [V.str "missing"]).flatten ++
      (List.replicate (if (if false = true then !inV V.non zs else inV V.non zs) = true then (1 : Int) else 0).toNat [V.non]).flatten)) nl9)
  generalize upd (upd (upd (upd (upd H8 l5 (.lst [V.str "missing"])) l6 (.lst (List.replicate (if (if false = true then !inV (V.str "missing") zs else inV (V.str "missing") zs) = true then (1 : Int) else 0).toNat [V.str "missing"]).flatten)) l7 (.lst [V.non])) l8 (.lst (List.replicate (if (if false = true then !inV V.non zs else inV V.non zs) = true then (1 : Int) else 0).toNat [V.non]).flatten)) l9 (.lst ((List.replicate (if (if false = true then !inV (V.str "missing") zs else inV (V.str "missing") zs) = true then (1 : Int) else 0).toNat [V.str "missing"]).flatten ++ (List.replicate (if (if false = true then !inV V.non zs else inV V.non zs) = true then (1 : Int) else 0).toNat [V.non]).flatten)) = H9 at s9 h9
  have hD9 := s9 _ _ hD8
  refine ⟨_, rfl, ?_⟩
  refine tlc_R (fun x => inV x zs) (fun x => x) 200 ?_ ?_ ?_ ?_ ?_ ?_ ?_
  · exact fun R r => r H9 (Same.refl _)
  · decide
  · exact fun x => rfl
  · exact fun m hm H' s' R r => ⟨_, rfl, _, rfl, D, zs, rfl, .inl (sqL_of (s' _ _ hD9)), rfl, zflat, _, rfl, r H' (Same.refl _)⟩
  · exact fun m hm hf H' s' R r => ⟨_, rfl, r H' (Same.refl _)⟩
  · decide
  intro l10 H10 nl10 s10 h10
  have e10 : ((((List.range (200 : Int).toNat).map fun m : Nat => V.int (m : Int)).filter fun x => inV x zs).map fun x => x) = (numsIn 200 zs).map V.int := by
    unfold numsIn
    rw [List.map_id', List.filter_map, List.map_map]
    rfl
  rw [e10] at h10
  refine ⟨l9, l10, _, _, rfl, rfl, s10 _ _ h9, h10, ?_, fun l11 nl11 => ?_⟩
  · rw [List.length_map]
    have q1 := b01_nat (v := V.str "missing") (inV (V.str "missing") zs)
    have q2 := b01_nat (v := V.non) (inV V.non zs)
    have q3 : (numsIn 200 zs).length ≤ 200 := by
      unfold numsIn
      rw [List.length_map]
      exact Nat.le_trans (List.length_filter_le _ _) (by rw [List.length_range]; exact Nat.le_refl _)
    have e : sizeLine = 16777216 := by decide
    rw [List.length_append]
    omega
  have s11 := (s9.trans s10).trans (same_new (o := .lst (((List.replicate (if inV (.str "missing") zs = true then 1 else 0) [V.str "missing"]).flatten ++ (List.replicate (if inV .non zs = true then 1 else 0) [V.non]).flatten) ++ (numsIn 200 zs).map V.int)) nl11)
  have h11 : upd H10 l11 (.lst (((List.replicate (if inV (.str "missing") zs = true then 1 else 0) [V.str "missing"]).flatten ++ (List.replicate (if inV .non zs = true then 1 else 0) [V.non]).flatten) ++ (numsIn 200 zs).map V.int)) l11 = some (.lst (dueOf zs)) := upd_same
  generalize upd H10 l11 (.lst (((List.replicate (if inV (.str "missing") zs = true then 1 else 0) [V.str "missing"]).flatten ++ (List.replicate (if inV .non zs = true then 1 else 0) [V.non]).flatten) ++ (numsIn 200 zs).map V.int)) = H11 at s11 h11
  have hD11 := s11 _ _ hD8
  have rm : rankV (.str "missing") = .int (-2) := by decide +kernel
  -- the last test
  refine ⟨_, rfl, D, zs, rfl, .inl (sqL_of hD11), by omega, fun z hz => (zok z hz).imp fun t h H' _ => h H', fun o1 Ho ys ms no so io ho => ⟨_, rfl, ?_⟩⟩
  rw [due_is hzd (fun x => Iff.rfl) io] at ho
  refine ne_lists (xs := dueOf zs) (sqL_of ho) (sqL_of (so _ _ h11)) (due_ok zs) ⟨_, rfl, iteF ?_⟩
  refine ⟨_, rfl, D, zs, rfl, sqL_of (so _ _ hD11), fun r1 nr1 => ⟨r1, _, rfl, .inl ⟨sqL_of upd_same, fun t2 nt2 => ?_⟩⟩⟩
  refine ⟨t2, zs.reverse, rfl, .inr (sqT_of upd_same), by rw [List.length_reverse]; omega, fun z hz => (zok z (List.mem_reverse.mp hz)).imp fun t h H' _ => h H', fun o2 Hp2 ys2 ms2 no2 so2 io2 ho2 => ⟨_, rfl, ?_⟩⟩
  rw [due_is hzd (fun x => List.mem_reverse) io2] at ho2
  have st2 := ((same_new (o := .lst zs.reverse) nr1).trans (same_new (o := .tup zs.reverse) nt2)).trans so2
  refine ne_lists (xs := dueOf zs) (sqL_of ho2) (sqL_of (st2 _ _ (so _ _ h11))) (due_ok zs) ⟨_, rfl, iteF ?_⟩
  refine ⟨(by show 0 ≤ sizeLine; decide), fun e1 ne1 => ⟨e1, [], rfl, .inl (sqL_of upd_same), (by show 0 ≤ 1000; decide), fun z hz => (by cases hz), fun o3 Hp3 ys3 ms3 no3 so3 io3 ho3 => ⟨(by show 0 ≤ sizeLine; decide), fun e2 ne2 => ?_⟩⟩⟩
  have due0 : dueOf [] = [] := by decide +kernel
  rw [due_is (zs := []) (fun x hx => (by cases hx)) (fun x => Iff.rfl) io3, due0] at ho3
  refine ne_lists (xs := []) (sqL_of (same_new ne2 _ _ ho3)) (sqL_of upd_same) rfl ⟨_, rfl, iteF ?_⟩
  refine ⟨.str "missing", _, rfl, fun _ _ => .base (.str _), fun Hz sz => ?_⟩
  rw [rm]
  refine ⟨_, rfl, rfl, _, rfl, iteNS rfl ?_⟩
  exact ⟨sH.trans ((s8.trans s11).trans ((so.trans st2).trans ((((same_new ne1).trans so3).trans (same_new ne2)).trans sz))), _, _, _, _, _, _, _, _, _, rfl⟩
end
theorem factsR {w : World} {K : PySem.W.Frag} {h : Heap} {mg : Str → Option Value} {f : Addr} (X : K.In h) (G : h.Ns mainGlobals mg) (hfa : mg ("law" : Str) = some (.ref f)) (c : He.SaysD fal fnl K ∧ exl K = true) :
    LawOk PySem.Challenge.rw_editionrows_k01_values w mg CX0 6 63 "_law_script" f K := by
  have T : Tx K mg := ⟨c.1, c.2, h, X, G⟩
  obtain ⟨fd, F⟩ := fd_law T
  have e := hfa.symm.trans (mg_law T)
  cases e
  have b := FunD.bindsA (ps := ["_law_script"]) F fun _ _ _ _ _ _ us hl => match us, hl with | [_], _ => rfl
  exact ⟨fd, sp_law K, fun s v => b s [v] rfl, fun H a ns hl hb _ hS => ⟨a, ns, rfl, hS, hl, hb, fun _ => rfl⟩, fun base _ _ => ok_law T F⟩
end ER
open PySem PySem.W PySem.Calls PyProof.Rows
set_option maxRecDepth 100000 in
set_option maxHeartbeats 8000000 in
theorem PySem.Challenge.cw_editionrows_k01_values_holds : PySem.Challenge.rw_editionrows_k01_values.Holds := by
  w_on; o_law
  refine HandSHeadRun.head_any (r := OpenLaw.row PySem.Challenge.rw_editionrows_k01_values) (q := view (OpenLaw.row PySem.Challenge.rw_editionrows_k01_values).prog [14]) (H := ER.hkR) (ob := ER.obR) (M := 600) (loose := ((["MISSING", "is_whole", "is_word", "is_value", "is_within", "is_missing", "values_to", "rank", "in_order", "_law_pool", "_law_draw", "_law_pick"] : List PySem.Str))) (d := HandSHeadRun.topDef (OpenLaw.row PySem.Challenge.rw_editionrows_k01_values).prog 14) (kwd := []) ER.obR_eq
    (by kernel_rfl) (fun s => by kernel_rfl) ER.runR (by kernel_rfl) (by kernel_rfl) (by kernel_rfl) (by rfl) (by first | assumption | decide +kernel) (by decide +kernel) ⟨rfl, rfl, rfl, rfl, rfl, by decide +kernel⟩ ?hw ?hc
  case hw => w_witness2
  case hc =>
    refine Evl2.walk_bits (l := PySem.Challenge.rw_editionrows_k01_values) (n := 63) (k := 6) (x := "_law_script") (CX := L2.CX0) rfl (by decide) (by kernel_rfl) ⟨rfl, by decide, by decide⟩ ?F (fun _ _ _ _ z => z)
    intro w mg fa h Y G hmg0
    obtain ⟨K, KX, c⟩ := Y
    have hmg : mg ("law" : PySem.Str) = some (.ref fa) := by
      have e : (HandSHeadRun.topDef (OpenLaw.row PySem.Challenge.rw_editionrows_k01_values).prog 14).name = ("law" : PySem.Str) := by kernel_rfl
      rw [← e]
      exact hmg0
    exact ⟨K, KX, ER.factsR (w := w) KX G hmg c⟩

