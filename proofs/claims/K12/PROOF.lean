import PyProof.Rows.All
import Wide.All
import OpenK.AllK
import Wide.FinOn
import PyProof.EqAt
import PyProof.EqKinds
import PyProof.TupleCall
import KE.KStateDown
import Lean
import HandS.Base
import HandS.Call
import HandS.List
import HandS.Comp
import HandS.Ends
import HandS.Dict
import HandS.Iter
import HandS.More
import HandS.Words
import HandS.WordsList
import HandS.WordsDict
import HandS.Exc
import HandS.WordsExc
import HandS.Defaults
import HandS.Head0
import HandS.Head1
import HandS.Head2
import HandS.HeadEnd
import HandS.HeadHook1
import HandS.HeadHook2
import HandS.EndBits
import HandS.Wide
import HandS.IsInst
import HandS.Style
import HandS.Flow
import HandS.SortInts
import HandS.ExcIs
import HandS.Conv
import HandS.Text
import HandS.Walk
import HandS.MakeKwOnly
import HandS.Codes
import HandS.Zip0
import HandS.DictComp
import HandS.DictEq
import HandS.NoneIn
import HandS.Small
import KE.KDictPairs
import KE.GoesEnumKw
import KE.KDictCopyH
import HandS.ExcInit
import HandS.ExcField
import HandS.OwnEq
import HandS.TryOnly
import PySem.Challenge.RW_editionrows_k12_known_tables
set_option Elab.async false
set_option linter.all false
set_option maxRecDepth 100000
set_option maxHeartbeats 4000000
/-! What every text of ours begins with: a called def in one word, the head's Hook with one more Bool, the end with the script's bits. -/
namespace Evl2
open PySem PySem.Spec PyProof.Rows L2
/-- a def of the text, with its promise, as a caller takes it -/
structure Callee (P : Program) (w : World) (K : PySem.W.Frag) (mg : Str → Option Value) (base : Heap) (CX : CXT) (k : Nat) (x : Str) (ps : List Str) (dvs : List V) (sp : Sp) : Prop where
  ex : ∃ (fd : FuncData) (ds : List Value), FnOk P w K mg base CX k (He.ga K x) fd ps sp ∧ Binds K fd ps ds ∧ Vals dvs ds
  kp : PySem.W.keepIn K (.ref (He.ga K x)) = true
  g : mg x = some (.ref (He.ga K x))
theorem Callee.up {P : Program} {w : World} {K : PySem.W.Frag} {mg : Str → Option Value} {base : Heap} {CX : CXT} {j k : Nat} {x : Str} {ps : List Str} {dvs : List V} {sp : Sp}
    (C : Callee P w K mg base CX j x ps dvs sp) (h : j ≤ k) : Callee P w K mg base CX k x ps dvs sp := by
  obtain ⟨fd, ds, F, b, v⟩ := C.ex
  exact ⟨⟨fd, ds, F.mono h, b, v⟩, C.kp, C.g⟩
/-- f(e, ..) -/
theorem pcall {X : Cx} {k : Nat} {x : Str} {ps : List Str} {dvs : List V} {sp : Sp} {p pos : Pos} {e : Expr} {es : List Expr} {t : TA} (C : Callee X.prog X.w X.K X.mg X.base CX0 k x ps dvs sp) (hr : Room k X.A) (ha : PA X (e :: es) t) (hg : Gl X x := by rfl)
    (hdb : (x == ("__debug__" : Str)) = false := by decide) (he : starEach (e :: es) X.env = (false, eval e X.env) :: starEach es X.env := by rfl) (hpl : (backTo pos (starEach es X.env)).any (·.1) = false := by rfl) :
    PE X (.Call (.Name x p) (e :: es) [] pos) (tCall sp dvs E0 t) := by
  obtain ⟨fd, ds, F, b, v⟩ := C.ex
  exact pe_call F hr hg C.g C.kp b v pass0 ha hdb he hpl
/-- f() -/
theorem pcall0 {X : Cx} {k : Nat} {x : Str} {ps : List Str} {dvs : List V} {sp : Sp} {p pos : Pos} (C : Callee X.prog X.w X.K X.mg X.base CX0 k x ps dvs sp) (hr : Room k X.A) (hg : Gl X x := by rfl)
    (hdb : (x == ("__debug__" : Str)) = false := by decide) : PE X (.Call (.Name x p) [] [] pos) (tCall sp dvs E0 tNil) := by
  obtain ⟨fd, ds, F, b, v⟩ := C.ex
  exact pe_call0 F hr hg C.g C.kp b v pass0 hdb
/-! ### the head's Hook: the library's facts and one more Bool -/
abbrev AlP : Type := He.AlD × Bool
/-- addresses not yet seen, told by the bits of a number -/
def newA : List Addr → Nat → List Addr → (Nat → List Addr → List Addr) → List Addr
  | [], s, acc, k => k s acc
  | a :: r, s, acc, k => HandSHeadRun.frNat a fun a => match Nat.beq (Nat.land (Nat.shiftRight s a) 1) 1 with
    | true => newA r s acc k
    | false => HandSHeadRun.frNat (Nat.lor s (Nat.shiftLeft 1 a)) fun s => newA r s (a :: acc) k
def refsA (g : Addr → Option Obj) : List Addr → List Addr
  | [] => []
  | a :: r => (match g a with
    | some o => He.refsD o
    | none => []) ++ refsA g r
/-- the addresses reached from the globals in so many steps, each object looked at once -/
def levA (g : Addr → Option Obj) : Nat → Nat → List Addr → List Addr
  | 0, _, fr => fr
  | n + 1, s, fr => newA (refsA g fr) s [] fun s fr' => fr ++ levA g n s fr'
def asW (g : Addr → Option Obj) (n : Nat) : List Addr := levA g n (Nat.shiftLeft 1 mainGlobals) [mainGlobals]
def mapV : List He.DefD → List He.FnW
  | [] => []
  | d :: r => d.val :: mapV r
def obsP (n : Nat) (fa : List He.Fa) (fn : List He.DefD) (ex : PySem.W.Frag → Bool) (g : Addr → Option Obj) : AlP := (He.obsD fa fn (He.frG g (asW g n)), ex (He.frG g (asW g n)))
def valP (fn : List He.DefD) : AlP := ((true, mapV fn), true)
theorem mapV_eq : ∀ fn : List He.DefD, mapV fn = fn.map He.DefD.val
  | [] => rfl
  | d :: r => congrArg (d.val :: ·) (mapV_eq r)
theorem valP_eq (fn : List He.DefD) : valP fn = (He.valD fn, true) := by
  unfold valP He.valD
  rw [mapV_eq]
def hookP (n : Nat) (fa : List He.Fa) (fn : List He.DefD) (ex : PySem.W.Frag → Bool) : PySem.W.Hook where
  α := AlP
  obs := fun s => obsP n fa fn ex s.heap.get?
  val := fun _ => valP fn
  says := fun _ h => ∃ K : PySem.W.Frag, K.In h ∧ (He.SaysD fa fn K ∧ ex K = true)
  of := fun _ _ e => ⟨_, He.frG_in, (congrArg (fun z : AlP => z.1) e).trans (congrArg (fun z : AlP => z.1) (valP_eq fn)), congrArg (fun z : AlP => z.2) e⟩
  keeps := fun _ _ _ ⟨K, hK, c⟩ k => ⟨K, PySem.W.Frag.In.keeps hK k, c⟩
theorem obsP_eq {n : Nat} {fa : List He.Fa} {fn : List He.DefD} {ex : PySem.W.Frag → Bool} {g : Addr → Option Obj} {s : Shared} (h : ∀ a, g a = s.heap.get? a) : obsP n fa fn ex g = (hookP n fa fn ex).obs s := by
  have e : g = s.heap.get? := funext h
  rw [e] <;> rfl
/-- what a law's end wants of its promise at a written part K -/
def LawOk (l : PySem.W.OpenLaw) (w : World) (mg : Str → Option Value) (CX : CXT) (k n : Nat) (x : Str) (fa : Addr) (K : PySem.W.Frag) : Prop :=
  ∃ (fd : FuncData) (sp : Sp), (∀ (s : Shared) (u : Value), BindsTo s fd ⟨[u], []⟩ [(x, u)]) ∧
    (∀ (H : Hp) (a : Addr) (ns : List Int), ns.length ≤ n → (∀ z ∈ ns, Builtin.Int.intBits z ≤ 1048576) → Only H → SqL K H a (ns.map V.int) → sp [.ref a] H (fun v _ => v = .bl true) fun _ _ _ => False) ∧
    ∀ base : Heap, K.In base → base.Ns mainGlobals mg → FnOk l.prog w K mg base CX k fa fd [x] sp
theorem walk_bits {l : PySem.W.OpenLaw} {n k : Nat} {q : Program} {loose : List Str} {XP : (Str → Option Value) → Heap → Prop} {YP : World → Heap → Prop} {d : DefRec} {CX : CXT} {x : Str} (hn : l.most = some n) (hn2 : n ≤ sizeLine) (hdf : d.params.defaults = []) (hr : Room k callerA)
    (F : ∀ (w : World) (mg : Str → Option Value) (fa : Addr) (h : Heap), YP w h → h.Ns mainGlobals mg → mg d.name = some (.ref fa) → ∃ K : PySem.W.Frag, K.In h ∧ LawOk l w mg CX k n x fa K)
    (hCX : ∀ (H : Hp) (s : Shared) (e : Value) (s' : Shared), CX [] H s (fun _ _ _ => False) e s' → False) : PySem.W.WalkO q loose XP YP l.row.toRowW d [] (fun f vs => PySem.call f vs) := by
  refine Att.attach_callB hn hdf fun w s₀ s₁ mg mb fa o pm cd doc a vs ns G Y ho hd hcd hmg hobj hints hlen hbits hg => ?_
  obtain ⟨K, KX, fd, sp, hb, hsp, hF⟩ := F w mg fa _ Y G.T.g hmg
  exact law_call KX G.T.g G.T.b G.T.builtins G.T.nolimit hg hobj hints (Nat.le_trans hlen hn2) hr hF hb (fun H hO hS => hsp H a ns hlen hbits hO hS) fun H e s' => hCX H s₁ e s'
end Evl2
/-! ### more words of ours -/
namespace Evl2
open PySem PySem.Spec PyProof.Rows L2
section
variable {P : Program} {w : World} {K : PySem.W.Frag} {mg : Str → Option Value} {base : Heap}
/-- a method without defaults -/
theorem mkMeth {m q : Str} {params : Arguments} {body : List Stmt} {scope : Scope} {N ps : List Str} {k : Nat} {sp : Sp} {f : Addr} (hF : ∃ fd, FunD K m q params body scope [] [] f fd) (S : FnScope N ps scope)
    (hb : ∀ (kV doc pm : Value) (an : Option Addr) (cdv ct : Value) (us : List Value), us.length = ps.length → bindArgs (PySem.W.fnOf m q params body scope .none kV doc pm an cdv ct) ⟨us, []⟩ = pure (ps.zip us))
    (len : ∀ vs H Q E, sp vs H Q E → vs.length = ps.length)
    (hbody : ∀ (cdv : Value) (A : Around) (outer : List Env) (s : Shared) (H : Hp) (vs : List V) (Q : VK) (E : XK), Room k (A.deeper (envOfC q scope s.heap.objs.size f cdv)) → sp vs H Q E →
      ∃ t, PSs (cxOf CX0 P w K mg base N q scope f cdv A outer s H E).nox body t ∧ t { nx := fun _ H' => Q .non H', rt := Q } (start N vs) H) : ∃ fd, FnOk P w K mg base CX0 (k + 1) f fd ps sp ∧ Binds K fd ps [] := by
  obtain ⟨fd, F⟩ := hF
  refine ⟨fd, F.ok S len fun cdv A outer s H vs Q E hr h => ?_, F.bindsN hb⟩
  obtain ⟨t, h1, h2⟩ := hbody cdv A outer s H vs Q E hr h
  exact ⟨t, h1.nox, h2⟩
/-- a def without defaults, as a callee -/
theorem mkCallee {x y : Str} {params : Arguments} {body : List Stmt} {scope : Scope} {N ps : List Str} {k : Nat} {sp : Sp} (hF : ∃ fd, FunD K y y params body scope [] [] (He.ga K x) fd) (hg : mg x = some (.ref (He.ga K x))) (S : FnScope N ps scope)
    (hb : ∀ (kV doc pm : Value) (an : Option Addr) (cdv ct : Value) (us : List Value), us.length = ps.length → bindArgs (PySem.W.fnOf y y params body scope .none kV doc pm an cdv ct) ⟨us, []⟩ = pure (ps.zip us))
    (len : ∀ vs H Q E, sp vs H Q E → vs.length = ps.length)
    (hbody : ∀ (cdv : Value) (A : Around) (outer : List Env) (s : Shared) (H : Hp) (vs : List V) (Q : VK) (E : XK), Room k (A.deeper (envOfC y scope s.heap.objs.size (He.ga K x) cdv)) → sp vs H Q E →
      ∃ t, PSs (cxOf CX0 P w K mg base N y scope (He.ga K x) cdv A outer s H E).nox body t ∧ t { nx := fun _ H' => Q .non H', rt := Q } (start N vs) H) : Callee P w K mg base CX0 (k + 1) x ps [] sp := by
  obtain ⟨fd, F⟩ := hF
  refine ⟨⟨fd, [], F.ok S len fun cdv A outer s H vs Q E hr h => ?_, F.bindsN hb, .nil⟩, F.kp, hg⟩
  obtain ⟨t, h1, h2⟩ := hbody cdv A outer s H vs Q E hr h
  exact ⟨t, h1.nox, h2⟩
end
theorem s_whenX {t : TT} {tu : TS} {D : Ends} {σ : L2.St} {H : Hp} (P : Hp → Prop) (test : ∀ R : Bool → Hp → Prop, (∀ b H1, P H1 → R b H1) → t σ H R) (body : ∀ H1, P H1 → tu D σ H1) (skip : ∀ H1, P H1 → D.nx σ H1) : tIfS t tu tNext D σ H :=
  test _ fun b H1 p => by
    cases b
    · exact iteF (skip H1 p)
    · exact iteT (body H1 p)
theorem nxt {D : Ends} {σ : L2.St} {H : Hp} (h : D.nx σ H) : tNext D σ H := h
theorem iteD {c A B : Prop} [Decidable c] (hc : ¬ c) (h : B) : if decide c = true then A else B := by
  rw [decide_eq_false hc]
  exact iteF h
theorem iteDT {c A B : Prop} [Decidable c] (hc : c) (h : A) : if decide c = true then A else B := by
  rw [decide_eq_true hc]
  exact iteT h
theorem iteNF {c A B : Prop} [Decidable c] (hc : ¬ c) (h : A) : if (!decide c) = true then A else B := by
  rw [decide_eq_false hc]
  exact iteT h
theorem nes {a b : Str} (h : a ≠ b) : ¬ V.str a = V.str b := fun z => h (V.str.inj z)
theorem nei {a b : Int} (h : a ≠ b) : ¬ V.int a = V.int b := fun z => h (V.int.inj z)
/-- an own error class that is kept -/
def excB (K : PySem.W.Frag) (x : Str) : Bool := PySem.W.keepIn K (.ref (He.ga K x))
/-- what isinstance asks of an own class -/
def insB (K : PySem.W.Frag) (x : Str) : Bool := decide (PySem.W.findIn K (.ref (He.ga K x)) "__class__" = some (some (.builtin "object.__class__"))) && (decide (PySem.W.specialIn K (.builtin "object.__class__") "__get__" = some (some (.builtin "getset_descriptor.__get__"))) &&
  (decide (PySem.W.takesIn K (.builtin "object.__class__") = some true) && decide (PySem.W.mroIn K (He.ga K x) (.type "object") = some true)))
theorem insC_of {K : PySem.W.Frag} {x : Str} (h : insB K x = true) (c : Cls K (He.ga K x)) : C8.InsC K (He.ga K x) := by
  unfold insB at h
  rw [Bool.and_eq_true, Bool.and_eq_true, Bool.and_eq_true] at h
  exact ⟨c, of_decide_eq_true h.1, of_decide_eq_true h.2.1, of_decide_eq_true h.2.2.1, of_decide_eq_true h.2.2.2, if_pos (beq_self_eq_true _)⟩
/-- what != of an own class asks -/
def neB (K : PySem.W.Frag) (x : Str) : Bool := decide (PySem.W.findIn K (.ref (He.ga K x)) "__ne__" = some (some (.builtin "object.__ne__"))) && decide (PySem.W.mroIn K (He.ga K x) (.type "object") = some true)
structure NeC (K : PySem.W.Frag) (C : Addr) : Prop where
  at_ : PySem.W.findIn K (.ref C) "__ne__" = some (some (.builtin "object.__ne__"))
  ob : PySem.W.mroIn K C (.type "object") = some true
theorem neC_of {K : PySem.W.Frag} {x : Str} (h : neB K x = true) : NeC K (He.ga K x) := by
  unfold neB at h
  rw [Bool.and_eq_true] at h
  exact ⟨of_decide_eq_true h.1, of_decide_eq_true h.2⟩
/-- an own error class over ValueError with an own __init__ that keeps its argument under f -/
def oexB (K : PySem.W.Frag) (x f : Str) : Bool := (match K.lookup (He.ga K x) with
  | some ⟨.type "type", _, .cls cd, sl⟩ => (match cd.mro, sl.toList with
    | .ref C' :: bm, [_, _, _, _, some (.builtin n), _] => C' == He.ga K x && (n == "ValueError.__new__" && (!cd.hasDel && (PySem.HandSPX.refsVE bm && cd.hasDict)))
    | _, _ => false)
  | _ => false) && (decide (PySem.W.findIn K (.ref (He.ga K x)) "__setattr__" = some (some (.builtin "object.__setattr__"))) && (decide (PySem.W.subIn K (.ref (He.ga K x)) (.type "BaseException") = some true) && (decide (PySem.W.typeIn K (.ref (He.ga K x)) = some (.type "type")) &&
    (PySem.W.keepIn K (.ref (He.ga K x)) && (xfB K (He.ga K x) && (decide (PySem.W.findIn K (.ref (He.ga K x)) "__init__" = some (some (.ref (He.ma K (He.ga K x) "__init__")))) && (decide (PySem.W.typeIn K (.ref (He.ma K (He.ga K x) "__init__")) = some (.type "function")) &&
    (decide (PySem.W.findIn K (.ref (He.ga K x)) f = some none) && decide (PySem.W.exmOne K (.ref (He.ga K x)) (.ref (He.ga K x)) = some true)))))))))
structure OexF (K : PySem.W.Frag) (x f : Str) : Prop where
  o : OexC K (He.ga K x)
  xf : XfC K (He.ga K x)
  i : PySem.W.findIn K (.ref (He.ga K x)) "__init__" = some (some (.ref (He.ma K (He.ga K x) "__init__")))
  ti : PySem.W.typeIn K (.ref (He.ma K (He.ga K x) "__init__")) = some (.type "function")
  no : PySem.W.findIn K (.ref (He.ga K x)) f = some none
  me : PySem.W.exmOne K (.ref (He.ga K x)) (.ref (He.ga K x)) = some true
theorem oexB_ok {K : PySem.W.Frag} {x f : Str} (h : oexB K x f = true) : OexF K x f := by
  unfold oexB at h
  simp only [Bool.and_eq_true, decide_eq_true_eq] at h
  obtain ⟨h0, h1, h2, h3, h4, h5, h6, h7, h8, h9⟩ := h
  refine ⟨⟨?_, h1, h2, h3, h4⟩, xfB_ok h5, h6, h7, h8, h9⟩
  split at h0
  · rename_i dd cd sl ho
    split at h0
    · rename_i C' bm k0 k1 k2 k3 n k5 hm hs
      simp only [Bool.and_eq_true, beq_iff_eq, Bool.not_eq_true'] at h0
      obtain ⟨hc, hn, hdel, hve, hd⟩ := h0
      obtain ⟨nm, bs, mro, ns, qn, hd', sn, sub, ab, col, del⟩ := cd
      dsimp only at hm hdel hd
      subst hm hdel hd hc hn
      have hsl : sl = #[k0, k1, k2, k3, some (.builtin "ValueError.__new__"), k5] := by
        obtain ⟨l⟩ := sl
        simp only at hs
        rw [hs]
      subst hsl
      exact ⟨_, _, _, _, _, _, _, _, _, _, _, _, _, _, _, ho, hve⟩
    · cases h0
  · cases h0
/-- the empty tuple of the written part -/
def emptyTupB (K : PySem.W.Frag) (a : Addr) : Bool := match K.lookup a with
  | some ⟨.type c, _, .seq its _, _⟩ => decide (c = "tuple") && decide (its.size = 0)
  | _ => false
/-- a pool of draws: a list of two ints -/
def Pl (H : Hp) (a : Addr) : Prop := ∃ z0 z1 : Int, H a = some (.lst [.int z0, .int z1])
/-- all but what stands at a is as it was, at a stands a pool -/
def PlEx (a : Addr) (H H' : Hp) : Prop := (∀ b o, b ≠ a → H b = some o → H' b = some o) ∧ Pl H' a
theorem mod_lo {i j : Int} (h : 0 < j) : 0 ≤ i.fmod j := Int.fmod_nonneg_of_pos i h
theorem mod_hi {i j : Int} (h : 0 < j) : i.fmod j < j := Int.fmod_lt_of_pos i h
/-- values of built-in types: is it an int (no bool)? -/
def isI : V → Bool
  | .int _ => true
  | _ => false
theorem kit_whole {K : PySem.W.Frag} {H : Hp} {x : V} {t : String} (ty : TyX K H x (.type t)) : ∃ a b : Bool, kitB t "int" = some a ∧ kitB t "bool" = some b ∧ (a && !b) = isI x := by
  cases ty with
  | base h => cases h <;> first | exact ⟨true, false, by decide +kernel, by decide +kernel, rfl⟩ | exact ⟨true, true, by decide +kernel, by decide +kernel, rfl⟩ | exact ⟨false, false, by decide +kernel, by decide +kernel, rfl⟩
  | _ => exact ⟨false, false, by decide +kernel, by decide +kernel, rfl⟩
/-! ### heaps -/
theorem same_new {H : Hp} {p : Addr} {o : HO} (h : H p = none) : Same H (upd H p o) := fun a u e => by
  rw [upd_ne (ne_of_none e h)]
  exact e
theorem same_mut {H H' : Hp} {p : Addr} {o : HO} (e : Same H H') (h : H p = none) : Same H (upd H' p o) := fun a u ha => by
  rw [upd_ne (ne_of_none ha h)]
  exact e a u ha
theorem same_tup {K : PySem.W.Frag} {H H' : Hp} {a : Addr} {xs : List V} (e : Same H H') (h : SqT K H a xs) : SqT K H' a xs := by
  rcases h with (h | ⟨o, h⟩) | h
  · exact .inl (.inl (e _ _ h))
  · exact .inl (.inr ⟨o, e _ _ h⟩)
  · exact .inr h
theorem sqL_of {K : PySem.W.Frag} {H : Hp} {a : Addr} {xs : List V} (h : H a = some (.lst xs)) : SqL K H a xs := .inl (.inl h)
theorem sqT_of {K : PySem.W.Frag} {H : Hp} {a : Addr} {xs : List V} (h : H a = some (.tup xs)) : SqT K H a xs := .inl (.inl h)
/-! ### comprehensions that change nothing -/
section
variable {K : PySem.W.Frag} {σ : L2.St} {H : Hp} {tl te : TE} {ta : TA} {tt : TT} {j : Nat} {vs : List Nat} {Q : VK} {xs : List V}
theorem lc_one {f : V → Bool} {v : V → V} {H' : Hp} {D : Addr} {zs : List V} {x : V} (hD : H D = none) (hz : zs.length ≤ 100000) {σ2 : L2.St} (p : Same H H' ∧ H' D = some (.lst zs))
    (ht : ∀ R : Bool → Hp → Prop, (∀ H2, Same H' H2 → R (f x) H2) → tt σ2 H' R) (he : f x = true → ∀ H', Same H H' → ∀ R : VK, (∀ H2, Same H' H2 → R (v x) H2) → te σ2 H' R) {N : Hp → Prop}
    (hN : ∀ H', Same H H' → H' D = some (.lst (zs ++ ([x].filter f).map v)) → N H') :
    tt σ2 H' fun b H3 => if b = true then te σ2 H3 fun y H4 => ∃ acc, H4 D = some (.lst acc) ∧ acc.length < sizeLine ∧ N (upd H4 D (.lst (acc ++ [y]))) else N H3 := by
  refine ht _ fun H3 e3 => ?_
  cases hf : f x with
  | true =>
    refine iteT (he hf H3 (p.1.trans e3) _ fun H4 e4 => ⟨zs, e4 D _ (e3 D _ p.2), Nat.lt_of_le_of_lt hz (by decide), hN _ (same_mut ((p.1.trans e3).trans e4) hD) ?_⟩)
    rw [upd_same, List.filter_cons, if_pos hf]
    rfl
  | false =>
    refine iteF (hN _ (p.1.trans e3) ?_)
    rw [List.filter_cons, if_neg (by rw [hf]; decide)]
    show H3 D = some (.lst (zs ++ []))
    rw [List.append_nil]
    exact e3 D _ p.2
theorem take_one (f : V → Bool) (v : V → V) {i : Nat} {x : V} (h : xs[i]? = some x) : ((xs.take i).filter f).map v ++ ([x].filter f).map v = ((xs.take (i + 1)).filter f).map v := by
  rw [List.take_add_one, h, List.filter_append, List.map_append]
  rfl
theorem take_len (f : V → Bool) (v : V → V) (i : Nat) : (((xs.take i).filter f).map v).length ≤ xs.length := by
  rw [List.length_map]
  refine Nat.le_trans (List.length_filter_le _ _) ?_
  rw [List.length_take]
  exact Nat.min_le_right _ _
theorem tlc_L (f : V → Bool) (v : V → V) (htl : ∀ R : VK, (∀ a H1, Same H H1 → SqL K H1 a xs → R (.ref a) H1) → tl σ H R) (hz : xs.length ≤ 100000) (hw : ∀ x, wipe ((wipe σ vs).set j (some x)) vs = wipe σ vs)
    (ht : ∀ x ∈ xs, ∀ H', Same H H' → ∀ R : Bool → Hp → Prop, (∀ H2, Same H' H2 → R (f x) H2) → tt ((wipe σ vs).set j (some x)) H' R)
    (he : ∀ x ∈ xs, f x = true → ∀ H', Same H H' → ∀ R : VK, (∀ H2, Same H' H2 → R (v x) H2) → te ((wipe σ vs).set j (some x)) H' R)
    (k : ∀ D H', H D = none → Same H H' → H' D = some (.lst ((xs.filter f).map v)) → Q (.ref D) H') : tLc (iList K tl) (gName j) tt te vs σ H Q := by
  refine htl _ fun a H1 e1 hs => ⟨a, rfl, ⟨xs, hs⟩, fun D hD => ?_⟩
  have key : ∀ i x H', xs[i]? = some x → (Same H1 H' ∧ H' D = some (.lst (((xs.take i).filter f).map v))) → gName j x (wipe σ vs) H' fun σ2 H2 => wipe σ2 vs = wipe σ vs ∧ tt σ2 H2 fun b H3 =>
      if b = true then te σ2 H3 fun y H4 => ∃ acc, H4 D = some (.lst acc) ∧ acc.length < sizeLine ∧ (Same H1 (upd H4 D (.lst (acc ++ [y]))) ∧ (upd H4 D (.lst (acc ++ [y]))) D = some (.lst (((xs.take (i + 1)).filter f).map v)))
      else (Same H1 H3 ∧ H3 D = some (.lst (((xs.take (i + 1)).filter f).map v))) := fun i x H' hi p =>
    ⟨hw x, lc_one (N := fun H' => Same H1 H' ∧ H' D = some (.lst (((xs.take (i + 1)).filter f).map v))) (f := f) (v := v) (x := x) hD (Nat.le_trans (take_len f v i) hz) p (ht x (List.mem_of_getElem? hi) H' (e1.trans p.1))
      (fun hf H2 e2 => he x (List.mem_of_getElem? hi) hf H2 (e1.trans e2)) fun H2 s2 d2 => ⟨s2, by rw [d2, take_one f v hi]⟩⟩
  refine lc_list (xs := xs) (fun i H' => Same H1 H' ∧ H' D = some (.lst (((xs.take i).filter f).map v))) ⟨same_new hD, ?_⟩ (fun i H' _ p => p.1.seq hs) key fun H' p => k D H' (e1.free hD) (e1.trans p.1) ?_
  · exact upd_same
  · have q := p.2
    rw [List.take_length] at q
    exact q
theorem tlc_T (f : V → Bool) (v : V → V) (htl : ∀ R : VK, (∀ a H1, Same H H1 → SqT K H1 a xs → R (.ref a) H1) → tl σ H R) (hz : xs.length ≤ 100000) (hw : ∀ x, wipe ((wipe σ vs).set j (some x)) vs = wipe σ vs)
    (ht : ∀ x ∈ xs, ∀ H', Same H H' → ∀ R : Bool → Hp → Prop, (∀ H2, Same H' H2 → R (f x) H2) → tt ((wipe σ vs).set j (some x)) H' R)
    (he : ∀ x ∈ xs, f x = true → ∀ H', Same H H' → ∀ R : VK, (∀ H2, Same H' H2 → R (v x) H2) → te ((wipe σ vs).set j (some x)) H' R)
    (k : ∀ D H', H D = none → Same H H' → H' D = some (.lst ((xs.filter f).map v)) → Q (.ref D) H') : tLc (iTup K tl) (gName j) tt te vs σ H Q := by
  refine htl _ fun a H1 e1 hs => ⟨a, rfl, ⟨xs, hs⟩, fun D hD => ?_⟩
  have key : ∀ i x H', xs[i]? = some x → (Same H1 H' ∧ H' D = some (.lst (((xs.take i).filter f).map v))) → gName j x (wipe σ vs) H' fun σ2 H2 => wipe σ2 vs = wipe σ vs ∧ tt σ2 H2 fun b H3 =>
      if b = true then te σ2 H3 fun y H4 => ∃ acc, H4 D = some (.lst acc) ∧ acc.length < sizeLine ∧ (Same H1 (upd H4 D (.lst (acc ++ [y]))) ∧ (upd H4 D (.lst (acc ++ [y]))) D = some (.lst (((xs.take (i + 1)).filter f).map v)))
      else (Same H1 H3 ∧ H3 D = some (.lst (((xs.take (i + 1)).filter f).map v))) := fun i x H' hi p =>
    ⟨hw x, lc_one (N := fun H' => Same H1 H' ∧ H' D = some (.lst (((xs.take (i + 1)).filter f).map v))) (f := f) (v := v) (x := x) hD (Nat.le_trans (take_len f v i) hz) p (ht x (List.mem_of_getElem? hi) H' (e1.trans p.1))
      (fun hf H2 e2 => he x (List.mem_of_getElem? hi) hf H2 (e1.trans e2)) fun H2 s2 d2 => ⟨s2, by rw [d2, take_one f v hi]⟩⟩
  refine lc_tup (xs := xs) (fun i H' => Same H1 H' ∧ H' D = some (.lst (((xs.take i).filter f).map v))) ⟨same_new hD, ?_⟩ (fun i H' _ p => same_tup p.1 hs) key fun H' p => k D H' (e1.free hD) (e1.trans p.1) ?_
  · exact upd_same
  · have q := p.2
    rw [List.take_length] at q
    exact q
theorem rg_at {n i : Nat} (h : i < n) : ((List.range n).map fun m : Nat => V.int (m : Int))[i]? = some (V.int (i : Int)) := by
  rw [List.getElem?_map, List.getElem?_range h]
  rfl
theorem tlc_R (f : V → Bool) (v : V → V) (n : Int) (hta : ∀ R : List V → Hp → Prop, (∀ H1, Same H H1 → R [.int n] H1) → ta σ H R) (hz : n ≤ 100000) (hw : ∀ x, wipe ((wipe σ vs).set j (some x)) vs = wipe σ vs)
    (ht : ∀ m : Nat, (m : Int) < n → ∀ H', Same H H' → ∀ R : Bool → Hp → Prop, (∀ H2, Same H' H2 → R (f (.int m)) H2) → tt ((wipe σ vs).set j (some (.int m))) H' R)
    (he : ∀ m : Nat, (m : Int) < n → f (.int m) = true → ∀ H', Same H H' → ∀ R : VK, (∀ H2, Same H' H2 → R (v (.int m)) H2) → te ((wipe σ vs).set j (some (.int m))) H' R) (hlo : -100000 ≤ n)
    (k : ∀ D H', H D = none → Same H H' → H' D = some (.lst ((((List.range n.toNat).map fun m : Nat => V.int (m : Int)).filter f).map v)) → Q (.ref D) H') : tLc (iRng1 ta) (gName j) tt te vs σ H Q := by
  refine hta _ fun H1 e1 => ⟨n, rfl, by omega, by omega, fun D hD => ?_⟩
  have key : ∀ i H', i < n.toNat → (Same H1 H' ∧ H' D = some (.lst (((((List.range n.toNat).map fun m : Nat => V.int (m : Int)).take i).filter f).map v))) → gName j (.int ((0 : Int) + (i : Int))) (wipe σ vs) H' fun σ2 H2 => wipe σ2 vs = wipe σ vs ∧ tt σ2 H2 fun b H3 =>
      if b = true then te σ2 H3 fun y H4 => ∃ acc, H4 D = some (.lst acc) ∧ acc.length < sizeLine ∧ (Same H1 (upd H4 D (.lst (acc ++ [y]))) ∧ (upd H4 D (.lst (acc ++ [y]))) D = some (.lst (((((List.range n.toNat).map fun m : Nat => V.int (m : Int)).take (i + 1)).filter f).map v)))
      else (Same H1 H3 ∧ H3 D = some (.lst (((((List.range n.toNat).map fun m : Nat => V.int (m : Int)).take (i + 1)).filter f).map v))) := fun i H' hi p => by
    have e0 : (0 : Int) + (i : Int) = (i : Int) := Int.zero_add _
    rw [e0]
    have hin : (i : Int) < n := by omega
    have hl := take_len (xs := (List.range n.toNat).map fun m : Nat => V.int (m : Int)) f v i
    have hl2 : ((List.range n.toNat).map fun m : Nat => V.int (m : Int)).length = n.toNat := by simp
    exact ⟨hw _, lc_one (N := fun H' => Same H1 H' ∧ H' D = some (.lst (((((List.range n.toNat).map fun m : Nat => V.int (m : Int)).take (i + 1)).filter f).map v))) (f := f) (v := v) (x := .int i) hD (by omega) p (ht i hin H' (e1.trans p.1))
      (fun hf H2 e2 => he i hin hf H2 (e1.trans e2)) fun H2 s2 d2 => ⟨s2, by rw [d2, take_one f v (rg_at hi)]⟩⟩
  refine lc_range (lo := 0) (n := n.toNat) (fun i H' => Same H1 H' ∧ H' D = some (.lst (((((List.range n.toNat).map fun m : Nat => V.int (m : Int)).take i).filter f).map v))) ⟨same_new hD, ?_⟩ key fun H' p => k D H' (e1.free hD) (e1.trans p.1) ?_
  · exact upd_same
  · have q := p.2
    rw [List.take_of_length_le (by simp)] at q
    exact q
end
section
variable {K : PySem.W.Frag} {σ : L2.St} {H : Hp} {te ta : TE} {tt : TT} {U : TS} {D : Ends}
/-- if t: l.append(e), told by the truth of t -/
theorem q_ifapp {l : Addr} {zs : List V} {v : V} (b : Bool) (ht : ∀ R : Bool → Hp → Prop, (∀ H2, Same H H2 → R b H2) → tt σ H R) (hl : H l = some (.lst zs)) (hz : zs.length ≤ 100000) (ha : ∀ (H : Hp) (R : VK), R (.ref l) H → ta σ H R) (he : ∀ (H : Hp) (R : VK), R v H → te σ H R)
    (k : ∀ H', (∀ c o, c ≠ l → H c = some o → H' c = some o) → H' l = some (.lst (zs ++ if b = true then [v] else [])) → U D σ H') : tSeq (tIfS tt (tDrop (tBM K "list" rAppend ta (tCons te tNil))) tNext) U D σ H := by
  refine ht _ fun H2 s2 => ?_
  cases b with
  | true =>
    refine iteT (ha H2 _ ⟨.inl ⟨rfl, _, sqL_of (s2 _ _ hl)⟩, he _ _ ⟨l, _, _, rfl, rfl, s2 _ _ hl, Nat.lt_of_le_of_lt hz (by decide), k _ (fun c o hc e => ?_) upd_same⟩⟩)
    rw [upd_ne hc]
    exact s2 _ _ e
  | false =>
    refine iteF (k H2 (fun c o _ e => s2 _ _ e) ?_)
    show H2 l = some (.lst (zs ++ []))
    rw [List.append_nil]
    exact s2 _ _ hl
end
section
variable {σ : L2.St} {H : Hp} {te : TE} {U : TS} {D : Ends}
/-- x = e, then the rest -/
theorem q_asgX {i : Nat} (h : te σ H fun x H1 => U D (σ.set i (some x)) H1) : tSeq (tAsg te (gName i)) U D σ H := h
/-- x = e, e some int -/
theorem q_asgI {i : Nat} (h : ∀ R : VK, (∀ z : Int, R (.int z) H) → te σ H R) (k : ∀ z : Int, U D (σ.set i (some (.int z))) H) : tSeq (tAsg te (gName i)) U D σ H := h _ k
end
section
variable {K : PySem.W.Frag} {σ : L2.St} {H : Hp} {X : TE} {r : List V → Hp → VK → Prop} {g : TG} {tb U : TS} {D : Ends}
/-- a test by a call of one argument, a for over such a call: the argument first -/
theorem pl_b1 {R : Bool → Hp → Prop} (h : X σ H fun v H1 => r [v] H1 fun x H2 => ∃ c, x = .bl c ∧ R c H2) : tB (tCB r (tCons X tNil)) σ H R := h
theorem pl_r1 {r : List V → Hp → VK → Prop} (h : X σ H fun v H1 => r [v] H1 D.rt) : tRet (tCB r (tCons X tNil)) D σ H := h
theorem pl_forL1 (h : X σ H fun v H1 => r [v] H1 fun x H2 => ∃ a, x = .ref a ∧ (∃ xs, SqL K H2 a xs) ∧ tFor (fun _ H R => R (Itl K a) H) g tb { D with nx := U D } σ H2) : tSeq (tFor (iList K (tCB r (tCons X tNil))) g tb) U D σ H := h
end
/-! ### == of lists of flat values -/
def okV : V → Bool
  | .non => true
  | .bl _ => true
  | .int _ => true
  | .str x => PyData.canLay0 (.str x)
  | _ => false
def dtV : V → PyData
  | .bl b => .bool b
  | .int i => .int i
  | .str x => .str x
  | _ => .none
theorem dp_ok {K : PySem.W.Frag} {H : Hp} : ∀ {x : V}, okV x = true → Dp K H x (dtV x)
  | .non, _ => .non
  | .bl b, _ => .bl b
  | .int i, _ => .int i
  | .str x, _ => .str x
  | .byt _, h => by cases h
  | .flt _, h => by cases h
  | .ref _, h => by cases h
  | .ty _, h => by cases h
theorem dps_ok {K : PySem.W.Frag} {H : Hp} : ∀ {xs : List V}, xs.all okV = true → DpAll K H xs (xs.map dtV)
  | [], _ => .nil
  | x :: r, h => by
    rw [List.all_cons, Bool.and_eq_true] at h
    exact .cons (dp_ok h.1) (dps_ok h.2)
theorem lay_ok : ∀ {x : V}, okV x = true → PyData.canLay0 (dtV x) = true ∧ PyData.depth (dtV x) = 0
  | .non, _ => ⟨rfl, rfl⟩
  | .bl b, _ => ⟨rfl, rfl⟩
  | .int i, _ => ⟨rfl, rfl⟩
  | .str x, h => ⟨h, rfl⟩
  | .byt _, h => by cases h
  | .flt _, h => by cases h
  | .ref _, h => by cases h
  | .ty _, h => by cases h
theorem lays_ok : ∀ {xs : List V}, xs.all okV = true → PyData.canLayAll0 (xs.map dtV) = true ∧ PyData.depthAll (xs.map dtV) = 0
  | [], _ => ⟨rfl, rfl⟩
  | x :: r, h => by
    rw [List.all_cons, Bool.and_eq_true] at h
    obtain ⟨h1, h2⟩ := lay_ok h.1
    obtain ⟨h3, h4⟩ := lays_ok h.2
    constructor
    · show (PyData.canLay0 (dtV x) && PyData.canLayAll0 (r.map dtV)) = true
      rw [h1, h3]
      rfl
    · show max (PyData.depth (dtV x)) (PyData.depthAll (r.map dtV)) = 0
      rw [h2, h4]
      rfl
theorem shaped_ok {xs : List V} (h : xs.all okV = true) : SeqAt.shaped (.list (xs.map dtV)) = true := by
  obtain ⟨h1, h2⟩ := lays_ok h
  unfold SeqAt.shaped
  rw [Bool.and_eq_true]
  refine ⟨h1, decide_eq_true ?_⟩
  show PyData.depthAll (xs.map dtV) + 1 ≤ 64
  rw [h2]
  decide
theorem eqv_ok : ∀ {x : V}, okV x = true → PyData.eqv (dtV x) (dtV x) = true
  | .non, _ => rfl
  | .bl b, _ => by simp [dtV, PyData.eqv]
  | .int i, _ => by simp [dtV, PyData.eqv]
  | .str x, _ => by simp [dtV, PyData.eqv]
  | .byt _, h => by cases h
  | .flt _, h => by cases h
  | .ref _, h => by cases h
  | .ty _, h => by cases h
theorem eqvs_ok : ∀ {xs : List V}, xs.all okV = true → PyData.eqvAll (xs.map dtV) (xs.map dtV) = true
  | [], _ => rfl
  | x :: r, h => by
    rw [List.all_cons, Bool.and_eq_true] at h
    show (PyData.eqv (dtV x) (dtV x) && PyData.eqvAll (r.map dtV) (r.map dtV)) = true
    rw [eqv_ok h.1, eqvs_ok h.2]
    rfl
theorem ne_lists {K : PySem.W.Frag} {H : Hp} {p q : Addr} {xs : List V} {Q : VK} (hp : SqL K H p xs) (hq : SqL K H q xs) (hf : xs.all okV = true) (k : Q (.bl false) H) : rNeD K (.ref p) (.ref q) H Q := by
  refine ⟨.list (xs.map dtV), .list (xs.map dtV), .lst hp (dps_ok hf), .lst hq (dps_ok hf), shaped_ok hf, shaped_ok hf, ?_⟩
  have e : PyData.eqv (.list (xs.map dtV)) (.list (xs.map dtV)) = true := eqvs_ok hf
  rw [e]
  exact k
/-- a value of a built-in type that is no object -/
theorem ty_ok {K : PySem.W.Frag} {H : Hp} : ∀ {x : V}, okV x = true → ∃ t, TyX K H x (.type t)
  | .non, _ => ⟨_, .base .non⟩
  | .bl b, _ => ⟨_, .base (.bl b)⟩
  | .int i, _ => ⟨_, .base (.int i)⟩
  | .str x, _ => ⟨_, .base (.str x)⟩
  | .byt _, h => by cases h
  | .flt _, h => by cases h
  | .ref _, h => by cases h
  | .ty _, h => by cases h
theorem tys_ok {K : PySem.W.Frag} : ∀ {x : V}, okV x = true → ∃ t, ∀ H : Hp, TyX K H x (.type t)
  | .non, _ => ⟨_, fun _ => .base .non⟩
  | .bl b, _ => ⟨_, fun _ => .base (.bl b)⟩
  | .int i, _ => ⟨_, fun _ => .base (.int i)⟩
  | .str x, _ => ⟨_, fun _ => .base (.str x)⟩
  | .byt _, h => by cases h
  | .flt _, h => by cases h
  | .ref _, h => by cases h
  | .ty _, h => by cases h
section
variable {K : PySem.W.Frag} {σ : L2.St} {H : Hp} {tl te : TE} {j : Nat} {vs : List Nat} {Q : VK}
/-- [e for c in a text] -/
theorem tlc_S (v : Nat → V) (z : Str) (htl : ∀ R : VK, R (.str z) H → tl σ H R) (hz : z.cps.size ≤ 100000) (hw : ∀ x, wipe ((wipe σ vs).set j (some x)) vs = wipe σ vs)
    (he : ∀ c ∈ z.cps.toList, ∀ H', Same H H' → ∀ R : VK, (∀ H2, Same H' H2 → R (v c) H2) → te ((wipe σ vs).set j (some (.str ⟨#[c]⟩))) H' R)
    (k : ∀ D H', H D = none → Same H H' → H' D = some (.lst (z.cps.toList.map v)) → Q (.ref D) H') : tLc (iStr tl) (gName j) tYes te vs σ H Q := by
  refine htl _ ⟨z, rfl, fun D hD => ?_⟩
  refine lc_it walk_str (fun i H' => Same H H' ∧ H' D = some (.lst ((z.cps.toList.take i).map v))) ⟨same_new hD, upd_same⟩ (fun _ _ _ _ => trivial) ?_ fun H' p => k D H' hD p.1 ?_
  · rintro i x H' H2 hi p ⟨rfl, c, hc, rfl⟩
    have hc2 : z.cps.toList[i]? = some c := by rw [Array.getElem?_toList]; exact hc
    have hm : c ∈ z.cps.toList := List.mem_of_getElem? hc2
    refine ⟨hw _, he c hm _ p.1 _ fun H3 s3 => ⟨_, s3 _ _ p.2, ?_, same_mut (p.1.trans s3) hD, ?_⟩⟩
    · rw [List.length_map, List.length_take]
      have e : sizeLine = 16777216 := by decide
      omega
    · rw [upd_same, List.take_add_one, hc2, List.map_append]
      rfl
  · have q := p.2
    rw [List.take_of_length_le (by simp)] at q
    exact q
end
/-- None and the ints from 0 to g -/
def valsTo (g : Int) : List V := .non :: rgV 0 (g + 1)
/-- all that is no list is as it was -/
def KeepNL (H H' : Hp) : Prop := ∀ b o, (∀ zs, o ≠ HO.lst zs) → H b = some o → H' b = some o
theorem KeepNL.of {H H' : Hp} (s : Same H H') : KeepNL H H' := fun b o _ e => s b o e
theorem KeepNL.lst {H : Hp} {D : Addr} {zs ys : List V} (h : H D = some (.lst zs)) : KeepNL H (upd H D (.lst ys)) := fun b o n e => by
  rw [upd_ne (fun q => by rw [q, h] at e; exact n zs (Option.some.inj e).symm)]
  exact e
section
variable {K : PySem.W.Frag} {σ : L2.St} {H : Hp} {tl te : TE} {j : Nat} {vs : List Nat} {Q : VK} {xs : List V}
/-- [e for x in xs], e making new objects (no lists among what is told of them) -/
theorem tlc_G (Rl : Nat → V → Hp → Prop) (mono : ∀ i y H H', KeepNL H H' → Rl i y H → Rl i y H') (htl : ∀ R : VK, (∀ a H1, Same H H1 → SqL K H1 a xs → R (.ref a) H1) → tl σ H R) (hz : xs.length ≤ 100000) (hw : ∀ x, wipe ((wipe σ vs).set j (some x)) vs = wipe σ vs)
    (he : ∀ i x, xs[i]? = some x → ∀ H', Same H H' → ∀ R : VK, (∀ y H2, Same H' H2 → Rl i y H2 → R y H2) → te ((wipe σ vs).set j (some x)) H' R)
    (k : ∀ D ys H', H D = none → Same H H' → H' D = some (.lst ys) → ys.length = xs.length → (∀ i y, ys[i]? = some y → Rl i y H') → Q (.ref D) H') : tLc (iList K tl) (gName j) tYes te vs σ H Q := by
  refine htl _ fun a H1 e1 hs => ⟨a, rfl, ⟨xs, hs⟩, fun D hD => ?_⟩
  refine lc_list (xs := xs) (fun i H' => Same H1 H' ∧ ∃ ys, H' D = some (.lst ys) ∧ ys.length = i ∧ ∀ m y, ys[m]? = some y → Rl m y H') ⟨same_new hD, [], upd_same, rfl, fun m y h => by simp at h⟩ (fun i H' _ p => p.1.seq hs) ?_ ?_
  · rintro i x H' hx ⟨s', ys, hys, hl, hr⟩
    have hi : i < xs.length := (List.getElem?_eq_some_iff.mp hx).1
    refine ⟨hw x, he i x hx H' (e1.trans s') _ fun y H2 s2 hy => ⟨ys, s2 _ _ hys, ?_, same_mut (s'.trans s2) hD, ys ++ [y], upd_same, by rw [List.length_append, hl]; rfl, fun m z hm => ?_⟩⟩
    · have e : sizeLine = 16777216 := by decide
      omega
    · have kp : KeepNL H2 (upd H2 D (.lst (ys ++ [y]))) := KeepNL.lst (s2 _ _ hys)
      by_cases hm2 : m < ys.length
      · rw [List.getElem?_append_left hm2] at hm
        exact mono m z _ _ kp (mono m z _ _ (KeepNL.of s2) (hr m z hm))
      · have hm3 : m = ys.length := by
          have h := (List.getElem?_eq_some_iff.mp hm).1
          rw [List.length_append] at h
          have : [y].length = 1 := rfl
          omega
        subst hm3
        rw [List.getElem?_append_right (Nat.le_refl _), Nat.sub_self] at hm
        obtain rfl : y = z := Option.some.inj hm
        rw [hl]
        exact mono i y _ _ kp hy
  · rintro H' ⟨s', ys, hys, hl, hr⟩
    exact k D ys H' (e1.free hD) (e1.trans s') hys hl hr
end
end Evl2
/-! ### own methods called by the language: len(x), v in x, x == y, of instances with a __dict__ -/
namespace Evl2
open PySem PySem.Spec PyProof.Rows L2
section
variable {X : Cx} {CX : CXT} {k : Nat} {f C : Addr} {fd : FuncData} {ps : List Str} {sp : Sp} {E : XK}
/-- an own function called at a place below the running body -/
theorem runA {A : Around} {pins : List (Addr × Obj)} {σ : L2.St} {H : Hp} {s : Shared} {Q : VK} {us : List Value} {vs : List V} (F : FnOk X.prog X.w X.K X.mg X.base CX k f fd ps sp) (hr : Room k A) (e0 : Env0 X.prog X.w X.K X.mg X.base A X.stack s H) (hb : Binds X.K fd ps []) (hx : Passes CX X E)
    (I : Inv X pins σ H s) (r : Vals vs us) (h : sp vs H Q E) : wpAny (model X.prog X.w) A (call (.ref f) us) (EP X pins σ Q) X.xe s := by
  have hl : us.length = ps.length := by rw [← r.length]; exact F.len _ _ _ _ h
  refine wpAny_call (codeAny_mono (F.run A X.stack s H ⟨us, []⟩ us vs Q E hr e0 (by
    have := hb s us I.kIn (by simpa using hl)
    simpa using this) r h) fun r s' hq => ?_)
  cases r with
  | error e => exact hx pins σ H s e s' I hq
  | ok fl =>
    cases fl with
    | ret u => exact I.after hq
    | next => exact False.elim hq
    | brk => exact False.elim hq
    | cont => exact False.elim hq
def rLenOwn (C : Addr) (sp : Sp) (E : XK) : List V → Hp → VK → Prop := fun xs H Q => ∃ a dx fs, xs = [V.ref a] ∧ H a = some (.ins C dx fs) ∧ sp [.ref a] H (fun z H' => ∃ i : Int, z = .int i ∧ (0 ≤ i ∧ i < 2 ^ 63) ∧ Q (.int i) H') E
/-- len(x), x with an own __len__ -/
theorem call_lenOwn (F : FnOk X.prog X.w X.K X.mg X.base CX k f fd ps sp) (hm : Meth X.K C "__len__" f) (hr : Room (k + 1) X.A) (hb : Binds X.K fd ps []) (hx : Passes CX X E) : CallR X (.builtin "len") (rLenOwn C sp E) := by
  intro pins s σ H xs us Q I r h
  obtain ⟨a, dx, fs, rfl, ha, q⟩ := h
  obtain ⟨u, rfl, ru⟩ := r.one
  cases (show u = Value.ref a from ru)
  obtain ⟨mA, J, _⟩ := ins_get I.hok ha
  obtain ⟨od, J, _⟩ := J.look
  obtain ⟨m, hF⟩ := I.fr
  refine PySem.W.len_K hF I.ok.mod.kin J hm.at_ hm.fn ?_
  refine wpAny_mono (runA (us := [.ref a]) (vs := [.ref a]) F hr.in1 I.env0.in1 hb hx I (.cons rfl .nil) q) (fun v s' z => ?_) fun _ _ e => e
  obtain ⟨z', H', I', rz, i, ei, hi, qz⟩ := z
  subst ei
  obtain ⟨t, e⟩ := (show ∃ t, v = Value.int i t from rz)
  cases e
  exact ⟨hi, .int i, H', I'.tok _, ⟨_, rfl⟩, qz⟩
def rInOwn (C : Addr) (sp : Sp) (E : XK) : R2 := fun x y H Q => ∃ a dx fs, y = .ref a ∧ H a = some (.ins C dx fs) ∧ sp [y, x] H (fun z H' => ∃ b, z = .bl b ∧ Q (.bl b) H') E
/-- v in x, x with an own __contains__ that answers a Bool -/
theorem op_inOwn (F : FnOk X.prog X.w X.K X.mg X.base CX k f fd ps sp) (hm : Meth X.K C "__contains__" f) (hr : Room k X.A) (hb : Binds X.K fd ps []) (hx : Passes CX X E) : OpR X (compareOp .In) (rInOwn C sp E) := by
  intro pins s σ H x y v u Q I rx ry h
  obtain ⟨a, dx, fs, rfl, ha, q⟩ := h
  cases (show u = Value.ref a from ry)
  obtain ⟨mA, J, _⟩ := ins_get I.hok ha
  obtain ⟨od, J, _⟩ := J.look
  obtain ⟨m, hF⟩ := I.fr
  refine PySem.W.in_K hF I.ok.mod.kin J hm.at_ hm.fn ?_
  refine wpAny_mono (runA (us := [.ref a, v]) (vs := [.ref a, x]) F hr I.env0 hb hx I (.cons rfl (.cons rx .nil)) q) (fun r s' z => ?_) fun _ _ e => e
  obtain ⟨z', H', I', rz, b, eb, qz⟩ := z
  subst eb
  cases (show r = Value.bool b from rz)
  exact wpAny_truthy_bool ⟨.bl b, H', I', rfl, qz⟩
def rEqOwn (C : Addr) (sp : Sp) (E : XK) : R2 := fun x y H Q => ∃ a dx fs b dy gs, x = .ref a ∧ y = .ref b ∧ H a = some (.ins C dx fs) ∧ H b = some (.ins C dy gs) ∧ sp [x, y] H (fun z H' => ∃ c, z = .bl c ∧ Q (.bl c) H') E
/-- x == y, both of a class with an own __eq__ that answers a Bool -/
theorem op_eqOwn (F : FnOk X.prog X.w X.K X.mg X.base CX k f fd ps sp) (hm : Meth X.K C "__eq__" f) (hr : Room k X.A) (hb : Binds X.K fd ps []) (hx : Passes CX X E) : OpR X (compareOp .Eq) (rEqOwn C sp E) := by
  intro pins s σ H x y v u Q I rx ry h
  obtain ⟨a, dx, fs, b, dy, gs, rfl, rfl, ha, hb', q⟩ := h
  cases (show v = Value.ref a from rx)
  cases (show u = Value.ref b from ry)
  obtain ⟨mA, J, _⟩ := ins_get I.hok ha
  obtain ⟨od, J, _⟩ := J.look
  obtain ⟨mB, J', _⟩ := ins_get I.hok hb'
  obtain ⟨od', J', _⟩ := J'.look
  obtain ⟨m, hF⟩ := I.fr
  show wpAny (model X.prog X.w) X.A (richCompare .Eq (.ref a) (.ref b)) (EP X pins σ Q) X.xe s
  refine PySem.W.cmp_K (op := .Eq) (tb := .ref C) hr.units0 hF I.ok.mod.kin J J'.type (by simp [PySem.W.notFirst]) hm.at_ hm.fn ?_
  refine wpAny_mono (runA (us := [.ref a, .ref b]) (vs := [.ref a, .ref b]) F hr I.env0 hb hx I (.cons rfl (.cons rfl .nil)) q) (fun r s' z => ?_) fun _ _ e => e
  obtain ⟨z', H', I', rz, c, ec, qz⟩ := z
  subst ec
  cases (show r = Value.bool c from rz)
  exact ⟨.bl c, H', I', rfl, qz⟩
end
end Evl2
/-! ### comprehensions over enumerate -/
namespace Evl2
open PySem PySem.Spec PyProof.Rows L2
section
variable {K : PySem.W.Frag} {σ : L2.St} {H : Hp} {ta : TA} {te : TE} {j1 j2 : Nat} {vs : List Nat} {Q : VK} {xs : List V}
/-- [e for i, x in enumerate(xs)], e making new objects (no lists among what is told of them) -/
theorem tlc_GE (Rl : Nat → V → Hp → Prop) (mono : ∀ i y H H', KeepNL H H' → Rl i y H → Rl i y H') (hta : ∀ R : List V → Hp → Prop, (∀ a H1, Same H H1 → SqL K H1 a xs → R [.ref a] H1) → ta σ H R) (hz : xs.length ≤ 100000) (hw : ∀ x y, wipe (((wipe σ vs).set j1 (some x)).set j2 (some y)) vs = wipe σ vs)
    (he : ∀ i x, xs[i]? = some x → ∀ H', Same H H' → ∀ R : VK, (∀ y H2, Same H' H2 → Rl i y H2 → R y H2) → te (((wipe σ vs).set j1 (some (.int (i : Nat)))).set j2 (some x)) H' R)
    (k : ∀ D ys H', H D = none → Same H H' → H' D = some (.lst ys) → ys.length = xs.length → (∀ i y, ys[i]? = some y → Rl i y H') → Q (.ref D) H') : tLc (iEnum K ta) (gTup K 2 (gCons (gName j1) (gCons (gName j2) gNil))) tYes te vs σ H Q := by
  refine hta _ fun a H1 e1 hs => ⟨a, xs, rfl, hs, fun D hD => ?_⟩
  refine lc_it walk_enum (fun i H' => Same H1 H' ∧ ∃ ys, H' D = some (.lst ys) ∧ ys.length = i ∧ ∀ m y, ys[m]? = some y → Rl m y H') ⟨same_new hD, [], upd_same, rfl, fun m y h => by simp at h⟩ (fun i H' _ p => p.1.seq hs) ?_ ?_
  · rintro i v H2 H3 hi ⟨s', ys, hys, hl, hr⟩ ⟨T, x', y', rfl, nT, rfl, ex, ey⟩
    obtain rfl := Option.some.inj ex
    have ey : xs[i]? = some y' := ey
    have st : Same H2 (upd H2 T (.tup [.int (i : Nat), y'])) := same_new nT
    refine ⟨T, _, rfl, sqT_of upd_same, rfl, _, _, rfl, _, _, rfl, rfl, hw _ _, he i y' ey _ (e1.trans (s'.trans st)) _ fun y H4 s2 hy => ⟨ys, s2 _ _ (st _ _ hys), ?_, same_mut (s'.trans (st.trans s2)) hD, ys ++ [y], upd_same, by rw [List.length_append, hl]; rfl, fun m z hm => ?_⟩⟩
    · have e : sizeLine = 16777216 := by decide
      omega
    · have kp : KeepNL H4 (upd H4 D (.lst (ys ++ [y]))) := KeepNL.lst (s2 _ _ (st _ _ hys))
      by_cases hm2 : m < ys.length
      · rw [List.getElem?_append_left hm2] at hm
        exact mono m z _ _ kp (mono m z _ _ (KeepNL.of (st.trans s2)) (hr m z hm))
      · have hm3 : m = ys.length := by
          have h := (List.getElem?_eq_some_iff.mp hm).1
          rw [List.length_append] at h
          have : [y].length = 1 := rfl
          omega
        subst hm3
        rw [List.getElem?_append_right (Nat.le_refl _), Nat.sub_self] at hm
        obtain rfl : y = z := Option.some.inj hm
        rw [hl]
        exact mono i y _ _ kp hy
  · rintro H' ⟨s', ys, hys, hl, hr⟩
    exact k D ys H' (e1.free hD) (e1.trans s') hys hl hr
end
end Evl2

namespace ER
open PySem PySem.Spec PyProof.Rows L2 Evl2
def top (i : Nat) : Stmt := PySem.Challenge.pw_editionrows_k12_known_tables.main.body.getD i (.Pass ⟨0, 0, 0, 0⟩)
abbrev s__wall : Stmt := top 0
theorem sc__wall : FnScope ["k"] ["k"] (defScope s__wall) := ⟨rfl, rfl, rfl, by decide +kernel, rfl, by decide +kernel, by decide +kernel⟩
def d__wall : He.DefD := ⟨("_wall", none), "_wall", "_wall", defArgs s__wall, defBody s__wall, defScope s__wall, [], []⟩
abbrev s_BadColumn___init__ : Stmt := inClass (top 3) 0
theorem sc_BadColumn___init__ : FnScope ["self", "index"] ["self", "index"] (defScope s_BadColumn___init__) := ⟨rfl, rfl, rfl, by decide +kernel, rfl, by decide +kernel, by decide +kernel⟩
def d_BadColumn___init__ : He.DefD := ⟨("BadColumn", some "__init__"), "__init__", "BadColumn.__init__", defArgs s_BadColumn___init__, defBody s_BadColumn___init__, defScope s_BadColumn___init__, [], []⟩
abbrev s_BadPart___init__ : Stmt := inClass (top 4) 0
theorem sc_BadPart___init__ : FnScope ["self", "part"] ["self", "part"] (defScope s_BadPart___init__) := ⟨rfl, rfl, rfl, by decide +kernel, rfl, by decide +kernel, by decide +kernel⟩
def d_BadPart___init__ : He.DefD := ⟨("BadPart", some "__init__"), "__init__", "BadPart.__init__", defArgs s_BadPart___init__, defBody s_BadPart___init__, defScope s_BadPart___init__, [], []⟩
abbrev s_BadChange___init__ : Stmt := inClass (top 5) 0
theorem sc_BadChange___init__ : FnScope ["self", "index"] ["self", "index"] (defScope s_BadChange___init__) := ⟨rfl, rfl, rfl, by decide +kernel, rfl, by decide +kernel, by decide +kernel⟩
def d_BadChange___init__ : He.DefD := ⟨("BadChange", some "__init__"), "__init__", "BadChange.__init__", defArgs s_BadChange___init__, defBody s_BadChange___init__, defScope s_BadChange___init__, [], []⟩
abbrev s_CannotBe___init__ : Stmt := inClass (top 6) 0
theorem sc_CannotBe___init__ : FnScope ["self", "word"] ["self", "word"] (defScope s_CannotBe___init__) := ⟨rfl, rfl, rfl, by decide +kernel, rfl, by decide +kernel, by decide +kernel⟩
def d_CannotBe___init__ : He.DefD := ⟨("CannotBe", some "__init__"), "__init__", "CannotBe.__init__", defArgs s_CannotBe___init__, defBody s_CannotBe___init__, defScope s_CannotBe___init__, [], []⟩
abbrev s_BadEdition___init__ : Stmt := inClass (top 7) 0
theorem sc_BadEdition___init__ : FnScope ["self", "edition"] ["self", "edition"] (defScope s_BadEdition___init__) := ⟨rfl, rfl, rfl, by decide +kernel, rfl, by decide +kernel, by decide +kernel⟩
def d_BadEdition___init__ : He.DefD := ⟨("BadEdition", some "__init__"), "__init__", "BadEdition.__init__", defArgs s_BadEdition___init__, defBody s_BadEdition___init__, defScope s_BadEdition___init__, [], []⟩
abbrev s_BadRow___init__ : Stmt := inClass (top 8) 0
theorem sc_BadRow___init__ : FnScope ["self", "index"] ["self", "index"] (defScope s_BadRow___init__) := ⟨rfl, rfl, rfl, by decide +kernel, rfl, by decide +kernel, by decide +kernel⟩
def d_BadRow___init__ : He.DefD := ⟨("BadRow", some "__init__"), "__init__", "BadRow.__init__", defArgs s_BadRow___init__, defBody s_BadRow___init__, defScope s_BadRow___init__, [], []⟩
abbrev s_UnknownName___init__ : Stmt := inClass (top 9) 0
theorem sc_UnknownName___init__ : FnScope ["self", "name"] ["self", "name"] (defScope s_UnknownName___init__) := ⟨rfl, rfl, rfl, by decide +kernel, rfl, by decide +kernel, by decide +kernel⟩
def d_UnknownName___init__ : He.DefD := ⟨("UnknownName", some "__init__"), "__init__", "UnknownName.__init__", defArgs s_UnknownName___init__, defBody s_UnknownName___init__, defScope s_UnknownName___init__, [], []⟩
abbrev s_TooMany___init__ : Stmt := inClass (top 10) 0
theorem sc_TooMany___init__ : FnScope ["self", "limit"] ["self", "limit"] (defScope s_TooMany___init__) := ⟨rfl, rfl, rfl, by decide +kernel, rfl, by decide +kernel, by decide +kernel⟩
def d_TooMany___init__ : He.DefD := ⟨("TooMany", some "__init__"), "__init__", "TooMany.__init__", defArgs s_TooMany___init__, defBody s_TooMany___init__, defScope s_TooMany___init__, [], []⟩
abbrev s_is_whole : Stmt := top 16
theorem sc_is_whole : FnScope ["value"] ["value"] (defScope s_is_whole) := ⟨rfl, rfl, rfl, by decide +kernel, rfl, by decide +kernel, by decide +kernel⟩
def d_is_whole : He.DefD := ⟨("is_whole", none), "is_whole", "is_whole", defArgs s_is_whole, defBody s_is_whole, defScope s_is_whole, [], []⟩
abbrev s_is_list : Stmt := top 17
theorem sc_is_list : FnScope ["value"] ["value"] (defScope s_is_list) := ⟨rfl, rfl, rfl, by decide +kernel, rfl, by decide +kernel, by decide +kernel⟩
def d_is_list : He.DefD := ⟨("is_list", none), "is_list", "is_list", defArgs s_is_list, defBody s_is_list, defScope s_is_list, [], []⟩
abbrev s_is_word : Stmt := top 18
theorem sc_is_word : FnScope ["value", "words"] ["value", "words"] (defScope s_is_word) := ⟨rfl, rfl, rfl, by decide +kernel, rfl, by decide +kernel, by decide +kernel⟩
def d_is_word : He.DefD := ⟨("is_word", none), "is_word", "is_word", defArgs s_is_word, defBody s_is_word, defScope s_is_word, [], []⟩
abbrev s_is_name : Stmt := top 19
theorem sc_is_name : FnScope ["value", "letter"] ["value"] (defScope s_is_name) := ⟨rfl, rfl, rfl, by decide +kernel, rfl, by decide +kernel, by decide +kernel⟩
def d_is_name : He.DefD := ⟨("is_name", none), "is_name", "is_name", defArgs s_is_name, defBody s_is_name, defScope s_is_name, [], []⟩
abbrev s_is_greatest : Stmt := top 20
theorem sc_is_greatest : FnScope ["value"] ["value"] (defScope s_is_greatest) := ⟨rfl, rfl, rfl, by decide +kernel, rfl, by decide +kernel, by decide +kernel⟩
def d_is_greatest : He.DefD := ⟨("is_greatest", none), "is_greatest", "is_greatest", defArgs s_is_greatest, defBody s_is_greatest, defScope s_is_greatest, [], []⟩
abbrev s_is_value : Stmt := top 21
theorem sc_is_value : FnScope ["value"] ["value"] (defScope s_is_value) := ⟨rfl, rfl, rfl, by decide +kernel, rfl, by decide +kernel, by decide +kernel⟩
def d_is_value : He.DefD := ⟨("is_value", none), "is_value", "is_value", defArgs s_is_value, defBody s_is_value, defScope s_is_value, [], []⟩
abbrev s_is_within : Stmt := top 22
theorem sc_is_within : FnScope ["value", "greatest"] ["value", "greatest"] (defScope s_is_within) := ⟨rfl, rfl, rfl, by decide +kernel, rfl, by decide +kernel, by decide +kernel⟩
def d_is_within : He.DefD := ⟨("is_within", none), "is_within", "is_within", defArgs s_is_within, defBody s_is_within, defScope s_is_within, [], []⟩
abbrev s_is_missing : Stmt := top 23
theorem sc_is_missing : FnScope ["value"] ["value"] (defScope s_is_missing) := ⟨rfl, rfl, rfl, by decide +kernel, rfl, by decide +kernel, by decide +kernel⟩
def d_is_missing : He.DefD := ⟨("is_missing", none), "is_missing", "is_missing", defArgs s_is_missing, defBody s_is_missing, defScope s_is_missing, [], []⟩
abbrev s_Column___init__ : Stmt := inClass (top 26) 0
theorem sc_Column___init__ : FnScope ["self", "name", "greatest", "default", "number"] ["self", "name", "greatest", "default", "number"] (defScope s_Column___init__) := ⟨rfl, rfl, rfl, by decide +kernel, rfl, by decide +kernel, by decide +kernel⟩
def d_Column___init__ : He.DefD := ⟨("Column", some "__init__"), "__init__", "Column.__init__", defArgs s_Column___init__, defBody s_Column___init__, defScope s_Column___init__, [.non], [("number", (.int 0))]⟩
abbrev s_Column___eq__ : Stmt := inClass (top 26) 1
theorem sc_Column___eq__ : FnScope ["self", "other"] ["self", "other"] (defScope s_Column___eq__) := ⟨rfl, rfl, rfl, by decide +kernel, rfl, by decide +kernel, by decide +kernel⟩
def d_Column___eq__ : He.DefD := ⟨("Column", some "__eq__"), "__eq__", "Column.__eq__", defArgs s_Column___eq__, defBody s_Column___eq__, defScope s_Column___eq__, [], []⟩
abbrev s_Column___contains__ : Stmt := inClass (top 26) 2
theorem sc_Column___contains__ : FnScope ["self", "x"] ["self", "x"] (defScope s_Column___contains__) := ⟨rfl, rfl, rfl, by decide +kernel, rfl, by decide +kernel, by decide +kernel⟩
def d_Column___contains__ : He.DefD := ⟨("Column", some "__contains__"), "__contains__", "Column.__contains__", defArgs s_Column___contains__, defBody s_Column___contains__, defScope s_Column___contains__, [], []⟩
abbrev s_Column_all_values : Stmt := inClass (top 26) 3
theorem sc_Column_all_values : FnScope ["self"] ["self"] (defScope s_Column_all_values) := ⟨rfl, rfl, rfl, by decide +kernel, rfl, by decide +kernel, by decide +kernel⟩
def d_Column_all_values : He.DefD := ⟨("Column", some "all_values"), "all_values", "Column.all_values", defArgs s_Column_all_values, defBody s_Column_all_values, defScope s_Column_all_values, [], []⟩
abbrev s_Column_changed : Stmt := inClass (top 26) 4
theorem sc_Column_changed : FnScope ["self", "part", "value", "parts"] ["self", "part", "value"] (defScope s_Column_changed) := ⟨rfl, rfl, rfl, by decide +kernel, rfl, by decide +kernel, by decide +kernel⟩
def d_Column_changed : He.DefD := ⟨("Column", some "changed"), "changed", "Column.changed", defArgs s_Column_changed, defBody s_Column_changed, defScope s_Column_changed, [], []⟩
abbrev s_column_named : Stmt := top 27
theorem sc_column_named : FnScope ["columns", "name", "column"] ["columns", "name"] (defScope s_column_named) := ⟨rfl, rfl, rfl, by decide +kernel, rfl, by decide +kernel, by decide +kernel⟩
def d_column_named : He.DefD := ⟨("column_named", none), "column_named", "column_named", defArgs s_column_named, defBody s_column_named, defScope s_column_named, [], []⟩
abbrev s_column_numbered : Stmt := top 28
theorem sc_column_numbered : FnScope ["columns", "number", "column"] ["columns", "number"] (defScope s_column_numbered) := ⟨rfl, rfl, rfl, by decide +kernel, rfl, by decide +kernel, by decide +kernel⟩
def d_column_numbered : He.DefD := ⟨("column_numbered", none), "column_numbered", "column_numbered", defArgs s_column_numbered, defBody s_column_numbered, defScope s_column_numbered, [], []⟩
abbrev s_is_change : Stmt := top 32
theorem sc_is_change : FnScope ["value"] ["value"] (defScope s_is_change) := ⟨rfl, rfl, rfl, by decide +kernel, rfl, by decide +kernel, by decide +kernel⟩
def d_is_change : He.DefD := ⟨("is_change", none), "is_change", "is_change", defArgs s_is_change, defBody s_is_change, defScope s_is_change, [], []⟩
abbrev s_has_parts : Stmt := top 33
theorem sc_has_parts : FnScope ["kind", "parts"] ["kind", "parts"] (defScope s_has_parts) := ⟨rfl, rfl, rfl, by decide +kernel, rfl, by decide +kernel, by decide +kernel⟩
def d_has_parts : He.DefD := ⟨("has_parts", none), "has_parts", "has_parts", defArgs s_has_parts, defBody s_has_parts, defScope s_has_parts, [], []⟩
abbrev s_is_single_part : Stmt := top 34
theorem sc_is_single_part : FnScope ["kind", "part"] ["kind", "part"] (defScope s_is_single_part) := ⟨rfl, rfl, rfl, by decide +kernel, rfl, by decide +kernel, by decide +kernel⟩
def d_is_single_part : He.DefD := ⟨("is_single_part", none), "is_single_part", "is_single_part", defArgs s_is_single_part, defBody s_is_single_part, defScope s_is_single_part, [], []⟩
abbrev s_is_way : Stmt := top 35
theorem sc_is_way : FnScope ["value"] ["value"] (defScope s_is_way) := ⟨rfl, rfl, rfl, by decide +kernel, rfl, by decide +kernel, by decide +kernel⟩
def d_is_way : He.DefD := ⟨("is_way", none), "is_way", "is_way", defArgs s_is_way, defBody s_is_way, defScope s_is_way, [], []⟩
abbrev s_kind_of : Stmt := top 36
theorem sc_kind_of : FnScope ["change"] ["change"] (defScope s_kind_of) := ⟨rfl, rfl, rfl, by decide +kernel, rfl, by decide +kernel, by decide +kernel⟩
def d_kind_of : He.DefD := ⟨("kind_of", none), "kind_of", "kind_of", defArgs s_kind_of, defBody s_kind_of, defScope s_kind_of, [], []⟩
abbrev s_why_not_changes : Stmt := top 37
theorem sc_why_not_changes : FnScope ["columns", "change"] ["columns", "change"] (defScope s_why_not_changes) := ⟨rfl, rfl, rfl, by decide +kernel, rfl, by decide +kernel, by decide +kernel⟩
def d_why_not_changes : He.DefD := ⟨("why_not_changes", none), "why_not", "why_not", defArgs s_why_not_changes, defBody s_why_not_changes, defScope s_why_not_changes, [], []⟩
abbrev s_hindrance : Stmt := top 39
theorem sc_hindrance : FnScope ["columns", "change", "kind", "column"] ["columns", "change"] (defScope s_hindrance) := ⟨rfl, rfl, rfl, by decide +kernel, rfl, by decide +kernel, by decide +kernel⟩
def d_hindrance : He.DefD := ⟨("hindrance", none), "hindrance", "hindrance", defArgs s_hindrance, defBody s_hindrance, defScope s_hindrance, [], []⟩
abbrev s_add_hindrance : Stmt := top 40
theorem sc_add_hindrance : FnScope ["columns", "namesake", "change"] ["columns", "namesake", "change"] (defScope s_add_hindrance) := ⟨rfl, rfl, rfl, by decide +kernel, rfl, by decide +kernel, by decide +kernel⟩
def d_add_hindrance : He.DefD := ⟨("add_hindrance", none), "add_hindrance", "add_hindrance", defArgs s_add_hindrance, defBody s_add_hindrance, defScope s_add_hindrance, [], []⟩
abbrev s_columns_behind : Stmt := top 41
theorem sc_columns_behind : FnScope ["columns", "change", "number", "kind", "name", "column"] ["columns", "change", "number"] (defScope s_columns_behind) := ⟨rfl, rfl, rfl, by decide +kernel, rfl, by decide +kernel, by decide +kernel⟩
def d_columns_behind : He.DefD := ⟨("columns_behind", none), "columns_behind", "columns_behind", defArgs s_columns_behind, defBody s_columns_behind, defScope s_columns_behind, [], []⟩
abbrev s_changed_column : Stmt := top 42
theorem sc_changed_column : FnScope ["column", "change", "kind", "default"] ["column", "change"] (defScope s_changed_column) := ⟨rfl, rfl, rfl, by decide +kernel, rfl, by decide +kernel, by decide +kernel⟩
def d_changed_column : He.DefD := ⟨("changed_column", none), "changed_column", "changed_column", defArgs s_changed_column, defBody s_changed_column, defScope s_changed_column, [], []⟩
abbrev s_changed_value : Stmt := top 43
theorem sc_changed_value : FnScope ["column", "change", "value"] ["column", "change", "value"] (defScope s_changed_value) := ⟨rfl, rfl, rfl, by decide +kernel, rfl, by decide +kernel, by decide +kernel⟩
def d_changed_value : He.DefD := ⟨("changed_value", none), "changed_value", "changed_value", defArgs s_changed_value, defBody s_changed_value, defScope s_changed_value, [], []⟩
abbrev s_value_above : Stmt := top 44
theorem sc_value_above : FnScope ["change"] ["change"] (defScope s_value_above) := ⟨rfl, rfl, rfl, by decide +kernel, rfl, by decide +kernel, by decide +kernel⟩
def d_value_above : He.DefD := ⟨("value_above", none), "value_above", "value_above", defArgs s_value_above, defBody s_value_above, defScope s_value_above, [], []⟩
abbrev s_is_edition : Stmt := top 47
theorem sc_is_edition : FnScope ["history", "value"] ["history", "value"] (defScope s_is_edition) := ⟨rfl, rfl, rfl, by decide +kernel, rfl, by decide +kernel, by decide +kernel⟩
def d_is_edition : He.DefD := ⟨("is_edition", none), "is_edition", "is_edition", defArgs s_is_edition, defBody s_is_edition, defScope s_is_edition, [], []⟩
abbrev s_edition_of : Stmt := top 48
theorem sc_edition_of : FnScope ["history", "edition"] ["history", "edition"] (defScope s_edition_of) := ⟨rfl, rfl, rfl, by decide +kernel, rfl, by decide +kernel, by decide +kernel⟩
def d_edition_of : He.DefD := ⟨("edition_of", none), "edition_of", "edition_of", defArgs s_edition_of, defBody s_edition_of, defScope s_edition_of, [], []⟩
abbrev s_numbered_columns : Stmt := top 49
theorem sc_numbered_columns : FnScope ["columns", "names", "index", "column"] ["columns"] (defScope s_numbered_columns) := ⟨rfl, rfl, rfl, by decide +kernel, rfl, by decide +kernel, by decide +kernel⟩
def d_numbered_columns : He.DefD := ⟨("numbered_columns", none), "numbered_columns", "numbered_columns", defArgs s_numbered_columns, defBody s_numbered_columns, defScope s_numbered_columns, [], []⟩
abbrev s_columns_of_editions : Stmt := top 50
theorem sc_columns_of_editions : FnScope ["first", "changes", "editions", "number", "index", "change", "columns"] ["first", "changes"] (defScope s_columns_of_editions) := ⟨rfl, rfl, rfl, by decide +kernel, rfl, by decide +kernel, by decide +kernel⟩
def d_columns_of_editions : He.DefD := ⟨("columns_of_editions", none), "columns_of_editions", "columns_of_editions", defArgs s_columns_of_editions, defBody s_columns_of_editions, defScope s_columns_of_editions, [], []⟩
abbrev s_births : Stmt := top 51
theorem sc_births : FnScope ["editions", "born", "edition", "columns", "column"] ["editions"] (defScope s_births) := ⟨rfl, rfl, rfl, by decide +kernel, rfl, by decide +kernel, by decide +kernel⟩
def d_births : He.DefD := ⟨("births", none), "births", "births", defArgs s_births, defBody s_births, defScope s_births, [], []⟩
abbrev s_drops : Stmt := top 52
theorem sc_drops : FnScope ["editions", "many", "dropped", "edition", "column"] ["editions", "many"] (defScope s_drops) := ⟨rfl, rfl, rfl, by decide +kernel, rfl, by decide +kernel, by decide +kernel⟩
def d_drops : He.DefD := ⟨("drops", none), "drops", "drops", defArgs s_drops, defBody s_drops, defScope s_drops, [], []⟩
abbrev s_History___init__ : Stmt := inClass (top 53) 0
theorem sc_History___init__ : FnScope ["self", "columns", "changes"] ["self", "columns", "changes"] (defScope s_History___init__) := ⟨rfl, rfl, rfl, by decide +kernel, rfl, by decide +kernel, by decide +kernel⟩
def d_History___init__ : He.DefD := ⟨("History", some "__init__"), "__init__", "History.__init__", defArgs s_History___init__, defBody s_History___init__, defScope s_History___init__, [(.adr (He.dflAt ("History", some "__init__") 0))], []⟩
abbrev s_History___eq__ : Stmt := inClass (top 53) 1
theorem sc_History___eq__ : FnScope ["self", "other"] ["self", "other"] (defScope s_History___eq__) := ⟨rfl, rfl, rfl, by decide +kernel, rfl, by decide +kernel, by decide +kernel⟩
def d_History___eq__ : He.DefD := ⟨("History", some "__eq__"), "__eq__", "History.__eq__", defArgs s_History___eq__, defBody s_History___eq__, defScope s_History___eq__, [], []⟩
abbrev s_History___len__ : Stmt := inClass (top 53) 2
theorem sc_History___len__ : FnScope ["self"] ["self"] (defScope s_History___len__) := ⟨rfl, rfl, rfl, by decide +kernel, rfl, by decide +kernel, by decide +kernel⟩
def d_History___len__ : He.DefD := ⟨("History", some "__len__"), "__len__", "History.__len__", defArgs s_History___len__, defBody s_History___len__, defScope s_History___len__, [], []⟩
abbrev s_History___getitem__ : Stmt := inClass (top 53) 3
theorem sc_History___getitem__ : FnScope ["self", "at"] ["self", "at"] (defScope s_History___getitem__) := ⟨rfl, rfl, rfl, by decide +kernel, rfl, by decide +kernel, by decide +kernel⟩
def d_History___getitem__ : He.DefD := ⟨("History", some "__getitem__"), "__getitem__", "History.__getitem__", defArgs s_History___getitem__, defBody s_History___getitem__, defScope s_History___getitem__, [], []⟩
abbrev s_History___iter__ : Stmt := inClass (top 53) 4
theorem sc_History___iter__ : FnScope ["self"] ["self"] (defScope s_History___iter__) := ⟨rfl, rfl, rfl, by decide +kernel, rfl, by decide +kernel, by decide +kernel⟩
def d_History___iter__ : He.DefD := ⟨("History", some "__iter__"), "__iter__", "History.__iter__", defArgs s_History___iter__, defBody s_History___iter__, defScope s_History___iter__, [], []⟩
abbrev s_History_first_columns : Stmt := inClass (top 53) 5
theorem sc_History_first_columns : FnScope ["self"] ["self"] (defScope s_History_first_columns) := ⟨rfl, rfl, rfl, by decide +kernel, rfl, by decide +kernel, by decide +kernel⟩
def d_History_first_columns : He.DefD := ⟨("History", some "first_columns"), "first_columns", "History.first_columns", defArgs s_History_first_columns, defBody s_History_first_columns, defScope s_History_first_columns, [], []⟩
abbrev s_History_columns : Stmt := inClass (top 53) 6
theorem sc_History_columns : FnScope ["self", "edition"] ["self", "edition"] (defScope s_History_columns) := ⟨rfl, rfl, rfl, by decide +kernel, rfl, by decide +kernel, by decide +kernel⟩
def d_History_columns : He.DefD := ⟨("History", some "columns"), "columns", "History.columns", defArgs s_History_columns, defBody s_History_columns, defScope s_History_columns, [.non], []⟩
abbrev s_History_changes_told : Stmt := inClass (top 53) 7
theorem sc_History_changes_told : FnScope ["self"] ["self"] (defScope s_History_changes_told) := ⟨rfl, rfl, rfl, by decide +kernel, rfl, by decide +kernel, by decide +kernel⟩
def d_History_changes_told : He.DefD := ⟨("History", some "changes_told"), "changes_told", "History.changes_told", defArgs s_History_changes_told, defBody s_History_changes_told, defScope s_History_changes_told, [], []⟩
abbrev s_History_column : Stmt := inClass (top 53) 8
theorem sc_History_column : FnScope ["self", "name", "edition", "found"] ["self", "name", "edition"] (defScope s_History_column) := ⟨rfl, rfl, rfl, by decide +kernel, rfl, by decide +kernel, by decide +kernel⟩
def d_History_column : He.DefD := ⟨("History", some "column"), "column", "History.column", defArgs s_History_column, defBody s_History_column, defScope s_History_column, [], [("edition", .non)]⟩
abbrev s_History_by_number : Stmt := inClass (top 53) 9
theorem sc_History_by_number : FnScope ["self", "number", "edition"] ["self", "number", "edition"] (defScope s_History_by_number) := ⟨rfl, rfl, rfl, by decide +kernel, rfl, by decide +kernel, by decide +kernel⟩
def d_History_by_number : He.DefD := ⟨("History", some "by_number"), "by_number", "History.by_number", defArgs s_History_by_number, defBody s_History_by_number, defScope s_History_by_number, [], [("edition", .non)]⟩
abbrev s_History_numbers : Stmt := inClass (top 53) 10
theorem sc_History_numbers : FnScope ["self"] ["self"] (defScope s_History_numbers) := ⟨rfl, rfl, rfl, by decide +kernel, rfl, by decide +kernel, by decide +kernel⟩
def d_History_numbers : He.DefD := ⟨("History", some "numbers"), "numbers", "History.numbers", defArgs s_History_numbers, defBody s_History_numbers, defScope s_History_numbers, [], []⟩
abbrev s_History_born : Stmt := inClass (top 53) 11
theorem sc_History_born : FnScope ["self", "number"] ["self", "number"] (defScope s_History_born) := ⟨rfl, rfl, rfl, by decide +kernel, rfl, by decide +kernel, by decide +kernel⟩
def d_History_born : He.DefD := ⟨("History", some "born"), "born", "History.born", defArgs s_History_born, defBody s_History_born, defScope s_History_born, [], []⟩
abbrev s_History_dropped : Stmt := inClass (top 53) 12
theorem sc_History_dropped : FnScope ["self", "number"] ["self", "number"] (defScope s_History_dropped) := ⟨rfl, rfl, rfl, by decide +kernel, rfl, by decide +kernel, by decide +kernel⟩
def d_History_dropped : He.DefD := ⟨("History", some "dropped"), "dropped", "History.dropped", defArgs s_History_dropped, defBody s_History_dropped, defScope s_History_dropped, [], []⟩
abbrev s_History_then : Stmt := inClass (top 53) 13
theorem sc_History_then : FnScope ["self", "change", "word"] ["self", "change"] (defScope s_History_then) := ⟨rfl, rfl, rfl, by decide +kernel, rfl, by decide +kernel, by decide +kernel⟩
def d_History_then : He.DefD := ⟨("History", some "then"), "then", "History.then", defArgs s_History_then, defBody s_History_then, defScope s_History_then, [], []⟩
abbrev s_History_back : Stmt := inClass (top 53) 14
theorem sc_History_back : FnScope ["self"] ["self"] (defScope s_History_back) := ⟨rfl, rfl, rfl, by decide +kernel, rfl, by decide +kernel, by decide +kernel⟩
def d_History_back : He.DefD := ⟨("History", some "back"), "back", "History.back", defArgs s_History_back, defBody s_History_back, defScope s_History_back, [], []⟩
abbrev s_History_up_to : Stmt := inClass (top 53) 15
theorem sc_History_up_to : FnScope ["self", "edition"] ["self", "edition"] (defScope s_History_up_to) := ⟨rfl, rfl, rfl, by decide +kernel, rfl, by decide +kernel, by decide +kernel⟩
def d_History_up_to : He.DefD := ⟨("History", some "up_to"), "up_to", "History.up_to", defArgs s_History_up_to, defBody s_History_up_to, defScope s_History_up_to, [], []⟩
abbrev s_History_behind : Stmt := inClass (top 53) 16
theorem sc_History_behind : FnScope ["self", "edition"] ["self", "edition"] (defScope s_History_behind) := ⟨rfl, rfl, rfl, by decide +kernel, rfl, by decide +kernel, by decide +kernel⟩
def d_History_behind : He.DefD := ⟨("History", some "behind"), "behind", "History.behind", defArgs s_History_behind, defBody s_History_behind, defScope s_History_behind, [], []⟩
abbrev s_is_given : Stmt := top 54
theorem sc_is_given : FnScope ["history", "value"] ["history", "value"] (defScope s_is_given) := ⟨rfl, rfl, rfl, by decide +kernel, rfl, by decide +kernel, by decide +kernel⟩
def d_is_given : He.DefD := ⟨("is_given", none), "is_given", "is_given", defArgs s_is_given, defBody s_is_given, defScope s_is_given, [], []⟩
abbrev s_is_row : Stmt := top 56
theorem sc_is_row : FnScope ["columns", "value", "column"] ["columns", "value"] (defScope s_is_row) := ⟨rfl, rfl, rfl, by decide +kernel, rfl, by decide +kernel, by decide +kernel⟩
def d_is_row : He.DefD := ⟨("is_row", none), "is_row", "is_row", defArgs s_is_row, defBody s_is_row, defScope s_is_row, [], []⟩
abbrev s_changed_row : Stmt := top 57
theorem sc_changed_row : FnScope ["columns", "change", "row", "kind", "changed", "column", "value"] ["columns", "change", "row"] (defScope s_changed_row) := ⟨rfl, rfl, rfl, by decide +kernel, rfl, by decide +kernel, by decide +kernel⟩
def d_changed_row : He.DefD := ⟨("changed_row", none), "changed_row", "changed_row", defArgs s_changed_row, defBody s_changed_row, defScope s_changed_row, [], []⟩
abbrev s_row_in_order : Stmt := top 58
theorem sc_row_in_order : FnScope ["columns", "row", "column"] ["columns", "row"] (defScope s_row_in_order) := ⟨rfl, rfl, rfl, by decide +kernel, rfl, by decide +kernel, by decide +kernel⟩
def d_row_in_order : He.DefD := ⟨("row_in_order", none), "row_in_order", "row_in_order", defArgs s_row_in_order, defBody s_row_in_order, defScope s_row_in_order, [], []⟩
abbrev s_Plain___init__ : Stmt := inClass (top 59) 0
theorem sc_Plain___init__ : FnScope ["self", "history", "rows", "columns", "index", "value", "row"] ["self", "history", "rows"] (defScope s_Plain___init__) := ⟨rfl, rfl, rfl, by decide +kernel, rfl, by decide +kernel, by decide +kernel⟩
def d_Plain___init__ : He.DefD := ⟨("Plain", some "__init__"), "__init__", "Plain.__init__", defArgs s_Plain___init__, defBody s_Plain___init__, defScope s_Plain___init__, [(.adr (He.dflAt ("Plain", some "__init__") 0))], []⟩
abbrev s_Plain___eq__ : Stmt := inClass (top 59) 1
theorem sc_Plain___eq__ : FnScope ["self", "other"] ["self", "other"] (defScope s_Plain___eq__) := ⟨rfl, rfl, rfl, by decide +kernel, rfl, by decide +kernel, by decide +kernel⟩
def d_Plain___eq__ : He.DefD := ⟨("Plain", some "__eq__"), "__eq__", "Plain.__eq__", defArgs s_Plain___eq__, defBody s_Plain___eq__, defScope s_Plain___eq__, [], []⟩
abbrev s_Plain___len__ : Stmt := inClass (top 59) 2
theorem sc_Plain___len__ : FnScope ["self"] ["self"] (defScope s_Plain___len__) := ⟨rfl, rfl, rfl, by decide +kernel, rfl, by decide +kernel, by decide +kernel⟩
def d_Plain___len__ : He.DefD := ⟨("Plain", some "__len__"), "__len__", "Plain.__len__", defArgs s_Plain___len__, defBody s_Plain___len__, defScope s_Plain___len__, [], []⟩
abbrev s_Plain_rows : Stmt := inClass (top 59) 3
theorem sc_Plain_rows : FnScope ["self", "row"] ["self"] (defScope s_Plain_rows) := ⟨rfl, rfl, rfl, by decide +kernel, rfl, by decide +kernel, by decide +kernel⟩
def d_Plain_rows : He.DefD := ⟨("Plain", some "rows"), "rows", "Plain.rows", defArgs s_Plain_rows, defBody s_Plain_rows, defScope s_Plain_rows, [], []⟩
abbrev s_Plain_written : Stmt := inClass (top 59) 4
theorem sc_Plain_written : FnScope ["self", "told"] ["self", "told"] (defScope s_Plain_written) := ⟨rfl, rfl, rfl, by decide +kernel, rfl, by decide +kernel, by decide +kernel⟩
def d_Plain_written : He.DefD := ⟨("Plain", some "written"), "written", "Plain.written", defArgs s_Plain_written, defBody s_Plain_written, defScope s_Plain_written, [], []⟩
abbrev s_Plain_changed : Stmt := inClass (top 59) 5
theorem sc_Plain_changed : FnScope ["self", "change", "word", "columns", "row"] ["self", "change"] (defScope s_Plain_changed) := ⟨rfl, rfl, rfl, by decide +kernel, rfl, by decide +kernel, by decide +kernel⟩
def d_Plain_changed : He.DefD := ⟨("Plain", some "changed"), "changed", "Plain.changed", defArgs s_Plain_changed, defBody s_Plain_changed, defScope s_Plain_changed, [], []⟩
abbrev s_Plain_why_not : Stmt := inClass (top 59) 6
theorem sc_Plain_why_not : FnScope ["self", "change", "columns", "word", "row"] ["self", "change"] (defScope s_Plain_why_not) := ⟨rfl, rfl, rfl, by decide +kernel, rfl, by decide +kernel, by decide +kernel⟩
def d_Plain_why_not : He.DefD := ⟨("Plain", some "why_not"), "why_not", "Plain.why_not", defArgs s_Plain_why_not, defBody s_Plain_why_not, defScope s_Plain_why_not, [], []⟩
abbrev s__law_pool : Stmt := top 61
theorem sc__law_pool : FnScope ["_law_script", "_law_k", "_law_size", "_law_mixed"] ["_law_script", "_law_k"] (defScope s__law_pool) := ⟨rfl, rfl, rfl, by decide +kernel, rfl, by decide +kernel, by decide +kernel⟩
def d__law_pool : He.DefD := ⟨("_law_pool", none), "_law_pool", "_law_pool", defArgs s__law_pool, defBody s__law_pool, defScope s__law_pool, [], []⟩
abbrev s__law_draw : Stmt := top 62
theorem sc__law_draw : FnScope ["_law_pool_here", "_law_many", "_law_found"] ["_law_pool_here", "_law_many"] (defScope s__law_draw) := ⟨rfl, rfl, rfl, by decide +kernel, rfl, by decide +kernel, by decide +kernel⟩
def d__law_draw : He.DefD := ⟨("_law_draw", none), "_law_draw", "_law_draw", defArgs s__law_draw, defBody s__law_draw, defScope s__law_draw, [], []⟩
abbrev s__law_pick : Stmt := top 63
theorem sc__law_pick : FnScope ["_law_pool_here", "_law_row"] ["_law_pool_here", "_law_row"] (defScope s__law_pick) := ⟨rfl, rfl, rfl, by decide +kernel, rfl, by decide +kernel, by decide +kernel⟩
def d__law_pick : He.DefD := ⟨("_law_pick", none), "_law_pick", "_law_pick", defArgs s__law_pick, defBody s__law_pick, defScope s__law_pick, [], []⟩
abbrev s__law_gone : Stmt := top 64
theorem sc__law_gone : FnScope ["_law_columns", "_law_rows", "_law_changes", "_law_plain", "_law_change", "_law_word"] ["_law_columns", "_law_rows", "_law_changes"] (defScope s__law_gone) := ⟨rfl, rfl, rfl, by decide +kernel, rfl, by decide +kernel, by decide +kernel⟩
def d__law_gone : He.DefD := ⟨("_law_gone", none), "_law_gone", "_law_gone", defArgs s__law_gone, defBody s__law_gone, defScope s__law_gone, [], []⟩
abbrev s__law_cases : Stmt := top 65
theorem sc__law_cases : FnScope ["_law_a", "_law_z", "_law_found"] [] (defScope s__law_cases) := ⟨rfl, rfl, rfl, by decide +kernel, rfl, by decide +kernel, by decide +kernel⟩
def d__law_cases : He.DefD := ⟨("_law_cases", none), "_law_cases", "_law_cases", defArgs s__law_cases, defBody s__law_cases, defScope s__law_cases, [], []⟩
abbrev s_law : Stmt := top 66
theorem sc_law : FnScope ["_law_script", "_law_pool_here", "_law_some", "_law_first", "_law_columns", "_law_rows", "_law_changes", "_law_due"] ["_law_script"] (defScope s_law) := ⟨rfl, rfl, rfl, by decide +kernel, rfl, by decide +kernel, by decide +kernel⟩
def d_law : He.DefD := ⟨("law", none), "law", "law", defArgs s_law, defBody s_law, defScope s_law, [], []⟩
def fn0 : List He.DefD := [d_is_whole, d_is_list, d_is_word, d_is_name, d_is_greatest, d_is_value, d_is_within, d_is_missing, d_Column___init__, d_Column___eq__, d_Column___contains__, d_Column_changed, d_column_named, d_column_numbered, d_is_change, d_has_parts, d_is_single_part, d_is_way, d_kind_of, d_why_not_changes, d_hindrance, d_add_hindrance, d_columns_behind, d_changed_column, d_changed_value, d_value_above, d_is_edition, d_edition_of, d_numbered_columns, d_columns_of_editions, d_births, d_drops, d_History___init__, d_History___len__, d_History___getitem__, d_History_columns, d_History_column, d_History_numbers, d_History_born, d_History_dropped, d_History_then, d_History_behind, d_is_given, d_is_row, d_changed_row, d_row_in_order, d_Plain___init__, d_Plain_rows, d_Plain_changed, d_Plain_why_not, d__law_pool, d__law_draw, d__law_pick, d__law_gone, d__law_cases, d_law]
def fa0 : List He.Fa := [.glo "is_whole", .glo "is_list", .glo "is_word", .glo "is_name", .glo "is_greatest", .glo "is_value", .glo "is_within", .glo "is_missing", .glo "column_named", .glo "column_numbered", .glo "is_change", .glo "has_parts", .glo "is_single_part", .glo "is_way", .glo "kind_of", .glo "why_not_changes", .glo "hindrance", .glo "add_hindrance", .glo "columns_behind", .glo "changed_column", .glo "changed_value", .glo "value_above", .glo "is_edition", .glo "edition_of", .glo "numbered_columns", .glo "columns_of_editions", .glo "births", .glo "drops", .glo "is_given", .glo "is_row", .glo "changed_row", .glo "row_in_order", .glo "_law_pool", .glo "_law_draw", .glo "_law_pick", .glo "_law_gone", .glo "_law_cases", .glo "law", .glo "Column", .cls "Column", .mkr "Column", .noat "Column" "name", .noat "Column" "greatest", .noat "Column" "default", .noat "Column" "number", .meth "Column" "__contains__", .meth "Column" "changed", .glo "History", .cls "History", .mkr "History", .noat "History" "_editions", .noat "History" "_changes", .noat "History" "_births", .noat "History" "_drops", .meth "History" "__len__", .meth "History" "columns", .meth "History" "numbers", .meth "History" "then", .glo "Plain", .cls "Plain", .mkr "Plain", .noat "Plain" "history", .noat "Plain" "_rows", .meth "Plain" "rows", .meth "Plain" "changed", .meth "Plain" "why_not", .str "MISSING" "missing", .str "LETTERS" "abcdefghijklmnopqrstuvwxyz", .int "LONGEST_NAME" 8, .int "MOST_GREATEST" 99, .glo "PARTS", .glo "WAYS", .int "MOST_COLUMNS" 6, .int "MOST_CHANGES" 40, .free "isinstance", .free "int", .free "bool", .free "list", .free "tuple", .free "str", .free "all", .free "len", .free "enumerate", .free "range", .free "dict", .free "any", .free "max"]
def fnl : List He.DefD := fn0
def fal : List He.Fa := fa0
def exl (K : PySem.W.Frag) : Bool := [emptyTupB K (He.dflAt ("History", some "__init__") 0 K), He.tupB K "PARTS" [(.str "name"), (.str "greatest"), (.str "default"), (.str "number")], He.tupB K "WAYS" [(.str "cut"), (.str "none"), (.str "refuse")], insB K "Column", insB K "History"].all id
structure Tx (K : PySem.W.Frag) (mg : Str → Option Value) : Prop where
  c : He.SaysD fal fnl K
  e : exl K = true
  h : ∃ h : Heap, K.In h ∧ h.Ns mainGlobals mg
section
variable {K : PySem.W.Frag} {mg : Str → Option Value}
theorem mg_is_whole (T : Tx K mg) : mg "is_whole" = some (.ref (He.ga K "is_whole")) := by
  obtain ⟨h, X, G⟩ := T.h
  exact He.glo_ok X G (T.c.fact 0 rfl)
theorem mg_is_list (T : Tx K mg) : mg "is_list" = some (.ref (He.ga K "is_list")) := by
  obtain ⟨h, X, G⟩ := T.h
  exact He.glo_ok X G (T.c.fact 1 rfl)
theorem mg_is_word (T : Tx K mg) : mg "is_word" = some (.ref (He.ga K "is_word")) := by
  obtain ⟨h, X, G⟩ := T.h
  exact He.glo_ok X G (T.c.fact 2 rfl)
theorem mg_is_name (T : Tx K mg) : mg "is_name" = some (.ref (He.ga K "is_name")) := by
  obtain ⟨h, X, G⟩ := T.h
  exact He.glo_ok X G (T.c.fact 3 rfl)
theorem mg_is_greatest (T : Tx K mg) : mg "is_greatest" = some (.ref (He.ga K "is_greatest")) := by
  obtain ⟨h, X, G⟩ := T.h
  exact He.glo_ok X G (T.c.fact 4 rfl)
theorem mg_is_value (T : Tx K mg) : mg "is_value" = some (.ref (He.ga K "is_value")) := by
  obtain ⟨h, X, G⟩ := T.h
  exact He.glo_ok X G (T.c.fact 5 rfl)
theorem mg_is_within (T : Tx K mg) : mg "is_within" = some (.ref (He.ga K "is_within")) := by
  obtain ⟨h, X, G⟩ := T.h
  exact He.glo_ok X G (T.c.fact 6 rfl)
theorem mg_is_missing (T : Tx K mg) : mg "is_missing" = some (.ref (He.ga K "is_missing")) := by
  obtain ⟨h, X, G⟩ := T.h
  exact He.glo_ok X G (T.c.fact 7 rfl)
theorem mg_column_named (T : Tx K mg) : mg "column_named" = some (.ref (He.ga K "column_named")) := by
  obtain ⟨h, X, G⟩ := T.h
  exact He.glo_ok X G (T.c.fact 8 rfl)
theorem mg_column_numbered (T : Tx K mg) : mg "column_numbered" = some (.ref (He.ga K "column_numbered")) := by
  obtain ⟨h, X, G⟩ := T.h
  exact He.glo_ok X G (T.c.fact 9 rfl)
theorem mg_is_change (T : Tx K mg) : mg "is_change" = some (.ref (He.ga K "is_change")) := by
  obtain ⟨h, X, G⟩ := T.h
  exact He.glo_ok X G (T.c.fact 10 rfl)
theorem mg_has_parts (T : Tx K mg) : mg "has_parts" = some (.ref (He.ga K "has_parts")) := by
  obtain ⟨h, X, G⟩ := T.h
  exact He.glo_ok X G (T.c.fact 11 rfl)
theorem mg_is_single_part (T : Tx K mg) : mg "is_single_part" = some (.ref (He.ga K "is_single_part")) := by
  obtain ⟨h, X, G⟩ := T.h
  exact He.glo_ok X G (T.c.fact 12 rfl)
theorem mg_is_way (T : Tx K mg) : mg "is_way" = some (.ref (He.ga K "is_way")) := by
  obtain ⟨h, X, G⟩ := T.h
  exact He.glo_ok X G (T.c.fact 13 rfl)
theorem mg_kind_of (T : Tx K mg) : mg "kind_of" = some (.ref (He.ga K "kind_of")) := by
  obtain ⟨h, X, G⟩ := T.h
  exact He.glo_ok X G (T.c.fact 14 rfl)
theorem mg_why_not_changes (T : Tx K mg) : mg "why_not_changes" = some (.ref (He.ga K "why_not_changes")) := by
  obtain ⟨h, X, G⟩ := T.h
  exact He.glo_ok X G (T.c.fact 15 rfl)
theorem mg_hindrance (T : Tx K mg) : mg "hindrance" = some (.ref (He.ga K "hindrance")) := by
  obtain ⟨h, X, G⟩ := T.h
  exact He.glo_ok X G (T.c.fact 16 rfl)
theorem mg_add_hindrance (T : Tx K mg) : mg "add_hindrance" = some (.ref (He.ga K "add_hindrance")) := by
  obtain ⟨h, X, G⟩ := T.h
  exact He.glo_ok X G (T.c.fact 17 rfl)
theorem mg_columns_behind (T : Tx K mg) : mg "columns_behind" = some (.ref (He.ga K "columns_behind")) := by
  obtain ⟨h, X, G⟩ := T.h
  exact He.glo_ok X G (T.c.fact 18 rfl)
theorem mg_changed_column (T : Tx K mg) : mg "changed_column" = some (.ref (He.ga K "changed_column")) := by
  obtain ⟨h, X, G⟩ := T.h
  exact He.glo_ok X G (T.c.fact 19 rfl)
theorem mg_changed_value (T : Tx K mg) : mg "changed_value" = some (.ref (He.ga K "changed_value")) := by
  obtain ⟨h, X, G⟩ := T.h
  exact He.glo_ok X G (T.c.fact 20 rfl)
theorem mg_value_above (T : Tx K mg) : mg "value_above" = some (.ref (He.ga K "value_above")) := by
  obtain ⟨h, X, G⟩ := T.h
  exact He.glo_ok X G (T.c.fact 21 rfl)
theorem mg_is_edition (T : Tx K mg) : mg "is_edition" = some (.ref (He.ga K "is_edition")) := by
  obtain ⟨h, X, G⟩ := T.h
  exact He.glo_ok X G (T.c.fact 22 rfl)
theorem mg_edition_of (T : Tx K mg) : mg "edition_of" = some (.ref (He.ga K "edition_of")) := by
  obtain ⟨h, X, G⟩ := T.h
  exact He.glo_ok X G (T.c.fact 23 rfl)
theorem mg_numbered_columns (T : Tx K mg) : mg "numbered_columns" = some (.ref (He.ga K "numbered_columns")) := by
  obtain ⟨h, X, G⟩ := T.h
  exact He.glo_ok X G (T.c.fact 24 rfl)
theorem mg_columns_of_editions (T : Tx K mg) : mg "columns_of_editions" = some (.ref (He.ga K "columns_of_editions")) := by
  obtain ⟨h, X, G⟩ := T.h
  exact He.glo_ok X G (T.c.fact 25 rfl)
theorem mg_births (T : Tx K mg) : mg "births" = some (.ref (He.ga K "births")) := by
  obtain ⟨h, X, G⟩ := T.h
  exact He.glo_ok X G (T.c.fact 26 rfl)
theorem mg_drops (T : Tx K mg) : mg "drops" = some (.ref (He.ga K "drops")) := by
  obtain ⟨h, X, G⟩ := T.h
  exact He.glo_ok X G (T.c.fact 27 rfl)
theorem mg_is_given (T : Tx K mg) : mg "is_given" = some (.ref (He.ga K "is_given")) := by
  obtain ⟨h, X, G⟩ := T.h
  exact He.glo_ok X G (T.c.fact 28 rfl)
theorem mg_is_row (T : Tx K mg) : mg "is_row" = some (.ref (He.ga K "is_row")) := by
  obtain ⟨h, X, G⟩ := T.h
  exact He.glo_ok X G (T.c.fact 29 rfl)
theorem mg_changed_row (T : Tx K mg) : mg "changed_row" = some (.ref (He.ga K "changed_row")) := by
  obtain ⟨h, X, G⟩ := T.h
  exact He.glo_ok X G (T.c.fact 30 rfl)
theorem mg_row_in_order (T : Tx K mg) : mg "row_in_order" = some (.ref (He.ga K "row_in_order")) := by
  obtain ⟨h, X, G⟩ := T.h
  exact He.glo_ok X G (T.c.fact 31 rfl)
theorem mg__law_pool (T : Tx K mg) : mg "_law_pool" = some (.ref (He.ga K "_law_pool")) := by
  obtain ⟨h, X, G⟩ := T.h
  exact He.glo_ok X G (T.c.fact 32 rfl)
theorem mg__law_draw (T : Tx K mg) : mg "_law_draw" = some (.ref (He.ga K "_law_draw")) := by
  obtain ⟨h, X, G⟩ := T.h
  exact He.glo_ok X G (T.c.fact 33 rfl)
theorem mg__law_pick (T : Tx K mg) : mg "_law_pick" = some (.ref (He.ga K "_law_pick")) := by
  obtain ⟨h, X, G⟩ := T.h
  exact He.glo_ok X G (T.c.fact 34 rfl)
theorem mg__law_gone (T : Tx K mg) : mg "_law_gone" = some (.ref (He.ga K "_law_gone")) := by
  obtain ⟨h, X, G⟩ := T.h
  exact He.glo_ok X G (T.c.fact 35 rfl)
theorem mg__law_cases (T : Tx K mg) : mg "_law_cases" = some (.ref (He.ga K "_law_cases")) := by
  obtain ⟨h, X, G⟩ := T.h
  exact He.glo_ok X G (T.c.fact 36 rfl)
theorem mg_law (T : Tx K mg) : mg "law" = some (.ref (He.ga K "law")) := by
  obtain ⟨h, X, G⟩ := T.h
  exact He.glo_ok X G (T.c.fact 37 rfl)
theorem mg_Column (T : Tx K mg) : mg "Column" = some (.ref (He.ga K "Column")) := by
  obtain ⟨h, X, G⟩ := T.h
  exact He.glo_ok X G (T.c.fact 38 rfl)
theorem cl_Column (T : Tx K mg) : Cls K (He.ga K "Column") := He.cls_ok (T.c.fact 39 rfl)
theorem mk_Column (T : Tx K mg) : Mk K (He.ga K "Column") (He.ma K (He.ga K "Column") "__init__") := He.mkr_ok (T.c.fact 40 rfl)
theorem na_Column_name (T : Tx K mg) : NoAttr K (He.ga K "Column") "name" := He.noat_ok (T.c.fact 41 rfl)
theorem na_Column_greatest (T : Tx K mg) : NoAttr K (He.ga K "Column") "greatest" := He.noat_ok (T.c.fact 42 rfl)
theorem na_Column_default (T : Tx K mg) : NoAttr K (He.ga K "Column") "default" := He.noat_ok (T.c.fact 43 rfl)
theorem na_Column_number (T : Tx K mg) : NoAttr K (He.ga K "Column") "number" := He.noat_ok (T.c.fact 44 rfl)
theorem me_Column___contains__ (T : Tx K mg) : Meth K (He.ga K "Column") "__contains__" (He.ma K (He.ga K "Column") "__contains__") := He.meth_ok (T.c.fact 45 rfl)
theorem me_Column_changed (T : Tx K mg) : Meth K (He.ga K "Column") "changed" (He.ma K (He.ga K "Column") "changed") := He.meth_ok (T.c.fact 46 rfl)
theorem mg_History (T : Tx K mg) : mg "History" = some (.ref (He.ga K "History")) := by
  obtain ⟨h, X, G⟩ := T.h
  exact He.glo_ok X G (T.c.fact 47 rfl)
theorem cl_History (T : Tx K mg) : Cls K (He.ga K "History") := He.cls_ok (T.c.fact 48 rfl)
theorem mk_History (T : Tx K mg) : Mk K (He.ga K "History") (He.ma K (He.ga K "History") "__init__") := He.mkr_ok (T.c.fact 49 rfl)
theorem na_History__editions (T : Tx K mg) : NoAttr K (He.ga K "History") "_editions" := He.noat_ok (T.c.fact 50 rfl)
theorem na_History__changes (T : Tx K mg) : NoAttr K (He.ga K "History") "_changes" := He.noat_ok (T.c.fact 51 rfl)
theorem na_History__births (T : Tx K mg) : NoAttr K (He.ga K "History") "_births" := He.noat_ok (T.c.fact 52 rfl)
theorem na_History__drops (T : Tx K mg) : NoAttr K (He.ga K "History") "_drops" := He.noat_ok (T.c.fact 53 rfl)
theorem me_History___len__ (T : Tx K mg) : Meth K (He.ga K "History") "__len__" (He.ma K (He.ga K "History") "__len__") := He.meth_ok (T.c.fact 54 rfl)
theorem me_History_columns (T : Tx K mg) : Meth K (He.ga K "History") "columns" (He.ma K (He.ga K "History") "columns") := He.meth_ok (T.c.fact 55 rfl)
theorem me_History_numbers (T : Tx K mg) : Meth K (He.ga K "History") "numbers" (He.ma K (He.ga K "History") "numbers") := He.meth_ok (T.c.fact 56 rfl)
theorem me_History_then (T : Tx K mg) : Meth K (He.ga K "History") "then" (He.ma K (He.ga K "History") "then") := He.meth_ok (T.c.fact 57 rfl)
theorem mg_Plain (T : Tx K mg) : mg "Plain" = some (.ref (He.ga K "Plain")) := by
  obtain ⟨h, X, G⟩ := T.h
  exact He.glo_ok X G (T.c.fact 58 rfl)
theorem cl_Plain (T : Tx K mg) : Cls K (He.ga K "Plain") := He.cls_ok (T.c.fact 59 rfl)
theorem mk_Plain (T : Tx K mg) : Mk K (He.ga K "Plain") (He.ma K (He.ga K "Plain") "__init__") := He.mkr_ok (T.c.fact 60 rfl)
theorem na_Plain_history (T : Tx K mg) : NoAttr K (He.ga K "Plain") "history" := He.noat_ok (T.c.fact 61 rfl)
theorem na_Plain__rows (T : Tx K mg) : NoAttr K (He.ga K "Plain") "_rows" := He.noat_ok (T.c.fact 62 rfl)
theorem me_Plain_rows (T : Tx K mg) : Meth K (He.ga K "Plain") "rows" (He.ma K (He.ga K "Plain") "rows") := He.meth_ok (T.c.fact 63 rfl)
theorem me_Plain_changed (T : Tx K mg) : Meth K (He.ga K "Plain") "changed" (He.ma K (He.ga K "Plain") "changed") := He.meth_ok (T.c.fact 64 rfl)
theorem me_Plain_why_not (T : Tx K mg) : Meth K (He.ga K "Plain") "why_not" (He.ma K (He.ga K "Plain") "why_not") := He.meth_ok (T.c.fact 65 rfl)
theorem ms_MISSING (T : Tx K mg) : ∃ t, mg "MISSING" = some (.str "missing" t) := by
  obtain ⟨h, X, G⟩ := T.h
  exact He.str_ok X G (T.c.fact 66 rfl)
theorem ms_LETTERS (T : Tx K mg) : ∃ t, mg "LETTERS" = some (.str "abcdefghijklmnopqrstuvwxyz" t) := by
  obtain ⟨h, X, G⟩ := T.h
  exact He.str_ok X G (T.c.fact 67 rfl)
theorem mi_LONGEST_NAME (T : Tx K mg) : ∃ t, mg "LONGEST_NAME" = some (.int 8 t) := by
  obtain ⟨h, X, G⟩ := T.h
  exact He.int_ok X G (T.c.fact 68 rfl)
theorem mi_MOST_GREATEST (T : Tx K mg) : ∃ t, mg "MOST_GREATEST" = some (.int 99 t) := by
  obtain ⟨h, X, G⟩ := T.h
  exact He.int_ok X G (T.c.fact 69 rfl)
theorem mg_PARTS (T : Tx K mg) : mg "PARTS" = some (.ref (He.ga K "PARTS")) := by
  obtain ⟨h, X, G⟩ := T.h
  exact He.glo_ok X G (T.c.fact 70 rfl)
theorem mg_WAYS (T : Tx K mg) : mg "WAYS" = some (.ref (He.ga K "WAYS")) := by
  obtain ⟨h, X, G⟩ := T.h
  exact He.glo_ok X G (T.c.fact 71 rfl)
theorem mi_MOST_COLUMNS (T : Tx K mg) : ∃ t, mg "MOST_COLUMNS" = some (.int 6 t) := by
  obtain ⟨h, X, G⟩ := T.h
  exact He.int_ok X G (T.c.fact 72 rfl)
theorem mi_MOST_CHANGES (T : Tx K mg) : ∃ t, mg "MOST_CHANGES" = some (.int 40 t) := by
  obtain ⟨h, X, G⟩ := T.h
  exact He.int_ok X G (T.c.fact 73 rfl)
theorem fr_isinstance (T : Tx K mg) : mg "isinstance" = none := by
  obtain ⟨h, X, G⟩ := T.h
  exact He.free_ok X G (T.c.fact 74 rfl)
theorem fr_int (T : Tx K mg) : mg "int" = none := by
  obtain ⟨h, X, G⟩ := T.h
  exact He.free_ok X G (T.c.fact 75 rfl)
theorem fr_bool (T : Tx K mg) : mg "bool" = none := by
  obtain ⟨h, X, G⟩ := T.h
  exact He.free_ok X G (T.c.fact 76 rfl)
theorem fr_list (T : Tx K mg) : mg "list" = none := by
  obtain ⟨h, X, G⟩ := T.h
  exact He.free_ok X G (T.c.fact 77 rfl)
theorem fr_tuple (T : Tx K mg) : mg "tuple" = none := by
  obtain ⟨h, X, G⟩ := T.h
  exact He.free_ok X G (T.c.fact 78 rfl)
theorem fr_str (T : Tx K mg) : mg "str" = none := by
  obtain ⟨h, X, G⟩ := T.h
  exact He.free_ok X G (T.c.fact 79 rfl)
theorem fr_all (T : Tx K mg) : mg "all" = none := by
  obtain ⟨h, X, G⟩ := T.h
  exact He.free_ok X G (T.c.fact 80 rfl)
theorem fr_len (T : Tx K mg) : mg "len" = none := by
  obtain ⟨h, X, G⟩ := T.h
  exact He.free_ok X G (T.c.fact 81 rfl)
theorem fr_enumerate (T : Tx K mg) : mg "enumerate" = none := by
  obtain ⟨h, X, G⟩ := T.h
  exact He.free_ok X G (T.c.fact 82 rfl)
theorem fr_range (T : Tx K mg) : mg "range" = none := by
  obtain ⟨h, X, G⟩ := T.h
  exact He.free_ok X G (T.c.fact 83 rfl)
theorem fr_dict (T : Tx K mg) : mg "dict" = none := by
  obtain ⟨h, X, G⟩ := T.h
  exact He.free_ok X G (T.c.fact 84 rfl)
theorem fr_any (T : Tx K mg) : mg "any" = none := by
  obtain ⟨h, X, G⟩ := T.h
  exact He.free_ok X G (T.c.fact 85 rfl)
theorem fr_max (T : Tx K mg) : mg "max" = none := by
  obtain ⟨h, X, G⟩ := T.h
  exact He.free_ok X G (T.c.fact 86 rfl)
theorem fd_is_whole (T : Tx K mg) : ∃ fd, FunD K "is_whole" "is_whole" (defArgs s_is_whole) (defBody s_is_whole) (defScope s_is_whole) (d_is_whole.dvs K) (d_is_whole.kws K) (He.ga K "is_whole") fd := T.c.def_ 0 (d := d_is_whole) rfl
theorem fd_is_list (T : Tx K mg) : ∃ fd, FunD K "is_list" "is_list" (defArgs s_is_list) (defBody s_is_list) (defScope s_is_list) (d_is_list.dvs K) (d_is_list.kws K) (He.ga K "is_list") fd := T.c.def_ 1 (d := d_is_list) rfl
theorem fd_is_word (T : Tx K mg) : ∃ fd, FunD K "is_word" "is_word" (defArgs s_is_word) (defBody s_is_word) (defScope s_is_word) (d_is_word.dvs K) (d_is_word.kws K) (He.ga K "is_word") fd := T.c.def_ 2 (d := d_is_word) rfl
theorem fd_is_name (T : Tx K mg) : ∃ fd, FunD K "is_name" "is_name" (defArgs s_is_name) (defBody s_is_name) (defScope s_is_name) (d_is_name.dvs K) (d_is_name.kws K) (He.ga K "is_name") fd := T.c.def_ 3 (d := d_is_name) rfl
theorem fd_is_greatest (T : Tx K mg) : ∃ fd, FunD K "is_greatest" "is_greatest" (defArgs s_is_greatest) (defBody s_is_greatest) (defScope s_is_greatest) (d_is_greatest.dvs K) (d_is_greatest.kws K) (He.ga K "is_greatest") fd := T.c.def_ 4 (d := d_is_greatest) rfl
theorem fd_is_value (T : Tx K mg) : ∃ fd, FunD K "is_value" "is_value" (defArgs s_is_value) (defBody s_is_value) (defScope s_is_value) (d_is_value.dvs K) (d_is_value.kws K) (He.ga K "is_value") fd := T.c.def_ 5 (d := d_is_value) rfl
theorem fd_is_within (T : Tx K mg) : ∃ fd, FunD K "is_within" "is_within" (defArgs s_is_within) (defBody s_is_within) (defScope s_is_within) (d_is_within.dvs K) (d_is_within.kws K) (He.ga K "is_within") fd := T.c.def_ 6 (d := d_is_within) rfl
theorem fd_is_missing (T : Tx K mg) : ∃ fd, FunD K "is_missing" "is_missing" (defArgs s_is_missing) (defBody s_is_missing) (defScope s_is_missing) (d_is_missing.dvs K) (d_is_missing.kws K) (He.ga K "is_missing") fd := T.c.def_ 7 (d := d_is_missing) rfl
theorem fd_Column___init__ (T : Tx K mg) : ∃ fd, FunD K "__init__" "Column.__init__" (defArgs s_Column___init__) (defBody s_Column___init__) (defScope s_Column___init__) (d_Column___init__.dvs K) (d_Column___init__.kws K) (He.ma K (He.ga K "Column") "__init__") fd := T.c.def_ 8 (d := d_Column___init__) rfl
theorem fd_Column___eq__ (T : Tx K mg) : ∃ fd, FunD K "__eq__" "Column.__eq__" (defArgs s_Column___eq__) (defBody s_Column___eq__) (defScope s_Column___eq__) (d_Column___eq__.dvs K) (d_Column___eq__.kws K) (He.ma K (He.ga K "Column") "__eq__") fd := T.c.def_ 9 (d := d_Column___eq__) rfl
theorem fd_Column___contains__ (T : Tx K mg) : ∃ fd, FunD K "__contains__" "Column.__contains__" (defArgs s_Column___contains__) (defBody s_Column___contains__) (defScope s_Column___contains__) (d_Column___contains__.dvs K) (d_Column___contains__.kws K) (He.ma K (He.ga K "Column") "__contains__") fd := T.c.def_ 10 (d := d_Column___contains__) rfl
theorem fd_Column_changed (T : Tx K mg) : ∃ fd, FunD K "changed" "Column.changed" (defArgs s_Column_changed) (defBody s_Column_changed) (defScope s_Column_changed) (d_Column_changed.dvs K) (d_Column_changed.kws K) (He.ma K (He.ga K "Column") "changed") fd := T.c.def_ 11 (d := d_Column_changed) rfl
theorem fd_column_named (T : Tx K mg) : ∃ fd, FunD K "column_named" "column_named" (defArgs s_column_named) (defBody s_column_named) (defScope s_column_named) (d_column_named.dvs K) (d_column_named.kws K) (He.ga K "column_named") fd := T.c.def_ 12 (d := d_column_named) rfl
theorem fd_column_numbered (T : Tx K mg) : ∃ fd, FunD K "column_numbered" "column_numbered" (defArgs s_column_numbered) (defBody s_column_numbered) (defScope s_column_numbered) (d_column_numbered.dvs K) (d_column_numbered.kws K) (He.ga K "column_numbered") fd := T.c.def_ 13 (d := d_column_numbered) rfl
theorem fd_is_change (T : Tx K mg) : ∃ fd, FunD K "is_change" "is_change" (defArgs s_is_change) (defBody s_is_change) (defScope s_is_change) (d_is_change.dvs K) (d_is_change.kws K) (He.ga K "is_change") fd := T.c.def_ 14 (d := d_is_change) rfl
theorem fd_has_parts (T : Tx K mg) : ∃ fd, FunD K "has_parts" "has_parts" (defArgs s_has_parts) (defBody s_has_parts) (defScope s_has_parts) (d_has_parts.dvs K) (d_has_parts.kws K) (He.ga K "has_parts") fd := T.c.def_ 15 (d := d_has_parts) rfl
theorem fd_is_single_part (T : Tx K mg) : ∃ fd, FunD K "is_single_part" "is_single_part" (defArgs s_is_single_part) (defBody s_is_single_part) (defScope s_is_single_part) (d_is_single_part.dvs K) (d_is_single_part.kws K) (He.ga K "is_single_part") fd := T.c.def_ 16 (d := d_is_single_part) rfl
theorem fd_is_way (T : Tx K mg) : ∃ fd, FunD K "is_way" "is_way" (defArgs s_is_way) (defBody s_is_way) (defScope s_is_way) (d_is_way.dvs K) (d_is_way.kws K) (He.ga K "is_way") fd := T.c.def_ 17 (d := d_is_way) rfl
theorem fd_kind_of (T : Tx K mg) : ∃ fd, FunD K "kind_of" "kind_of" (defArgs s_kind_of) (defBody s_kind_of) (defScope s_kind_of) (d_kind_of.dvs K) (d_kind_of.kws K) (He.ga K "kind_of") fd := T.c.def_ 18 (d := d_kind_of) rfl
theorem fd_why_not_changes (T : Tx K mg) : ∃ fd, FunD K "why_not" "why_not" (defArgs s_why_not_changes) (defBody s_why_not_changes) (defScope s_why_not_changes) (d_why_not_changes.dvs K) (d_why_not_changes.kws K) (He.ga K "why_not_changes") fd := T.c.def_ 19 (d := d_why_not_changes) rfl
theorem fd_hindrance (T : Tx K mg) : ∃ fd, FunD K "hindrance" "hindrance" (defArgs s_hindrance) (defBody s_hindrance) (defScope s_hindrance) (d_hindrance.dvs K) (d_hindrance.kws K) (He.ga K "hindrance") fd := T.c.def_ 20 (d := d_hindrance) rfl
theorem fd_add_hindrance (T : Tx K mg) : ∃ fd, FunD K "add_hindrance" "add_hindrance" (defArgs s_add_hindrance) (defBody s_add_hindrance) (defScope s_add_hindrance) (d_add_hindrance.dvs K) (d_add_hindrance.kws K) (He.ga K "add_hindrance") fd := T.c.def_ 21 (d := d_add_hindrance) rfl
theorem fd_columns_behind (T : Tx K mg) : ∃ fd, FunD K "columns_behind" "columns_behind" (defArgs s_columns_behind) (defBody s_columns_behind) (defScope s_columns_behind) (d_columns_behind.dvs K) (d_columns_behind.kws K) (He.ga K "columns_behind") fd := T.c.def_ 22 (d := d_columns_behind) rfl
theorem fd_changed_column (T : Tx K mg) : ∃ fd, FunD K "changed_column" "changed_column" (defArgs s_changed_column) (defBody s_changed_column) (defScope s_changed_column) (d_changed_column.dvs K) (d_changed_column.kws K) (He.ga K "changed_column") fd := T.c.def_ 23 (d := d_changed_column) rfl
theorem fd_changed_value (T : Tx K mg) : ∃ fd, FunD K "changed_value" "changed_value" (defArgs s_changed_value) (defBody s_changed_value) (defScope s_changed_value) (d_changed_value.dvs K) (d_changed_value.kws K) (He.ga K "changed_value") fd := T.c.def_ 24 (d := d_changed_value) rfl
theorem fd_value_above (T : Tx K mg) : ∃ fd, FunD K "value_above" "value_above" (defArgs s_value_above) (defBody s_value_above) (defScope s_value_above) (d_value_above.dvs K) (d_value_above.kws K) (He.ga K "value_above") fd := T.c.def_ 25 (d := d_value_above) rfl
theorem fd_is_edition (T : Tx K mg) : ∃ fd, FunD K "is_edition" "is_edition" (defArgs s_is_edition) (defBody s_is_edition) (defScope s_is_edition) (d_is_edition.dvs K) (d_is_edition.kws K) (He.ga K "is_edition") fd := T.c.def_ 26 (d := d_is_edition) rfl
theorem fd_edition_of (T : Tx K mg) : ∃ fd, FunD K "edition_of" "edition_of" (defArgs s_edition_of) (defBody s_edition_of) (defScope s_edition_of) (d_edition_of.dvs K) (d_edition_of.kws K) (He.ga K "edition_of") fd := T.c.def_ 27 (d := d_edition_of) rfl
theorem fd_numbered_columns (T : Tx K mg) : ∃ fd, FunD K "numbered_columns" "numbered_columns" (defArgs s_numbered_columns) (defBody s_numbered_columns) (defScope s_numbered_columns) (d_numbered_columns.dvs K) (d_numbered_columns.kws K) (He.ga K "numbered_columns") fd := T.c.def_ 28 (d := d_numbered_columns) rfl
theorem fd_columns_of_editions (T : Tx K mg) : ∃ fd, FunD K "columns_of_editions" "columns_of_editions" (defArgs s_columns_of_editions) (defBody s_columns_of_editions) (defScope s_columns_of_editions) (d_columns_of_editions.dvs K) (d_columns_of_editions.kws K) (He.ga K "columns_of_editions") fd := T.c.def_ 29 (d := d_columns_of_editions) rfl
theorem fd_births (T : Tx K mg) : ∃ fd, FunD K "births" "births" (defArgs s_births) (defBody s_births) (defScope s_births) (d_births.dvs K) (d_births.kws K) (He.ga K "births") fd := T.c.def_ 30 (d := d_births) rfl
theorem fd_drops (T : Tx K mg) : ∃ fd, FunD K "drops" "drops" (defArgs s_drops) (defBody s_drops) (defScope s_drops) (d_drops.dvs K) (d_drops.kws K) (He.ga K "drops") fd := T.c.def_ 31 (d := d_drops) rfl
theorem fd_History___init__ (T : Tx K mg) : ∃ fd, FunD K "__init__" "History.__init__" (defArgs s_History___init__) (defBody s_History___init__) (defScope s_History___init__) (d_History___init__.dvs K) (d_History___init__.kws K) (He.ma K (He.ga K "History") "__init__") fd := T.c.def_ 32 (d := d_History___init__) rfl
theorem fd_History___len__ (T : Tx K mg) : ∃ fd, FunD K "__len__" "History.__len__" (defArgs s_History___len__) (defBody s_History___len__) (defScope s_History___len__) (d_History___len__.dvs K) (d_History___len__.kws K) (He.ma K (He.ga K "History") "__len__") fd := T.c.def_ 33 (d := d_History___len__) rfl
theorem fd_History___getitem__ (T : Tx K mg) : ∃ fd, FunD K "__getitem__" "History.__getitem__" (defArgs s_History___getitem__) (defBody s_History___getitem__) (defScope s_History___getitem__) (d_History___getitem__.dvs K) (d_History___getitem__.kws K) (He.ma K (He.ga K "History") "__getitem__") fd := T.c.def_ 34 (d := d_History___getitem__) rfl
theorem fd_History_columns (T : Tx K mg) : ∃ fd, FunD K "columns" "History.columns" (defArgs s_History_columns) (defBody s_History_columns) (defScope s_History_columns) (d_History_columns.dvs K) (d_History_columns.kws K) (He.ma K (He.ga K "History") "columns") fd := T.c.def_ 35 (d := d_History_columns) rfl
theorem fd_History_column (T : Tx K mg) : ∃ fd, FunD K "column" "History.column" (defArgs s_History_column) (defBody s_History_column) (defScope s_History_column) (d_History_column.dvs K) (d_History_column.kws K) (He.ma K (He.ga K "History") "column") fd := T.c.def_ 36 (d := d_History_column) rfl
theorem fd_History_numbers (T : Tx K mg) : ∃ fd, FunD K "numbers" "History.numbers" (defArgs s_History_numbers) (defBody s_History_numbers) (defScope s_History_numbers) (d_History_numbers.dvs K) (d_History_numbers.kws K) (He.ma K (He.ga K "History") "numbers") fd := T.c.def_ 37 (d := d_History_numbers) rfl
theorem fd_History_born (T : Tx K mg) : ∃ fd, FunD K "born" "History.born" (defArgs s_History_born) (defBody s_History_born) (defScope s_History_born) (d_History_born.dvs K) (d_History_born.kws K) (He.ma K (He.ga K "History") "born") fd := T.c.def_ 38 (d := d_History_born) rfl
theorem fd_History_dropped (T : Tx K mg) : ∃ fd, FunD K "dropped" "History.dropped" (defArgs s_History_dropped) (defBody s_History_dropped) (defScope s_History_dropped) (d_History_dropped.dvs K) (d_History_dropped.kws K) (He.ma K (He.ga K "History") "dropped") fd := T.c.def_ 39 (d := d_History_dropped) rfl
theorem fd_History_then (T : Tx K mg) : ∃ fd, FunD K "then" "History.then" (defArgs s_History_then) (defBody s_History_then) (defScope s_History_then) (d_History_then.dvs K) (d_History_then.kws K) (He.ma K (He.ga K "History") "then") fd := T.c.def_ 40 (d := d_History_then) rfl
theorem fd_History_behind (T : Tx K mg) : ∃ fd, FunD K "behind" "History.behind" (defArgs s_History_behind) (defBody s_History_behind) (defScope s_History_behind) (d_History_behind.dvs K) (d_History_behind.kws K) (He.ma K (He.ga K "History") "behind") fd := T.c.def_ 41 (d := d_History_behind) rfl
theorem fd_is_given (T : Tx K mg) : ∃ fd, FunD K "is_given" "is_given" (defArgs s_is_given) (defBody s_is_given) (defScope s_is_given) (d_is_given.dvs K) (d_is_given.kws K) (He.ga K "is_given") fd := T.c.def_ 42 (d := d_is_given) rfl
theorem fd_is_row (T : Tx K mg) : ∃ fd, FunD K "is_row" "is_row" (defArgs s_is_row) (defBody s_is_row) (defScope s_is_row) (d_is_row.dvs K) (d_is_row.kws K) (He.ga K "is_row") fd := T.c.def_ 43 (d := d_is_row) rfl
theorem fd_changed_row (T : Tx K mg) : ∃ fd, FunD K "changed_row" "changed_row" (defArgs s_changed_row) (defBody s_changed_row) (defScope s_changed_row) (d_changed_row.dvs K) (d_changed_row.kws K) (He.ga K "changed_row") fd := T.c.def_ 44 (d := d_changed_row) rfl
theorem fd_row_in_order (T : Tx K mg) : ∃ fd, FunD K "row_in_order" "row_in_order" (defArgs s_row_in_order) (defBody s_row_in_order) (defScope s_row_in_order) (d_row_in_order.dvs K) (d_row_in_order.kws K) (He.ga K "row_in_order") fd := T.c.def_ 45 (d := d_row_in_order) rfl
theorem fd_Plain___init__ (T : Tx K mg) : ∃ fd, FunD K "__init__" "Plain.__init__" (defArgs s_Plain___init__) (defBody s_Plain___init__) (defScope s_Plain___init__) (d_Plain___init__.dvs K) (d_Plain___init__.kws K) (He.ma K (He.ga K "Plain") "__init__") fd := T.c.def_ 46 (d := d_Plain___init__) rfl
theorem fd_Plain_rows (T : Tx K mg) : ∃ fd, FunD K "rows" "Plain.rows" (defArgs s_Plain_rows) (defBody s_Plain_rows) (defScope s_Plain_rows) (d_Plain_rows.dvs K) (d_Plain_rows.kws K) (He.ma K (He.ga K "Plain") "rows") fd := T.c.def_ 47 (d := d_Plain_rows) rfl
theorem fd_Plain_changed (T : Tx K mg) : ∃ fd, FunD K "changed" "Plain.changed" (defArgs s_Plain_changed) (defBody s_Plain_changed) (defScope s_Plain_changed) (d_Plain_changed.dvs K) (d_Plain_changed.kws K) (He.ma K (He.ga K "Plain") "changed") fd := T.c.def_ 48 (d := d_Plain_changed) rfl
theorem fd_Plain_why_not (T : Tx K mg) : ∃ fd, FunD K "why_not" "Plain.why_not" (defArgs s_Plain_why_not) (defBody s_Plain_why_not) (defScope s_Plain_why_not) (d_Plain_why_not.dvs K) (d_Plain_why_not.kws K) (He.ma K (He.ga K "Plain") "why_not") fd := T.c.def_ 49 (d := d_Plain_why_not) rfl
theorem fd__law_pool (T : Tx K mg) : ∃ fd, FunD K "_law_pool" "_law_pool" (defArgs s__law_pool) (defBody s__law_pool) (defScope s__law_pool) (d__law_pool.dvs K) (d__law_pool.kws K) (He.ga K "_law_pool") fd := T.c.def_ 50 (d := d__law_pool) rfl
theorem fd__law_draw (T : Tx K mg) : ∃ fd, FunD K "_law_draw" "_law_draw" (defArgs s__law_draw) (defBody s__law_draw) (defScope s__law_draw) (d__law_draw.dvs K) (d__law_draw.kws K) (He.ga K "_law_draw") fd := T.c.def_ 51 (d := d__law_draw) rfl
theorem fd__law_pick (T : Tx K mg) : ∃ fd, FunD K "_law_pick" "_law_pick" (defArgs s__law_pick) (defBody s__law_pick) (defScope s__law_pick) (d__law_pick.dvs K) (d__law_pick.kws K) (He.ga K "_law_pick") fd := T.c.def_ 52 (d := d__law_pick) rfl
theorem fd__law_gone (T : Tx K mg) : ∃ fd, FunD K "_law_gone" "_law_gone" (defArgs s__law_gone) (defBody s__law_gone) (defScope s__law_gone) (d__law_gone.dvs K) (d__law_gone.kws K) (He.ga K "_law_gone") fd := T.c.def_ 53 (d := d__law_gone) rfl
theorem fd__law_cases (T : Tx K mg) : ∃ fd, FunD K "_law_cases" "_law_cases" (defArgs s__law_cases) (defBody s__law_cases) (defScope s__law_cases) (d__law_cases.dvs K) (d__law_cases.kws K) (He.ga K "_law_cases") fd := T.c.def_ 54 (d := d__law_cases) rfl
theorem fd_law (T : Tx K mg) : ∃ fd, FunD K "law" "law" (defArgs s_law) (defBody s_law) (defScope s_law) (d_law.dvs K) (d_law.kws K) (He.ga K "law") fd := T.c.def_ 55 (d := d_law) rfl
theorem ex_History___init___0 (T : Tx K mg) : emptyTupB K (He.dflAt ("History", some "__init__") 0 K) = true := List.all_eq_true.mp T.e _ (List.mem_of_getElem? (i := 0) rfl)
theorem ex_PARTS (T : Tx K mg) : He.tupB K "PARTS" [(.str "name"), (.str "greatest"), (.str "default"), (.str "number")] = true := List.all_eq_true.mp T.e _ (List.mem_of_getElem? (i := 1) rfl)
theorem ex_WAYS (T : Tx K mg) : He.tupB K "WAYS" [(.str "cut"), (.str "none"), (.str "refuse")] = true := List.all_eq_true.mp T.e _ (List.mem_of_getElem? (i := 2) rfl)
theorem ex_Column (T : Tx K mg) : insB K "Column" = true := List.all_eq_true.mp T.e _ (List.mem_of_getElem? (i := 3) rfl)
theorem ex_History (T : Tx K mg) : insB K "History" = true := List.all_eq_true.mp T.e _ (List.mem_of_getElem? (i := 4) rfl)
end
/-! ### the head and the end -/
abbrev RowR : PySem.W.OpenRow := PySem.W.OpenLaw.row PySem.Challenge.rw_editionrows_k12_known_tables
abbrev hkR : PySem.W.Hook := hookP 5 fal fnl exl
def obR (s : PySem.W.SharedT) : AlP := obsP 5 fal fnl exl (HandSHeadRun.getT s)
theorem obR_eq (s : PySem.W.SharedT) : obR s = hkR.obs s.abs := obsP_eq (HandSHeadRun.getT_eq s)
abbrev looseR : List PySem.Str := ((["_wall", "TableError", "BadColumn", "BadPart", "BadChange", "CannotBe", "BadEdition", "BadRow", "UnknownName", "TooMany", "MISSING", "LETTERS", "LONGEST_NAME", "MOST_GREATEST", "is_whole", "is_list", "is_word", "is_name", "is_greatest", "is_value", "is_within", "is_missing", "PARTS", "Column", "column_named"] : List PySem.Str) ++ (["column_numbered", "WAYS", "MOST_COLUMNS", "is_change", "has_parts", "is_single_part", "is_way", "kind_of", "why_not", "why_not_changes", "hindrance", "add_hindrance", "columns_behind", "changed_column", "changed_value", "value_above", "MOST_CHANGES", "is_edition", "edition_of", "numbered_columns", "columns_of_editions", "births", "drops", "History", "is_given"] : List PySem.Str) ++ (["is_row", "changed_row", "row_in_order", "Plain", "_law_pool", "_law_draw", "_law_pick", "_law_gone", "_law_cases"] : List PySem.Str))
theorem runL (w : World) : ∀ os : PySem.OsState, (HandSHeadRun.endF (HandSHeadRun.stepQ (HandSHeadRun.denQ HandSHeadRun.tabQ) RowR.prog w) 9000 RowR.prog w os).map (fun s => (HandSHeadRun.looksF RowR.prog (PySem.W.boot_heap w.params) s.abs, HandSHeadRun.seenQ (PySem.W.view RowR.prog [66]) looseR (PySem.importedModules RowR.prog.main.body) (fun s => PySem.W.xlAt (PySem.W.view RowR.prog [66]) [] s && PySem.W.recOk RowR.toRowW.records s) s.abs)) = some (true, PySem.W.openGood (PySem.W.view RowR.prog [66]) looseR) := by
  intro os
  kernel_rfl
theorem runO0 (w : World) : ∀ os : PySem.OsState, (HandSHeadRun.endF (HandSHeadRun.stepQ (HandSHeadRun.denQ HandSHeadRun.tabQ) RowR.prog w) 9000 RowR.prog w os).map (fun s => obsP 5 fa0 fn0 exl (HandSHeadRun.getT s)) = some (valP fn0) := by
  intro os
  kernel_rfl
theorem obs_two {n : Nat} {fa fb : List He.Fa} {fn gn : List He.DefD} {ex ey : PySem.W.Frag → Bool} {g : Addr → Option Obj} (h1 : obsP n fa fn ex g = valP fn) (h2 : obsP n fb gn ey g = valP gn) : obsP n (fa ++ fb) (fn ++ gn) ex g = valP (fn ++ gn) := by
  have a1 : ((fa.all fun f => f.ok (He.frG g (asW g n))) && fn.all fun d => d.ok (He.frG g (asW g n))) = true := congrArg (fun z : AlP => z.1.1) h1
  have a2 : fn.map (fun d => He.fnW (He.frG g (asW g n)) d.at_) = fn.map He.DefD.val := (congrArg (fun z : AlP => z.1.2) h1).trans (mapV_eq fn)
  have a3 : ex (He.frG g (asW g n)) = true := congrArg (fun z : AlP => z.2) h1
  have b1 : ((fb.all fun f => f.ok (He.frG g (asW g n))) && gn.all fun d => d.ok (He.frG g (asW g n))) = true := congrArg (fun z : AlP => z.1.1) h2
  have b2 : gn.map (fun d => He.fnW (He.frG g (asW g n)) d.at_) = gn.map He.DefD.val := (congrArg (fun z : AlP => z.1.2) h2).trans (mapV_eq gn)
  rw [valP_eq]
  rw [Bool.and_eq_true] at a1 b1
  show ((((fa ++ fb).all fun f => f.ok (He.frG g (asW g n))) && (fn ++ gn).all fun d => d.ok (He.frG g (asW g n)), (fn ++ gn).map fun d => He.fnW (He.frG g (asW g n)) d.at_), ex (He.frG g (asW g n))) = ((true, (fn ++ gn).map He.DefD.val), true)
  rw [List.all_append, List.all_append, a1.1, a1.2, b1.1, b1.2, List.map_append, a2, b2, List.map_append, a3]
  rfl
theorem join_run {S A B C : Type} {o : Option S} {f : S → A} {g : S → B} {h : S → C} {a : A} {b : B} {c : C} (e1 : o.map (fun s => (f s, g s)) = some (a, b)) (e2 : o.map h = some c) : o.map (fun s => (f s, g s, h s)) = some (a, b, c) := by
  cases o with
  | none => cases e1
  | some s =>
    have l : (f s, g s) = (a, b) := Option.some.inj e1
    have l1 : f s = a := congrArg Prod.fst l
    have l2 : g s = b := congrArg Prod.snd l
    have r : h s = c := Option.some.inj e2
    show some (f s, g s, h s) = some (a, b, c)
    rw [l1, l2, r]
theorem join_obs {n : Nat} {fa fb : List He.Fa} {fn gn : List He.DefD} {ex ey : PySem.W.Frag → Bool} {o : Option PySem.W.SharedT} (e1 : o.map (fun s => obsP n fa fn ex (HandSHeadRun.getT s)) = some (valP fn)) (e2 : o.map (fun s => obsP n fb gn ey (HandSHeadRun.getT s)) = some (valP gn)) :
    o.map (fun s => obsP n (fa ++ fb) (fn ++ gn) ex (HandSHeadRun.getT s)) = some (valP (fn ++ gn)) := by
  cases o with
  | none => cases e1
  | some s => exact congrArg some (obs_two (Option.some.inj e1) (Option.some.inj e2))
theorem runR (w : World) : HandSHeadRun.RunEq RowR (PySem.W.view RowR.prog [66]) hkR obR 9000 looseR w := fun os => join_run (runL w os) (runO0 w os)
section
variable {P : Program} {w : World} {K : PySem.W.Frag} {mg : Str → Option Value} {base : Heap}
/-! is_whole -/
def sp_is_whole (K : PySem.W.Frag) : Sp := fun vs H Q _ => ∃ (x : V) (t : String), vs = [x] ∧ TyX K H x (.type t) ∧ Q (.bl (isI x)) H
theorem ok_is_whole (T : Tx K mg) : Callee P w K mg base CX0 1 "is_whole" ["value"] [] (sp_is_whole K) := by
  refine mkCallee (fd_is_whole T) (mg_is_whole T) sc_is_whole (fun _ _ _ _ _ _ us hl => match us, hl with | [_], _ => rfl) (fun vs H Q E h => ?_) (fun cdv A outer s H vs Q E hr h => ?_)
  · obtain ⟨x, t, rfl, _⟩ := h
    rfl
  · obtain ⟨x, t, rfl, ty, k⟩ := h
    obtain ⟨ba, bb, e1, e2, e3⟩ := kit_whole ty
    refine ⟨_, pss_one (ps_ret (pe_and (pe_callB call_isi (by rfl) (fr_isinstance T) (by decide +kernel) (pa_cons (pv 0) (pa_cons (pe_bltn (v := .ty "int") (by rfl) (fr_int T) (by decide +kernel) rfl) pa_nil)))
      (pe_one (pe_not (pe_callB call_isi (by rfl) (fr_isinstance T) (by decide +kernel) (pa_cons (pv 0) (pa_cons (pe_bltn (v := .ty "bool") (by rfl) (fr_bool T) (by decide +kernel) rfl) pa_nil))))))), ?_⟩
    refine ⟨x, rfl, x, .ty "int", _, _, ba, rfl, .ty "int", ty, kit_ty e1, ba, rfl, ?_⟩
    cases ba with
    | false =>
      refine iteF ?_
      rw [← e3] at k
      exact k
    | true =>
      refine iteT ⟨x, rfl, x, .ty "bool", _, _, bb, rfl, .ty "bool", ty, kit_ty e2, bb, rfl, ?_⟩
      rw [← e3] at k
      exact k
/-! is_list, of a list or a tuple -/
theorem sqL_ty {K : PySem.W.Frag} {H : Hp} {a : Addr} {xs : List V} (h : SqL K H a xs) : TyX K H (.ref a) (.type "list") := by
  rcases h with (h | ⟨o, h⟩) | ⟨o, its, n, h, hc, _⟩
  · exact .base (.lst h)
  · exact .base (.frz h)
  · exact .kList h hc
def sp_is_list (K : PySem.W.Frag) : Sp := fun vs H Q _ => ∃ (a : Addr) (xs : List V), vs = [.ref a] ∧ SqL K H a xs ∧ ∀ H', Same H H' → Q (.bl true) H'
theorem ok_is_list (T : Tx K mg) : Callee P w K mg base CX0 1 "is_list" ["value"] [] (sp_is_list K) := by
  refine mkCallee (fd_is_list T) (mg_is_list T) sc_is_list (fun _ _ _ _ _ _ us hl => match us, hl with | [_], _ => rfl) (fun vs H Q E h => ?_) (fun cdv A outer s H vs Q E hr h => ?_)
  · obtain ⟨a, xs, rfl, _⟩ := h
    rfl
  · obtain ⟨a, xs, rfl, hx, k⟩ := h
    refine ⟨_, pss_one (ps_ret (pe_callB call_isiT (by rfl) (fr_isinstance T) (by decide +kernel) (pa_cons (pv 0) (pa_cons (pe_tup (pa_cons (pe_bltn (v := .ty "list") (by rfl) (fr_list T) (by decide +kernel) rfl) (pa_cons (pe_bltn (v := .ty "tuple") (by rfl) (fr_tuple T) (by decide +kernel) rfl) pa_nil))) pa_nil)))), ?_⟩
    refine ⟨_, rfl, (by show 2 ≤ sizeLine; decide), fun t nt => ?_⟩
    have s := same_new (o := .tup [.ty "list", .ty "tuple"]) nt
    exact ⟨.ref a, t, _, _, _, true, rfl, upd_same, .cons (.ty "list") (.cons (.ty "tuple") .nil), sqL_ty (s.seq hx), kitAny_cons (b := true) (kit_ty (by decide +kernel)) (fun z => by cases z) (fun _ => rfl), k _ s⟩
/-! is_word, of any value and a tuple of words -/
def wordV (x : V) (xs : List V) : Bool := match x with
  | .str z => inV (.str z) xs
  | _ => false
theorem kit_strW {K : PySem.W.Frag} {H : Hp} {x : V} {t : String} (ty : TyX K H x (.type t)) : ∃ a : Bool, kitB t "str" = some a ∧ ((a = true ∧ ∃ z, x = .str z) ∨ (a = false ∧ ∀ xs, wordV x xs = false)) := by
  cases ty with
  | base h =>
    cases h with
    | str z => exact ⟨true, by decide +kernel, .inl ⟨rfl, z, rfl⟩⟩
    | _ => exact ⟨false, by decide +kernel, .inr ⟨rfl, fun _ => rfl⟩⟩
  | _ => exact ⟨false, by decide +kernel, .inr ⟨rfl, fun _ => rfl⟩⟩
def sp_is_word (K : PySem.W.Frag) : Sp := fun vs H Q _ => ∃ (x : V) (t : String) (p : Addr) (xs : List V), vs = [x, .ref p] ∧ TyX K H x (.type t) ∧ SqT K H p xs ∧ xs.all flatV = true ∧ Q (.bl (wordV x xs)) H
theorem ok_is_word (T : Tx K mg) : Callee P w K mg base CX0 1 "is_word" ["value", "words"] [] (sp_is_word K) := by
  refine mkCallee (fd_is_word T) (mg_is_word T) sc_is_word (fun _ _ _ _ _ _ us hl => match us, hl with | [_, _], _ => rfl) (fun vs H Q E h => ?_) (fun cdv A outer s H vs Q E hr h => ?_)
  · obtain ⟨x, t, p, xs, rfl, _⟩ := h
    rfl
  · obtain ⟨x, t, p, xs, rfl, ty, hp, hf, k⟩ := h
    obtain ⟨a, e1, e2⟩ := kit_strW ty
    refine ⟨_, pss_one (ps_ret (pe_and (pe_callB call_isi (by rfl) (fr_isinstance T) (by decide +kernel) (pa_cons (pv 0) (pa_cons (pe_bltn (v := .ty "str") (by rfl) (fr_str T) (by decide +kernel) rfl) pa_nil)))
      (pe_one (pe_cmpR op_in_seq (pv 0) (pv 1) (by rfl))))), ?_⟩
    refine ⟨x, rfl, x, .ty "str", _, _, a, rfl, .ty "str", ty, kit_ty e1, a, rfl, ?_⟩
    rcases e2 with ⟨rfl, z, rfl⟩ | ⟨rfl, e⟩
    · exact iteT ⟨_, rfl, _, rfl, p, xs, rfl, .inr hp, rfl, hf, k⟩
    · rw [e xs] at k
      exact k
/-! is_name -/
def letters : Str := "abcdefghijklmnopqrstuvwxyz"
def isNm : V → Bool
  | .str n => decide (1 ≤ n.length) && (decide (n.length ≤ 8) && n.cps.toList.all fun c => decide (c ∈ letters.cps.toList))
  | _ => false
def sp_is_name (K : PySem.W.Frag) : Sp := fun vs H Q _ => ∃ (x : V) (t : String), vs = [x] ∧ TyX K H x (.type t) ∧ (∀ n, x = .str n → n.length ≤ 1000) ∧ ∀ H', Same H H' → Q (.bl (isNm x)) H'
theorem kit_str2 {K : PySem.W.Frag} {H : Hp} {x : V} {t : String} (ty : TyX K H x (.type t)) : ∃ a : Bool, kitB t "str" = some a ∧ ((a = true ∧ ∃ z, x = .str z) ∨ (a = false ∧ ∀ z, x ≠ .str z)) := by
  cases ty with
  | base h =>
    cases h with
    | str z => exact ⟨true, by decide +kernel, .inl ⟨rfl, z, rfl⟩⟩
    | _ => exact ⟨false, by decide +kernel, .inr ⟨rfl, fun z h => by cases h⟩⟩
  | _ => exact ⟨false, by decide +kernel, .inr ⟨rfl, fun z h => by cases h⟩⟩
theorem ok_is_name (T : Tx K mg) : Callee P w K mg base CX0 1 "is_name" ["value"] [] (sp_is_name K) := by
  refine mkCallee (fd_is_name T) (mg_is_name T) sc_is_name (fun _ _ _ _ _ _ us hl => match us, hl with | [_], _ => rfl) (fun vs H Q E h => ?_) (fun cdv A outer s H vs Q E hr h => ?_)
  · obtain ⟨x, t, rfl, _⟩ := h
    rfl
  · obtain ⟨x, t, rfl, ty, hlen, k⟩ := h
    obtain ⟨tk, gL⟩ := ms_LETTERS T
    obtain ⟨tk2, gN⟩ := mi_LONGEST_NAME T
    obtain ⟨a, e1, e2⟩ := kit_str2 ty
    have nd := sc_is_name.nd
    refine ⟨_, pss_cons (ps_if (PW.pt (pw_or (pt_not (pt_val (pe_callB call_isi (by rfl) (fr_isinstance T) (by decide +kernel) (pa_cons (pv 0) (pa_cons (pe_bltn (v := .ty "str") (by rfl) (fr_str T) (by decide +kernel) rfl) pa_nil)))))
        (pw_or1 (pt_not (pt_chain op_le op_le pe_int (pe_callB call_len_str (by rfl) (fr_len T) PySem.boot_len (pa_cons (pv 0) pa_nil)) (pe_glob (v := .int 8) (by rfl) gN ⟨_, rfl⟩)))))) (pss_one (ps_ret pe_bl)) pss_nil)
      (pss_one (ps_ret (pe_callB (cr_all rfl) (by rfl) (fr_all T) (by decide +kernel) (pa_cons (pe_lc (own := [("letter", 1)]) (g := gName 1) (tt := tYes) rfl nd (pi_str (pv 0)) (blkOk_by (N := ["value", "letter"]) (sc := defScope s_is_name) (by decide +kernel))
        (fun _ _ _ _ _ => pg_name (i := 1) nd rfl (Or.inl rfl)) (fun _ _ _ _ _ => pts_nil) (fun _ _ _ _ _ => pe_cmpR op_in_sign (pv 1) (pe_glob (v := .str letters) (by rfl) gL ⟨_, rfl⟩) (by rfl))) pa_nil)))), ?_⟩
    refine ⟨x, rfl, x, .ty "str", _, _, a, rfl, .ty "str", ty, kit_ty e1, _, rfl, ?_⟩
    rcases e2 with ⟨rfl, z, rfl⟩ | ⟨rfl, hz⟩
    · have hl := hlen z rfl
      refine iteF ⟨_, rfl, z, rfl, Nat.le_trans hl (by decide), _, _, rfl, rfl, decide ((1 : Int) ≤ (z.length : Int)), rfl, ?_⟩
      have e0 : isNm (.str z) = (decide ((1 : Int) ≤ (z.length : Int)) && (decide ((z.length : Int) ≤ 8) && z.cps.toList.all fun c => decide (c ∈ letters.cps.toList))) := by
        have a1 : decide (1 ≤ z.length) = decide ((1 : Int) ≤ (z.length : Int)) := by
          rw [decide_eq_decide]
          omega
        have a2 : decide (z.length ≤ 8) = decide ((z.length : Int) ≤ 8) := by
          rw [decide_eq_decide]
          omega
        show (decide (1 ≤ z.length) && (decide (z.length ≤ 8) && _)) = _
        rw [a1, a2]
      cases h1 : decide ((1 : Int) ≤ (z.length : Int)) with
      | false =>
        have e9 : isNm (.str z) = false := by
          rw [e0, h1]
          rfl
        rw [e9] at k
        exact iteF ⟨false, rfl, iteT (k H (Same.refl _))⟩
      | true =>
        refine iteT ⟨_, _, rfl, rfl, decide ((z.length : Int) ≤ 8), rfl, ?_⟩
        rw [h1] at e0
        cases h2 : decide ((z.length : Int) ≤ 8) with
        | false =>
          have e9 : isNm (.str z) = false := by
            rw [e0, h2]
            rfl
          rw [e9] at k
          exact iteT (k H (Same.refl _))
        | true =>
          rw [h2, Bool.true_and, Bool.true_and] at e0
          rw [e0] at k
          refine iteF (nxt ?_)
          dsimp only
          refine pl_r1 (tlc_S (fun c => .bl (decide (c ∈ letters.cps.toList))) z ?_ ?_ ?_ ?_ ?_)
          · exact fun R r => ⟨_, rfl, r⟩
          · exact Nat.le_trans hl (by decide)
          · exact fun x => rfl
          · exact fun c hc H' s' R r => ⟨_, rfl, c, letters, rfl, rfl, r H' (Same.refl _)⟩
          · intro D H' hD sD hD2
            refine ⟨D, z.cps.toList.map fun c => decide (c ∈ letters.cps.toList), rfl, sqL_of (by rw [List.map_map]; exact hD2), ?_⟩
            rw [List.all_map]
            exact k H' sD
    · have e0 : isNm x = false := by
        cases x with
        | str z => exact absurd rfl (hz z)
        | _ => rfl
      rw [e0] at k
      exact k H (Same.refl _)
/-! is_greatest -/
def isGr : V → Bool
  | .int i => decide (1 ≤ i) && decide (i ≤ 99)
  | _ => false
def sp_is_greatest (K : PySem.W.Frag) : Sp := fun vs H Q _ => ∃ (x : V) (t : String), vs = [x] ∧ TyX K H x (.type t) ∧ Q (.bl (isGr x)) H
theorem ok_is_greatest (T : Tx K mg) : Callee P w K mg base CX0 2 "is_greatest" ["value"] [] (sp_is_greatest K) := by
  have C1 := ok_is_whole (P := P) (w := w) (base := base) T
  refine mkCallee (fd_is_greatest T) (mg_is_greatest T) sc_is_greatest (fun _ _ _ _ _ _ us hl => match us, hl with | [_], _ => rfl) (fun vs H Q E h => ?_) (fun cdv A outer s H vs Q E hr h => ?_)
  · obtain ⟨x, t, rfl, _⟩ := h
    rfl
  · obtain ⟨x, t, rfl, ty, k⟩ := h
    obtain ⟨tk, gM⟩ := mi_MOST_GREATEST T
    refine ⟨_, pss_one (ps_ret (pe_and (pcall C1 hr (pa_cons (pv 0) pa_nil)) (pe_one (pe_chain op_le op_le pe_int (pv 0) (pe_glob (v := .int 99) (by rfl) gM ⟨_, rfl⟩))))), ?_⟩
    refine ⟨x, rfl, x, t, rfl, ty, _, rfl, ?_⟩
    cases x with
    | int i =>
      refine iteT ⟨_, rfl, _, _, rfl, rfl, _, rfl, ?_⟩
      have e : isGr (.int i) = (decide (1 ≤ i) && decide (i ≤ 99)) := rfl
      rw [e] at k
      cases h1 : decide (1 ≤ i) with
      | false =>
        rw [h1] at k
        exact k
      | true =>
        rw [h1] at k
        exact ⟨_, _, rfl, rfl, k⟩
    | _ => exact iteF k
/-! is_value -/
def isVal : V → Bool
  | .non => true
  | .int i => decide (0 ≤ i)
  | _ => false
def sp_is_value (K : PySem.W.Frag) : Sp := fun vs H Q _ => ∃ (x : V) (t : String), vs = [x] ∧ TyX K H x (.type t) ∧ Q (.bl (isVal x)) H
theorem ok_is_value (T : Tx K mg) : Callee P w K mg base CX0 2 "is_value" ["value"] [] (sp_is_value K) := by
  have C1 := ok_is_whole (P := P) (w := w) (base := base) T
  refine mkCallee (fd_is_value T) (mg_is_value T) sc_is_value (fun _ _ _ _ _ _ us hl => match us, hl with | [_], _ => rfl) (fun vs H Q E h => ?_) (fun cdv A outer s H vs Q E hr h => ?_)
  · obtain ⟨x, t, rfl, _⟩ := h
    rfl
  · obtain ⟨x, t, rfl, ty, k⟩ := h
    refine ⟨_, pss_one (ps_ret (pe_or (pe_cmpR op_isN (pv 0) pe_non (nomark _)) (pe_one (pe_and (pcall C1 hr (pa_cons (pv 0) pa_nil)) (pe_one (pe_cmpR op_ge (pv 0) pe_int (nomark _))))))), ?_⟩
    refine ⟨x, rfl, rfl, _, rfl, ?_⟩
    by_cases hx : x = .non
    · subst hx
      exact k
    · rw [decide_eq_false hx]
      refine iteF ⟨x, rfl, x, t, rfl, ty, _, rfl, ?_⟩
      cases x with
      | int i => exact ⟨_, rfl, _, _, rfl, rfl, k⟩
      | non => exact absurd rfl hx
      | _ => exact k
/-! is_within -/
def isIn (g : Int) : V → Bool
  | .non => true
  | .int i => decide (0 ≤ i) && decide (i ≤ g)
  | _ => false
def sp_is_within (K : PySem.W.Frag) : Sp := fun vs H Q _ => ∃ (x : V) (g : Int) (t : String), vs = [x, .int g] ∧ TyX K H x (.type t) ∧ Q (.bl (isIn g x)) H
theorem ok_is_within (T : Tx K mg) : Callee P w K mg base CX0 3 "is_within" ["value", "greatest"] [] (sp_is_within K) := by
  have C1 := ok_is_value (P := P) (w := w) (base := base) T
  refine mkCallee (fd_is_within T) (mg_is_within T) sc_is_within (fun _ _ _ _ _ _ us hl => match us, hl with | [_, _], _ => rfl) (fun vs H Q E h => ?_) (fun cdv A outer s H vs Q E hr h => ?_)
  · obtain ⟨x, g, t, rfl, _⟩ := h
    rfl
  · obtain ⟨x, g, t, rfl, ty, k⟩ := h
    refine ⟨_, pss_one (ps_ret (pe_and (pcall C1 hr (pa_cons (pv 0) pa_nil)) (pe_one (pe_or (pe_cmpR op_isN (pv 0) pe_non (nomark _)) (pe_one (pe_cmpR op_le (pv 0) (pv 1) (nomark _))))))), ?_⟩
    refine ⟨x, rfl, x, t, rfl, ty, _, rfl, ?_⟩
    cases x with
    | non => exact ⟨_, rfl, rfl, _, rfl, k⟩
    | int i =>
      by_cases hi : 0 ≤ i
      · have e : isVal (.int i) = true := decide_eq_true hi
        rw [e]
        refine ⟨_, rfl, rfl, _, rfl, ?_⟩
        refine ⟨_, rfl, _, rfl, _, _, rfl, rfl, ?_⟩
        have e2 : isIn g (.int i) = decide (i ≤ g) := by
          show (decide (0 ≤ i) && decide (i ≤ g)) = _
          rw [decide_eq_true hi, Bool.true_and]
        rw [e2] at k
        exact k
      · have e : isVal (.int i) = false := decide_eq_false hi
        rw [e]
        have e2 : isIn g (.int i) = false := by
          show (decide (0 ≤ i) && decide (i ≤ g)) = _
          rw [decide_eq_false hi, Bool.false_and]
        rw [e2] at k
        exact k
    | _ => exact k
/-! is_missing -/
def isMis : V → Bool
  | .str z => decide (z = "missing")
  | _ => false
theorem word_mis (x : V) : wordV x [.str "missing"] = isMis x := by
  cases x with
  | str z =>
    show (("missing" : Str) == z || false) = decide (z = "missing")
    rw [Bool.or_false]
    by_cases h : z = "missing"
    · rw [h, decide_eq_true rfl]
      exact beq_self_eq_true _
    · rw [decide_eq_false h]
      exact beq_eq_false_iff_ne.mpr (fun e => h e.symm)
  | _ => rfl
def sp_is_missing (K : PySem.W.Frag) : Sp := fun vs H Q _ => ∃ (x : V) (t : String), vs = [x] ∧ TyX K H x (.type t) ∧ (∀ H', Same H H' → TyX K H' x (.type t)) ∧ ∀ H', Same H H' → Q (.bl (isMis x)) H'
theorem ok_is_missing (T : Tx K mg) : Callee P w K mg base CX0 2 "is_missing" ["value"] [] (sp_is_missing K) := by
  have C1 := ok_is_word (P := P) (w := w) (base := base) T
  refine mkCallee (fd_is_missing T) (mg_is_missing T) sc_is_missing (fun _ _ _ _ _ _ us hl => match us, hl with | [_], _ => rfl) (fun vs H Q E h => ?_) (fun cdv A outer s H vs Q E hr h => ?_)
  · obtain ⟨x, t, rfl, _⟩ := h
    rfl
  · obtain ⟨x, t, rfl, ty, tm, k⟩ := h
    obtain ⟨tk, gM⟩ := ms_MISSING T
    refine ⟨_, pss_one (ps_ret (pcall C1 hr (pa_cons (pv 0) (pa_cons (pe_tup (pa_cons (pe_glob (v := .str "missing") (by rfl) gM ⟨_, rfl⟩) pa_nil)) pa_nil)))), ?_⟩
    refine ⟨_, rfl, by decide, fun p np => ⟨x, t, p, _, rfl, tm _ (same_new np), sqT_of upd_same, rfl, ?_⟩⟩
    rw [word_mis]
    exact k _ (same_new np)
/-! Column.__init__, where its parts fit -/
def colFs (n : Str) (g : Int) (d : V) (k : Int) : List (Str × V) := [("name", .str n), ("greatest", .int g), ("default", d), ("number", .int k)]
theorem colFs_eq (n : Str) (g : Int) (d : V) (k : Int) : putF "number" (.int k) (putF "default" d (putF "greatest" (.int g) (putF "name" (.str n) []))) = colFs n g d k := by
  have h1 : ¬ (("name" : Str) = "greatest") := by decide +kernel
  have h2 : ¬ (("name" : Str) = "default") := by decide +kernel
  have h3 : ¬ (("greatest" : Str) = "default") := by decide +kernel
  have h4 : ¬ (("name" : Str) = "number") := by decide +kernel
  have h5 : ¬ (("greatest" : Str) = "number") := by decide +kernel
  have h6 : ¬ (("default" : Str) = "number") := by decide +kernel
  simp only [putF, if_neg h1, if_neg h2, if_neg h3, if_neg h4, if_neg h5, if_neg h6]
  rfl
theorem put2 (n : Str) (g : Int) : putF "greatest" (.int g) (putF "name" (.str n) []) = ([("name", .str n), ("greatest", .int g)] : List (Str × V)) := by
  have h1 : ¬ (("name" : Str) = "greatest") := by decide +kernel
  simp only [putF, if_neg h1]
theorem put3 (n : Str) (g : Int) (d : V) : putF "default" d (putF "greatest" (.int g) (putF "name" (.str n) [])) = ([("name", .str n), ("greatest", .int g), ("default", d)] : List (Str × V)) := by
  have h2 : ¬ (("name" : Str) = "default") := by decide +kernel
  have h3 : ¬ (("greatest" : Str) = "default") := by decide +kernel
  rw [put2]
  simp only [putF, if_neg h2, if_neg h3]
theorem colFs_name {n : Str} {g : Int} {d : V} {k : Int} : (colFs n g d k).lookup ("name" : Str) = some (.str n) := by
  unfold colFs
  simp [List.lookup]
theorem colFs_greatest {n : Str} {g : Int} {d : V} {k : Int} : (colFs n g d k).lookup ("greatest" : Str) = some (.int g) := by
  have h1 : (("greatest" : Str) == "name") = false := by decide +kernel
  unfold colFs
  simp [List.lookup, h1]
theorem colFs_default {n : Str} {g : Int} {d : V} {k : Int} : (colFs n g d k).lookup ("default" : Str) = some d := by
  have h1 : (("default" : Str) == "name") = false := by decide +kernel
  have h2 : (("default" : Str) == "greatest") = false := by decide +kernel
  unfold colFs
  simp [List.lookup, h1, h2]
theorem colFs_number {n : Str} {g : Int} {d : V} {k : Int} : (colFs n g d k).lookup ("number" : Str) = some (.int k) := by
  have h1 : (("number" : Str) == "name") = false := by decide +kernel
  have h2 : (("number" : Str) == "greatest") = false := by decide +kernel
  have h3 : (("number" : Str) == "default") = false := by decide +kernel
  unfold colFs
  simp [List.lookup, h1, h2, h3]
/-- a Column stands at c -/
def ColAt (K : PySem.W.Frag) (H : Hp) (c : Addr) (n : Str) (g : Int) (d : V) (k : Int) : Prop := ∃ dx, H c = some (.ins (He.ga K "Column") dx (colFs n g d k))
def sp_Col_init (K : PySem.W.Frag) : Sp := fun vs H Q _ => ∃ (c dx : Addr) (n : Str) (g k : Int) (d : V), vs = [.ref c, .str n, .int g, d, .int k] ∧ H c = some (.ins (He.ga K "Column") dx []) ∧ isNm (.str n) = true ∧ isGr (.int g) = true ∧ isIn g d = true ∧ 0 ≤ k ∧
  ∀ H', ColAt K H' c n g d k → (∀ b o, b ≠ c → H b = some o → H' b = some o) → Q .non H'
theorem nm_len {n : Str} (h : isNm (.str n) = true) : n.length ≤ 1000 := by
  have h' : (decide (1 ≤ n.length) && (decide (n.length ≤ 8) && _)) = true := h
  rw [Bool.and_eq_true, Bool.and_eq_true] at h'
  have := of_decide_eq_true h'.2.1
  omega
theorem ok_Col_init (T : Tx K mg) : ∃ fd, FnOk P w K mg base CX0 4 (He.ma K (He.ga K "Column") "__init__") fd ["self", "name", "greatest", "default", "number"] (sp_Col_init K) ∧
    FunD K "__init__" "Column.__init__" (defArgs s_Column___init__) (defBody s_Column___init__) (defScope s_Column___init__) (d_Column___init__.dvs K) (d_Column___init__.kws K) (He.ma K (He.ga K "Column") "__init__") fd := by
  have C1 := (ok_is_name (P := P) (w := w) (base := base) T).up (show 1 ≤ 3 by decide)
  have C2 := (ok_is_greatest (P := P) (w := w) (base := base) T).up (show 2 ≤ 3 by decide)
  have C3 := ok_is_within (P := P) (w := w) (base := base) T
  have C4 := (ok_is_whole (P := P) (w := w) (base := base) T).up (show 1 ≤ 3 by decide)
  obtain ⟨fd, F⟩ := fd_Column___init__ T
  refine ⟨fd, F.ok (CX := CX0) sc_Column___init__ (fun vs H Q E h => ?_) (fun cdv A outer s H vs Q E hr h => ?_), F⟩
  · obtain ⟨c, dx, n, g, k, d, rfl, _⟩ := h
    rfl
  suffices hh : ∃ t, PSs (cxOf CX0 P w K mg base ["self", "name", "greatest", "default", "number"] "Column.__init__" (defScope s_Column___init__) (He.ma K (He.ga K "Column") "__init__") cdv A outer s H E).nox (defBody s_Column___init__) t ∧
      t { nx := fun _ H' => Q .non H', rt := Q } (start ["self", "name", "greatest", "default", "number"] vs) H by
    obtain ⟨t, h1, h2⟩ := hh
    exact ⟨t, h1.nox, h2⟩
  obtain ⟨c, dx, n, g, k, d, rfl, hc, hn, hg, hd, hk, kk⟩ := h
  have cl := cl_Column T
  refine ⟨_, pss_cons (ps_if (pt_not (pt_val (pcall C1 hr (pa_cons (pv 1) pa_nil)))) (pss_one ps_never) pss_nil)
    (pss_cons (ps_if (pt_not (pt_val (pcall C2 hr (pa_cons (pv 2) pa_nil)))) (pss_one ps_never) pss_nil)
    (pss_cons (ps_if (pt_not (pt_val (pcall C3 hr (pa_cons (pv 3) (pa_cons (pv 2) pa_nil))))) (pss_one ps_never) pss_nil)
    (pss_cons (ps_if (PW.pt (pw_or (pt_not (pt_val (pcall C4 hr (pa_cons (pv 4) pa_nil)))) (pw_or1 (pt_cmpR op_lt (pv 4) pe_int (nomark _))))) (pss_one ps_never) pss_nil)
    (pss_cons (ps_fld (pv 0) (pv 1) rfl) (pss_cons (ps_fld (pv 0) (pv 2) rfl) (pss_cons (ps_fld (pv 0) (pv 3) rfl) (pss_one (ps_fld (pv 0) (pv 4) rfl)))))))), ?_⟩
  have td : ∃ t, ∀ H : Hp, TyX K H d (.type t) := by
    cases d with
    | non => exact ⟨_, fun _ => .base .non⟩
    | int i => exact ⟨_, fun _ => .base (.int i)⟩
    | _ => cases hd
  obtain ⟨t, td⟩ := td
  refine ⟨_, rfl, .str n, _, rfl, .base (.str n), fun m e => by cases e; exact nm_len hn, fun H1 s1 => ⟨_, rfl, ?_⟩⟩
  rw [hn]
  refine iteF ⟨_, rfl, .int g, _, rfl, .base (.int g), _, rfl, ?_⟩
  rw [hg]
  refine iteF ⟨_, rfl, _, rfl, d, g, _, rfl, td _, _, rfl, ?_⟩
  rw [hd]
  refine iteF ⟨_, rfl, .int k, _, rfl, .base (.int k), _, rfl, iteF ⟨_, rfl, _, _, rfl, rfl, _, rfl, ?_⟩⟩
  rw [decide_eq_false (show ¬ k < 0 by omega)]
  refine iteF ?_
  have hc1 := s1 _ _ hc
  refine ⟨_, rfl, _, rfl, c, _, dx, _, rfl, hc1, cl, na_Column_name T, (by show 0 < 1000; decide), ?_⟩
  refine ⟨_, rfl, _, rfl, c, _, dx, _, rfl, upd_same, cl, na_Column_greatest T, (by show 1 < 1000; decide), ?_⟩
  refine ⟨_, rfl, _, rfl, c, _, dx, _, rfl, upd_same, cl, na_Column_default T, (by rw [put2]; show 2 < 1000; decide), ?_⟩
  refine ⟨_, rfl, _, rfl, c, _, dx, _, rfl, upd_same, cl, na_Column_number T, (by rw [put3]; show 3 < 1000; decide), ?_⟩
  refine kk _ ⟨dx, ?_⟩ fun b o hb e => by rw [upd_ne hb, upd_ne hb, upd_ne hb, upd_ne hb]; exact s1 _ _ e
  rw [upd_same, colFs_eq]
/-- Column(name, greatest, default) -/
theorem binds_Col3 (T : Tx K mg) {fd : FuncData} (F : FunD K "__init__" "Column.__init__" (defArgs s_Column___init__) (defBody s_Column___init__) (defScope s_Column___init__) (d_Column___init__.dvs K) (d_Column___init__.kws K) (He.ma K (He.ga K "Column") "__init__") fd) :
    ∃ ds, Vals [V.int 0] ds ∧ Binds K fd ["self", "name", "greatest", "default", "number"] ds := by
  have h := F.binds (ps := ["self", "name", "greatest", "default", "number"]) 4 1 (by intro z; cases z) rfl (fun TT D doc pm an cdv ct us its ks h1 h2 h3 => ?_) (by intro z; cases z)
  · exact h
  · match us, h1, its, h2, ks, h3 with
    | [u0, u1, u2, u3], _, [i0], _, [k0], _ => exact ⟨_, rfl, _, _, _, _, _, _, rfl, rfl, rfl⟩
/-! Column.changed, where the part fits -/
def put (part : Str) (v : V) (n : V) (g : V) (d : V) (k : V) : List (Key × V) := putK ([(Sum.inr "name", n), (Sum.inr "greatest", g), (Sum.inr "default", d), (Sum.inr "number", k)] : List (Key × V)) (Sum.inr part) v
/-- what stands under the four names behind it -/
structure Four (part : Str) (v n g d k n' g' d' k' : V) : Prop where
  part_ : part = "name" ∨ part = "greatest" ∨ part = "default" ∨ part = "number"
  eq : (n', g', d', k') = (if part = "name" then (v, g, d, k) else if part = "greatest" then (n, v, d, k) else if part = "default" then (n, g, v, k) else (n, g, d, v))
theorem merge4 (x y z u : V) : mergeK [] [(Sum.inr "name", x), (Sum.inr "greatest", y), (Sum.inr "default", z), (Sum.inr "number", u)] = ([(Sum.inr "name", x), (Sum.inr "greatest", y), (Sum.inr "default", z), (Sum.inr "number", u)] : List (Key × V)) := by
  have h1 : ¬ ((Sum.inr "name" : Key) = (Sum.inr "greatest" : Key)) := by decide +kernel
  have h2 : ¬ ((Sum.inr "name" : Key) = (Sum.inr "default" : Key)) := by decide +kernel
  have h3 : ¬ ((Sum.inr "name" : Key) = (Sum.inr "number" : Key)) := by decide +kernel
  have h4 : ¬ ((Sum.inr "greatest" : Key) = (Sum.inr "default" : Key)) := by decide +kernel
  have h5 : ¬ ((Sum.inr "greatest" : Key) = (Sum.inr "number" : Key)) := by decide +kernel
  have h6 : ¬ ((Sum.inr "default" : Key) = (Sum.inr "number" : Key)) := by decide +kernel
  simp [mergeK, putK, h1, h2, h3, h4, h5, h6]
theorem put_get {part : Str} {v n g d k n' g' d' k' : V} (f : Four part v n g d k n' g' d' k') : valV (put part v n g d k) (Sum.inr "name") = some n' ∧ valV (put part v n g d k) (Sum.inr "greatest") = some g' ∧ valV (put part v n g d k) (Sum.inr "default") = some d' ∧ valV (put part v n g d k) (Sum.inr "number") = some k' := by
  have h1 : ¬ ((Sum.inr "name" : Key) = (Sum.inr "greatest" : Key)) := by decide +kernel
  have h2 : ¬ ((Sum.inr "name" : Key) = (Sum.inr "default" : Key)) := by decide +kernel
  have h3 : ¬ ((Sum.inr "name" : Key) = (Sum.inr "number" : Key)) := by decide +kernel
  have h4 : ¬ ((Sum.inr "greatest" : Key) = (Sum.inr "default" : Key)) := by decide +kernel
  have h5 : ¬ ((Sum.inr "greatest" : Key) = (Sum.inr "number" : Key)) := by decide +kernel
  have h6 : ¬ ((Sum.inr "default" : Key) = (Sum.inr "number" : Key)) := by decide +kernel
  have k1 : ¬ ((Sum.inr "greatest" : Key) = (Sum.inr "name" : Key)) := by decide +kernel
  have k2 : ¬ ((Sum.inr "default" : Key) = (Sum.inr "name" : Key)) := by decide +kernel
  have k3 : ¬ ((Sum.inr "number" : Key) = (Sum.inr "name" : Key)) := by decide +kernel
  have k4 : ¬ ((Sum.inr "default" : Key) = (Sum.inr "greatest" : Key)) := by decide +kernel
  have k5 : ¬ ((Sum.inr "number" : Key) = (Sum.inr "greatest" : Key)) := by decide +kernel
  have k6 : ¬ ((Sum.inr "number" : Key) = (Sum.inr "default" : Key)) := by decide +kernel
  have g1 : ¬ (("greatest" : Str) = "name") := by decide +kernel
  have g2 : ¬ (("default" : Str) = "name") := by decide +kernel
  have g3 : ¬ (("default" : Str) = "greatest") := by decide +kernel
  have g4 : ¬ (("number" : Str) = "name") := by decide +kernel
  have g5 : ¬ (("number" : Str) = "greatest") := by decide +kernel
  have g6 : ¬ (("number" : Str) = "default") := by decide +kernel
  have e := f.eq
  rcases f.part_ with rfl | rfl | rfl | rfl
  · rw [if_pos rfl] at e
    cases e
    simp [put, putK, valV, h1, h2, h3, h4, h5, h6, k1, k2, k3, k4, k5, k6]
  · rw [if_neg g1, if_pos rfl] at e
    cases e
    simp [put, putK, valV, h1, h2, h3, h4, h5, h6, k1, k2, k3, k4, k5, k6]
  · rw [if_neg g2, if_neg g3, if_pos rfl] at e
    cases e
    simp [put, putK, valV, h1, h2, h3, h4, h5, h6, k1, k2, k3, k4, k5, k6]
  · rw [if_neg g4, if_neg g5, if_neg g6] at e
    cases e
    simp [put, putK, valV, h1, h2, h3, h4, h5, h6, k1, k2, k3, k4, k5, k6]
/-- Column(name, greatest, default, number=..) -/
theorem kbinds_Col (T : Tx K mg) {fd : FuncData} (F : FunD K "__init__" "Column.__init__" (defArgs s_Column___init__) (defBody s_Column___init__) (defScope s_Column___init__) (d_Column___init__.dvs K) (d_Column___init__.kws K) (He.ma K (He.ga K "Column") "__init__") fd) :
    ∃ its mv : List Value, KBn K fd ["self", "name", "greatest", "default", "number"] 4 ["number"] (fun us ws => us ++ ws) (fun vs zs => vs ++ zs) := by
  have h := F.kbinds (ps := ["self", "name", "greatest", "default", "number"]) 4 ["number"] [] (fun us its mv ws => us ++ ws) (by intro z; cases z) (by intro z; cases z) (by intro q hq; cases hq) (fun r1 _ _ r4 => r1.append r4) (fun TT D doc pm an cdv ct us its mv ws h1 h2 h3 h4 => ?_)
  · exact h
  · match us, h1, its, h2, mv, h3, ws, h4 with
    | [u0, u1, u2, u3], _, [i0], _, [], _, [w0], _ => exact ⟨_, rfl, rfl⟩
def sp_changed (K : PySem.W.Frag) : Sp := fun vs H Q _ => ∃ (c : Addr) (part n n' : Str) (g k g' k' : Int) (d d' v : V), vs = [.ref c, .str part, v] ∧ ColAt K H c n g d k ∧ Four part v (.str n) (.int g) d (.int k) (.str n') (.int g') d' (.int k') ∧
  isNm (.str n') = true ∧ isGr (.int g') = true ∧ isIn g' d' = true ∧ 0 ≤ k' ∧ ∀ (a : Addr) (H' : Hp), H a = none → Same H H' → ColAt K H' a n' g' d' k' → Q (.ref a) H'
theorem ok_changed (T : Tx K mg) : ∃ fd, FnOk P w K mg base CX0 6 (He.ma K (He.ga K "Column") "changed") fd ["self", "part", "value"] (sp_changed K) ∧ Binds K fd ["self", "part", "value"] [] := by
  obtain ⟨fdI, GI, FI⟩ := ok_Col_init (P := P) (w := w) (base := base) T
  obtain ⟨_, _, kb⟩ := kbinds_Col T FI
  obtain ⟨fd, F⟩ := fd_Column_changed T
  have cl := cl_Column T
  refine ⟨fd, F.ok (CX := CX0) sc_Column_changed (fun vs H Q E h => ?_) (fun cdv A outer s H vs Q E hr h => ?_), F.bindsN fun _ _ _ _ _ _ us hl => match us, hl with | [_, _, _], _ => rfl⟩
  · obtain ⟨c, part, n, n', g, k, g', k', d, d', v, rfl, _⟩ := h
    rfl
  suffices hh : ∃ t, PSs (cxOf CX0 P w K mg base ["self", "part", "value", "parts"] "Column.changed" (defScope s_Column_changed) (He.ma K (He.ga K "Column") "changed") cdv A outer s H E).nox (defBody s_Column_changed) t ∧
      t { nx := fun _ H' => Q .non H', rt := Q } (start ["self", "part", "value", "parts"] vs) H by
    obtain ⟨t, h1, h2⟩ := hh
    exact ⟨t, h1.nox, h2⟩
  obtain ⟨c, part, n, n', g, k, g', k', d, d', v, rfl, ⟨dx, hc⟩, f4, hn, hg, hd, hk, kk⟩ := h
  have nd := sc_Column_changed.nd
  have hu := hu_of hr
  have CW := (ok_is_word (P := P) (w := w) (base := base) T).up (show 1 ≤ 5 by decide)
  refine ⟨_, pss_cons (ps_if (pt_not (pt_val (pcall CW hr (pa_cons (pv 1) (pa_cons (pe_glob (v := .ref (He.ga K "PARTS")) (by rfl) (mg_PARTS T) rfl) pa_nil))))) (pss_one ps_never) pss_nil)
    (pss_cons (ps_set (i := 3) nd rfl (Or.inl rfl) (pe_disp (pps_cons pe_str (pe_fld (pv 0) rfl) (pps_cons pe_str (pe_fld (pv 0) rfl) (pps_cons pe_str (pe_fld (pv 0) rfl) (pps_cons pe_str (pe_fld (pv 0) rfl) pps_nil)))) (by rfl) (by rfl) (fun z => by cases z) (by decide)))
    (pss_cons (ps_dput hu (pv 3) (pv 1) (pv 2) rfl)
    (pss_one (ps_ret (pe_makeK (mk_Column T) GI hr (by rfl) (mg_Column T) kb pass0 (pa_cons (pe_dget hu (pv 3) pe_str (fun _ _ => rfl)) (pa_cons (pe_dget hu (pv 3) pe_str (fun _ _ => rfl)) (pa_cons (pe_dget hu (pv 3) pe_str (fun _ _ => rfl)) pa_nil)))
      (pk_cons (pe_dget hu (pv 3) pe_str (fun _ _ => rfl)) pk_nil)))))), ?_⟩
  have hP : SqT K H (He.ga K "PARTS") [.str "name", .str "greatest", .str "default", .str "number"] := He.tupB_ok (ex_PARTS T) H
  have hin : wordV (.str part) [.str "name", .str "greatest", .str "default", .str "number"] = true := by
    rcases f4.part_ with rfl | rfl | rfl | rfl <;> decide +kernel
  refine ⟨_, rfl, .str part, _, _, _, rfl, .base (.str part), hP, rfl, _, rfl, ?_⟩
  rw [hin]
  refine iteF (nxt ?_)
  refine fun p np => ?_
  have hc1 : ∀ o, upd H p o c = some (.ins (He.ga K "Column") dx (colFs n g d k)) := fun o => same_new np _ _ hc
  refine ⟨_, rfl, c, _, dx, _, _, rfl, hc1 _, cl, na_Column_name T, colFs_name, _, rfl, c, _, dx, _, _, rfl, hc1 _, cl, na_Column_greatest T, colFs_greatest, _, rfl, c, _, dx, _, _, rfl, hc1 _, cl, na_Column_default T, colFs_default,
    _, rfl, c, _, dx, _, _, rfl, hc1 _, cl, na_Column_number T, colFs_number, upd_same, [(Sum.inr "name", .str n), (Sum.inr "greatest", .int g), (Sum.inr "default", d), (Sum.inr "number", .int k)], rfl, (by show 4 ≤ 15; decide), ?_⟩
  rw [upd_upd, merge4]
  refine ⟨_, rfl, _, rfl, _, rfl, p, _, rfl, DPut.k (k := Sum.inr part) upd_same (by show 4 < sizeLine; decide), ?_⟩
  rw [upd_upd]
  obtain ⟨q1, q2, q3, q4⟩ := put_get f4
  have hp : upd H p (.dK (put part v (.str n) (.int g) d (.int k))) p = some (.dK (put part v (.str n) (.int g) d (.int k))) := upd_same
  have s1 : Same H (upd H p (.dK (put part v (.str n) (.int g) d (.int k)))) := same_new np
  have g1 : DGet (upd H p (.dK (put part v (.str n) (.int g) d (.int k)))) p (.str "name") (some (.str n')) := by
    rw [← q1]
    exact DGet.k (k := Sum.inr "name") hp
  have g2 : DGet (upd H p (.dK (put part v (.str n) (.int g) d (.int k)))) p (.str "greatest") (some (.int g')) := by
    rw [← q2]
    exact DGet.k (k := Sum.inr "greatest") hp
  have g3 : DGet (upd H p (.dK (put part v (.str n) (.int g) d (.int k)))) p (.str "default") (some d') := by
    rw [← q3]
    exact DGet.k (k := Sum.inr "default") hp
  have g4 : DGet (upd H p (.dK (put part v (.str n) (.int g) d (.int k)))) p (.str "number") (some (.int k')) := by
    rw [← q4]
    exact DGet.k (k := Sum.inr "number") hp
  refine ⟨_, rfl, p, _, rfl, g1, _, rfl, p, _, rfl, g2, _, rfl, p, _, rfl, g3, _, rfl, p, _, rfl, g4, rfl, rfl, fun x dx2 nx ndx ndc => ?_⟩
  refine ⟨x, dx2, n', g', k', d', rfl, upd_same, hn, hg, hd, hk, fun H4 hc4 k4 => ⟨rfl, ?_⟩⟩
  exact kk x H4 (s1.free nx) (fun b o e => k4 b o (ne_of_none (s1 _ _ e) nx) (by rw [upd_ne (ne_of_none (s1 _ _ e) nx), upd_ne (ne_of_none (s1 _ _ e) ndx)]; exact s1 _ _ e)) hc4
/-! column_named; the columns of a list, as data -/
structure Col where
  name : Str
  top : Int
  dflt : V
  num : Int
/-- the columns at the addresses as -/
inductive Cols (K : PySem.W.Frag) (H : Hp) : List Addr → List Col → Prop
  | nil : Cols K H [] []
  | cons {a : Addr} {as : List Addr} {c : Col} {cs : List Col} : ColAt K H a c.name c.top c.dflt c.num → Cols K H as cs → Cols K H (a :: as) (c :: cs)
theorem ColAt.keep {K : PySem.W.Frag} {H H' : Hp} {a : Addr} {n : Str} {g k : Int} {d : V} (s : Same H H') (h : ColAt K H a n g d k) : ColAt K H' a n g d k := h.imp fun _ e => s _ _ e
theorem Cols.keep {K : PySem.W.Frag} {H H' : Hp} (s : Same H H') : ∀ {as : List Addr} {cs : List Col}, Cols K H as cs → Cols K H' as cs
  | _, _, .nil => .nil
  | _, _, .cons h t => .cons (h.keep s) (t.keep s)
theorem Cols.len {K : PySem.W.Frag} {H : Hp} : ∀ {as : List Addr} {cs : List Col}, Cols K H as cs → as.length = cs.length
  | _, _, .nil => rfl
  | _, _, .cons _ t => congrArg Nat.succ t.len
theorem Cols.at_ {K : PySem.W.Frag} {H : Hp} : ∀ {as : List Addr} {cs : List Col} {i : Nat} {a : Addr}, Cols K H as cs → as[i]? = some a → ∃ c, cs[i]? = some c ∧ ColAt K H a c.name c.top c.dflt c.num
  | _, _, _, _, .nil, e => by simp at e
  | _, _, 0, _, .cons h t, e => by
    simp at e
    subst e
    exact ⟨_, rfl, h⟩
  | _, _, i + 1, a, .cons h t, e => by
    obtain ⟨c, h1, h2⟩ := Cols.at_ (i := i) (a := a) t (by simpa using e)
    exact ⟨c, by simpa using h1, h2⟩
def isN (n : Str) (c : Col) : Bool := decide (c.name = n)
/-- what column_named gives: None, or the first of its name -/
def Named (as : List Addr) (cs : List Col) (n : Str) (v : V) : Prop := (v = .non ∧ cs.find? (isN n) = none) ∨ ∃ (i : Nat) (a : Addr) (c : Col), v = .ref a ∧ as[i]? = some a ∧ cs[i]? = some c ∧ cs.find? (isN n) = some c
def sp_column_named (K : PySem.W.Frag) : Sp := fun vs H Q _ => ∃ (l : Addr) (as : List Addr) (cs : List Col) (n : Str), vs = [.ref l, .str n] ∧ (SqL K H l (as.map V.ref) ∨ SqT K H l (as.map V.ref)) ∧ Cols K H as cs ∧ ∀ v, Named as cs n v → Q v H
theorem find_pre {cs : List Col} {i : Nat} {c : Col} {n : Str} (h : cs[i]? = some c) (hp : (cs.take i).find? (isN n) = none) : (cs.take (i + 1)).find? (isN n) = if isN n c = true then some c else none := by
  rw [List.take_add_one, h, List.find?_append, hp]
  show (Option.none).or _ = _
  rw [Option.none_or]
  show (match isN n c with | true => some c | false => none) = _
  cases isN n c <;> rfl
theorem find_take {cs : List Col} {i : Nat} {c : Col} {n : Str} (h : cs[i]? = some c) (hp : (cs.take i).find? (isN n) = none) (hc : isN n c = true) : cs.find? (isN n) = some c := by
  have e : cs = cs.take (i + 1) ++ cs.drop (i + 1) := (List.take_append_drop _ _).symm
  rw [e, List.find?_append, find_pre h hp, if_pos hc]
  rfl
theorem ok_column_named (T : Tx K mg) : Callee P w K mg base CX0 1 "column_named" ["columns", "name"] [] (sp_column_named K) := by
  refine mkCallee (fd_column_named T) (mg_column_named T) sc_column_named (fun _ _ _ _ _ _ us hl => match us, hl with | [_, _], _ => rfl) (fun vs H Q E h => ?_) (fun cdv A outer s H vs Q E hr h => ?_)
  · obtain ⟨l, as, cs, n, rfl, _⟩ := h
    rfl
  · obtain ⟨l, as, cs, n, rfl, hl, hc, k⟩ := h
    have nd := sc_column_named.nd
    have turn : ∀ (i : Nat) (x : V) (y : Option V), (as.map V.ref)[i]? = some x → (cs.take i).find? (isN n) = none → ∃ (a : Addr) (c : Col) (dx : Addr), x = .ref a ∧ as[i]? = some a ∧ cs[i]? = some c ∧ H a = some (.ins (He.ga K "Column") dx (colFs c.name c.top c.dflt c.num)) := fun i x y hx hp => by
      rw [List.getElem?_map] at hx
      cases ha : as[i]? with
      | none =>
        rw [ha] at hx
        cases hx
      | some a =>
        rw [ha] at hx
        obtain ⟨c, h1, dx, h2⟩ := hc.at_ ha
        exact ⟨a, c, dx, (Option.some.inj hx).symm, rfl, h1, h2⟩
    have fin : (cs.take as.length).find? (isN n) = none → Q .non H := fun h => by
      rw [hc.len, List.take_length] at h
      exact k _ (.inl ⟨rfl, h⟩)
    rcases hl with hl | hl
    · refine ⟨_, pss_cons (ps_if (pt_not (pt_val (pe_callB call_isi (by rfl) (fr_isinstance T) (by decide +kernel) (pa_cons (pv 1) (pa_cons (pe_bltn (v := .ty "str") (by rfl) (fr_str T) (by decide +kernel) rfl) pa_nil))))) (pss_one (ps_ret pe_non)) pss_nil)
        (pss_cons (ps_for PassesOwn.never rfl (pi_list (pv 0)) (pg_name (i := 2) nd rfl (Or.inl rfl)) (pss_one (ps_if (pt_cmpR op_eq (pe_fld (pv 2) rfl) (pv 1) (nomark _)) (pss_one (ps_ret (pv 2))) pss_nil))) (pss_one (ps_ret pe_non))), ?_⟩
      refine ⟨_, rfl, .str n, .ty "str", _, _, true, rfl, .ty "str", .base (.str n), kit_ty (by decide +kernel), _, rfl, iteF ⟨_, rfl, l, rfl, ⟨_, hl⟩, ?_⟩⟩
      refine for_list (xs := as.map V.ref) (fun i σ H' => H' = H ∧ (cs.take i).find? (isN n) = none ∧ ∃ y, σ = [some (.ref l), some (.str n), y]) ⟨rfl, rfl, _, rfl⟩ (fun i σ H' _ h => by rw [h.1]; exact hl) ?_ ?_
      · rintro i x σ H' hx ⟨rfl, hp, y, rfl⟩
        obtain ⟨a, c, dx, rfl, ha, hci, hat⟩ := turn i x y hx hp
        refine ⟨_, rfl, a, _, dx, _, _, rfl, hat, cl_Column T, na_Column_name T, colFs_name, _, rfl, rfl, _, rfl, ?_⟩
        by_cases e : c.name = n
        · rw [decide_eq_true (show V.str c.name = V.str n by rw [e])]
          exact iteT ⟨_, rfl, k _ (.inr ⟨i, a, c, rfl, ha, hci, find_take hci hp (decide_eq_true e)⟩)⟩
        · rw [decide_eq_false (fun z => e (V.str.inj z))]
          exact iteF ⟨rfl, by rw [find_pre hci hp, if_neg (by rw [show isN n c = false from decide_eq_false e]; decide)], _, rfl⟩
      · rintro σ H' ⟨rfl, hp, y, rfl⟩
        rw [List.length_map] at hp
        exact fin hp
    · refine ⟨_, pss_cons (ps_if (pt_not (pt_val (pe_callB call_isi (by rfl) (fr_isinstance T) (by decide +kernel) (pa_cons (pv 1) (pa_cons (pe_bltn (v := .ty "str") (by rfl) (fr_str T) (by decide +kernel) rfl) pa_nil))))) (pss_one (ps_ret pe_non)) pss_nil)
        (pss_cons (ps_for PassesOwn.never rfl (pi_tup (pv 0)) (pg_name (i := 2) nd rfl (Or.inl rfl)) (pss_one (ps_if (pt_cmpR op_eq (pe_fld (pv 2) rfl) (pv 1) (nomark _)) (pss_one (ps_ret (pv 2))) pss_nil))) (pss_one (ps_ret pe_non))), ?_⟩
      refine ⟨_, rfl, .str n, .ty "str", _, _, true, rfl, .ty "str", .base (.str n), kit_ty (by decide +kernel), _, rfl, iteF ⟨_, rfl, l, rfl, ⟨_, hl⟩, ?_⟩⟩
      refine for_tup (xs := as.map V.ref) (fun i σ H' => H' = H ∧ (cs.take i).find? (isN n) = none ∧ ∃ y, σ = [some (.ref l), some (.str n), y]) ⟨rfl, rfl, _, rfl⟩ (fun i σ H' _ h => by rw [h.1]; exact hl) ?_ ?_
      · rintro i x σ H' hx ⟨rfl, hp, y, rfl⟩
        obtain ⟨a, c, dx, rfl, ha, hci, hat⟩ := turn i x y hx hp
        refine ⟨_, rfl, a, _, dx, _, _, rfl, hat, cl_Column T, na_Column_name T, colFs_name, _, rfl, rfl, _, rfl, ?_⟩
        by_cases e : c.name = n
        · rw [decide_eq_true (show V.str c.name = V.str n by rw [e])]
          exact iteT ⟨_, rfl, k _ (.inr ⟨i, a, c, rfl, ha, hci, find_take hci hp (decide_eq_true e)⟩)⟩
        · rw [decide_eq_false (fun z => e (V.str.inj z))]
          exact iteF ⟨rfl, by rw [find_pre hci hp, if_neg (by rw [show isN n c = false from decide_eq_false e]; decide)], _, rfl⟩
      · rintro σ H' ⟨rfl, hp, y, rfl⟩
        rw [List.length_map] at hp
        exact fin hp
/-! the changes as data -/
inductive Ch where
  | add (n : Str) (g : Int) (d : V)
  | drop (n : Str)
  | rename (n m : Str)
  | dflt (n : Str) (v : V)
  | great (n : Str) (g : Int) (way : Str)
  | fill (n : Str) (i : Int)
def Ch.toV : Ch → List V
  | .add n g d => [.str "add", .str n, .int g, d]
  | .drop n => [.str "drop", .str n]
  | .rename n m => [.str "rename", .str n, .str m]
  | .dflt n v => [.str "default", .str n, v]
  | .great n g way => [.str "greatest", .str n, .int g, .str way]
  | .fill n i => [.str "fill", .str n, .int i]
def isWy (z : Str) : Bool := decide (z = "cut") || (decide (z = "none") || decide (z = "refuse"))
/-- a change by its form -/
def Ch.fits : Ch → Bool
  | .add n g d => isNm (.str n) && (isGr (.int g) && isVal d)
  | .drop n => isNm (.str n)
  | .rename n m => isNm (.str n) && isNm (.str m)
  | .dflt n v => isNm (.str n) && isVal v
  | .great n g way => isNm (.str n) && (isGr (.int g) && isWy way)
  | .fill n i => isNm (.str n) && decide (0 ≤ i)
def Ch.name : Ch → Str
  | .add n _ _ => n
  | .drop n => n
  | .rename n _ => n
  | .dflt n _ => n
  | .great n _ _ => n
  | .fill n _ => n
def Ch.kind : Ch → Str
  | .add _ _ _ => "add"
  | .drop _ => "drop"
  | .rename _ _ => "rename"
  | .dflt _ _ => "default"
  | .great _ _ _ => "greatest"
  | .fill _ _ => "fill"
theorem Ch.at0 (c : Ch) : atI c.toV 0 = some (.str c.kind) := by cases c <;> rfl
theorem Ch.at1 (c : Ch) : atI c.toV 1 = some (.str c.name) := by cases c <;> rfl
/-! is_way -/
def sp_is_way : Sp := fun vs H Q _ => ∃ z : Str, vs = [.str z] ∧ isWy z = true ∧ Q (.bl true) H
theorem ok_is_way (T : Tx K mg) : Callee P w K mg base CX0 2 "is_way" ["value"] [] sp_is_way := by
  have C1 := ok_is_word (P := P) (w := w) (base := base) T
  refine mkCallee (fd_is_way T) (mg_is_way T) sc_is_way (fun _ _ _ _ _ _ us hl => match us, hl with | [_], _ => rfl) (fun vs H Q E h => ?_) (fun cdv A outer s H vs Q E hr h => ?_)
  · obtain ⟨z, rfl, _⟩ := h
    rfl
  · obtain ⟨z, rfl, hz, k⟩ := h
    refine ⟨_, pss_one (ps_ret (pcall C1 hr (pa_cons (pv 0) (pa_cons (pe_glob (v := .ref (He.ga K "WAYS")) (by rfl) (mg_WAYS T) rfl) pa_nil)))), ?_⟩
    have hw : SqT K H (He.ga K "WAYS") [.str "cut", .str "none", .str "refuse"] := He.tupB_ok (ex_WAYS T) H
    refine ⟨_, rfl, .str z, _, _, _, rfl, .base (.str z), hw, rfl, ?_⟩
    have e : wordV (.str z) [.str "cut", .str "none", .str "refuse"] = true := by
      have h' : (decide (z = "cut") || (decide (z = "none") || decide (z = "refuse"))) = true := hz
      show (("cut" : Str) == z || (("none" : Str) == z || (("refuse" : Str) == z || false))) = true
      rw [Bool.or_eq_true, Bool.or_eq_true, decide_eq_true_iff, decide_eq_true_iff, decide_eq_true_iff] at h'
      rcases h' with rfl | rfl | rfl <;> simp
    rw [e]
    exact k
/-! is_single_part, at what fits -/
def sp_is_single_part : Sp := fun vs H Q _ => ∃ (kd : Str) (x : V), vs = [.str kd, x] ∧ ((kd = "rename" ∧ isNm x = true) ∨ (kd = "default" ∧ isVal x = true) ∨ (kd = "fill" ∧ ∃ i, x = .int i ∧ 0 ≤ i)) ∧ ∀ H', Same H H' → Q (.bl true) H'
theorem ok_is_single_part (T : Tx K mg) : Callee P w K mg base CX0 3 "is_single_part" ["kind", "part"] [] sp_is_single_part := by
  have C1 := (ok_is_name (P := P) (w := w) (base := base) T).up (show 1 ≤ 2 by decide)
  have C2 := ok_is_value (P := P) (w := w) (base := base) T
  have C3 := (ok_is_whole (P := P) (w := w) (base := base) T).up (show 1 ≤ 2 by decide)
  refine mkCallee (fd_is_single_part T) (mg_is_single_part T) sc_is_single_part (fun _ _ _ _ _ _ us hl => match us, hl with | [_, _], _ => rfl) (fun vs H Q E h => ?_) (fun cdv A outer s H vs Q E hr h => ?_)
  · obtain ⟨kd, x, rfl, _⟩ := h
    rfl
  · obtain ⟨kd, x, rfl, hx, k⟩ := h
    refine ⟨_, pss_cons (ps_if (pt_cmpR op_eq (pv 0) pe_str (nomark _)) (pss_one (ps_ret (pcall C1 hr (pa_cons (pv 1) pa_nil)))) pss_nil)
      (pss_cons (ps_if (pt_cmpR op_eq (pv 0) pe_str (nomark _)) (pss_one (ps_ret (pcall C2 hr (pa_cons (pv 1) pa_nil)))) pss_nil)
      (pss_one (ps_ret (pe_and (pcall C3 hr (pa_cons (pv 1) pa_nil)) (pe_one (pe_cmpR op_ge (pv 1) pe_int (nomark _))))))), ?_⟩
    refine ⟨_, rfl, rfl, _, rfl, ?_⟩
    rcases hx with ⟨rfl, hx⟩ | ⟨rfl, hx⟩ | ⟨rfl, i, rfl, hi⟩
    · rw [decide_eq_true rfl]
      cases x with
      | str z => exact iteT ⟨_, rfl, .str z, _, rfl, .base (.str z), fun m e => by cases e; exact nm_len hx, fun H' s' => by rw [hx]; exact k H' s'⟩
      | _ => cases hx
    · rw [decide_eq_false (by decide +kernel)]
      refine iteF ⟨_, rfl, rfl, _, rfl, ?_⟩
      rw [decide_eq_true rfl]
      cases x with
      | non => exact iteT ⟨_, rfl, .non, _, rfl, .base .non, k H (Same.refl _)⟩
      | int i => exact iteT ⟨_, rfl, .int i, _, rfl, .base (.int i), by rw [hx]; exact k H (Same.refl _)⟩
      | _ => cases hx
    · rw [decide_eq_false (by decide +kernel)]
      refine iteF ⟨_, rfl, rfl, _, rfl, ?_⟩
      rw [decide_eq_false (by decide +kernel)]
      refine iteF ⟨_, rfl, .int i, _, rfl, .base (.int i), _, rfl, iteT ⟨_, rfl, _, _, rfl, rfl, ?_⟩⟩
      show Q (.bl (decide (0 ≤ i))) H
      rw [decide_eq_true hi]
      exact k H (Same.refl _)
/-! has_parts, at what fits: the parts behind the first name -/
def sp_has_parts (K : PySem.W.Frag) : Sp := fun vs H Q _ => ∃ (t : Addr) (c : Ch), vs = [.str c.kind, .ref t] ∧ SqT K H t (c.toV.drop 2) ∧ c.fits = true ∧ ∀ H', Same H H' → Q (.bl true) H'
theorem ok_has_parts (T : Tx K mg) : Callee P w K mg base CX0 4 "has_parts" ["kind", "parts"] [] (sp_has_parts K) := by
  have C1 := ok_is_single_part (P := P) (w := w) (base := base) T
  have C2 := (ok_is_greatest (P := P) (w := w) (base := base) T).up (show 2 ≤ 3 by decide)
  have C3 := (ok_is_value (P := P) (w := w) (base := base) T).up (show 2 ≤ 3 by decide)
  have C4 := (ok_is_way (P := P) (w := w) (base := base) T).up (show 2 ≤ 3 by decide)
  refine mkCallee (fd_has_parts T) (mg_has_parts T) sc_has_parts (fun _ _ _ _ _ _ us hl => match us, hl with | [_, _], _ => rfl) (fun vs H Q E h => ?_) (fun cdv A outer s H vs Q E hr h => ?_)
  · obtain ⟨t, c, rfl, _⟩ := h
    rfl
  · obtain ⟨t, c, rfl, ht, hf, k⟩ := h
    have gl : mg "len" = none := fr_len T
    refine ⟨_, pss_cons (ps_if (pt_cmpR op_eq (pv 0) pe_str (nomark _)) (pss_one (ps_ret (pe_cmpR op_eq (pe_callB call_len (by rfl) gl PySem.boot_len (pa_cons (pv 1) pa_nil)) pe_int (nomark _)))) pss_nil)
      (pss_cons (ps_if (pt_cmpR op_in_seq (pv 0) (pe_tup (pa_cons pe_str (pa_cons pe_str (pa_cons pe_str pa_nil)))) (by rfl)) (pss_one (ps_ret (pe_and (pe_cmpR op_eq (pe_callB call_len (by rfl) gl PySem.boot_len (pa_cons (pv 1) pa_nil)) pe_int (nomark _))
          (pe_one (pcall C1 hr (pa_cons (pv 0) (pa_cons (pe_ix ix_tup (pv 1) pe_int (fun _ _ => rfl)) pa_nil))))))) pss_nil)
      (pss_cons (ps_if (pt_cmpR op_eq (pv 0) pe_str (nomark _)) (pss_one (ps_ret (pe_and (pe_cmpR op_eq (pe_callB call_len (by rfl) gl PySem.boot_len (pa_cons (pv 1) pa_nil)) pe_int (nomark _))
          (pe_and (pcall C2 hr (pa_cons (pe_ix ix_tup (pv 1) pe_int (fun _ _ => rfl)) pa_nil)) (pe_one (pcall C3 hr (pa_cons (pe_ix ix_tup (pv 1) pe_int (fun _ _ => rfl)) pa_nil))))))) pss_nil)
      (pss_cons (ps_if (pt_cmpR op_eq (pv 0) pe_str (nomark _)) (pss_one (ps_ret (pe_and (pe_cmpR op_eq (pe_callB call_len (by rfl) gl PySem.boot_len (pa_cons (pv 1) pa_nil)) pe_int (nomark _))
          (pe_and (pcall C2 hr (pa_cons (pe_ix ix_tup (pv 1) pe_int (fun _ _ => rfl)) pa_nil)) (pe_one (pcall C4 hr (pa_cons (pe_ix ix_tup (pv 1) pe_int (fun _ _ => rfl)) pa_nil))))))) pss_nil)
      (pss_one (ps_ret pe_bl))))), ?_⟩
    cases c with
    | drop n =>
      refine ⟨_, rfl, rfl, _, rfl, iteT ⟨_, rfl, _, 0, rfl, .inr ⟨_, ht, rfl⟩, rfl, ?_⟩⟩
      exact k H (Same.refl _)
    | rename n m =>
      have hf' : (isNm (.str n) && isNm (.str m)) = true := hf
      rw [Bool.and_eq_true] at hf'
      refine ⟨_, rfl, rfl, _, rfl, ?_⟩
      refine iteD (nes (show ("rename" : Str) ≠ "drop" by decide +kernel)) ⟨_, rfl, (by show 3 ≤ sizeLine; decide), fun t2 nt2 => ⟨t2, _, rfl, .inr (sqT_of upd_same), rfl, rfl, _, rfl, iteT ?_⟩⟩
      have s2 := same_new (o := .tup [V.str "rename", .str "default", .str "fill"]) nt2
      refine ⟨_, rfl, _, 1, rfl, .inr ⟨_, same_tup s2 ht, rfl⟩, rfl, _, rfl, iteT ⟨_, rfl, _, rfl, t, _, 0, _, rfl, rfl, same_tup s2 ht, rfl, _, _, rfl, .inl ⟨rfl, hf'.2⟩, fun H' s' => k H' (s2.trans s')⟩⟩
    | dflt n v =>
      have hf' : (isNm (.str n) && isVal v) = true := hf
      rw [Bool.and_eq_true] at hf'
      refine ⟨_, rfl, rfl, _, rfl, ?_⟩
      refine iteD (nes (show ("default" : Str) ≠ "drop" by decide +kernel)) ⟨_, rfl, (by show 3 ≤ sizeLine; decide), fun t2 nt2 => ⟨t2, _, rfl, .inr (sqT_of upd_same), rfl, rfl, _, rfl, iteT ?_⟩⟩
      have s2 := same_new (o := .tup [V.str "rename", .str "default", .str "fill"]) nt2
      refine ⟨_, rfl, _, 1, rfl, .inr ⟨_, same_tup s2 ht, rfl⟩, rfl, _, rfl, iteT ⟨_, rfl, _, rfl, t, _, 0, _, rfl, rfl, same_tup s2 ht, rfl, _, _, rfl, .inr (.inl ⟨rfl, hf'.2⟩), fun H' s' => k H' (s2.trans s')⟩⟩
    | fill n i =>
      have hf' : (isNm (.str n) && decide (0 ≤ i)) = true := hf
      rw [Bool.and_eq_true] at hf'
      refine ⟨_, rfl, rfl, _, rfl, ?_⟩
      refine iteD (nes (show ("fill" : Str) ≠ "drop" by decide +kernel)) ⟨_, rfl, (by show 3 ≤ sizeLine; decide), fun t2 nt2 => ⟨t2, _, rfl, .inr (sqT_of upd_same), rfl, rfl, _, rfl, iteT ?_⟩⟩
      have s2 := same_new (o := .tup [V.str "rename", .str "default", .str "fill"]) nt2
      refine ⟨_, rfl, _, 1, rfl, .inr ⟨_, same_tup s2 ht, rfl⟩, rfl, _, rfl, iteT ⟨_, rfl, _, rfl, t, _, 0, _, rfl, rfl, same_tup s2 ht, rfl, _, _, rfl, .inr (.inr ⟨rfl, i, rfl, of_decide_eq_true hf'.2⟩), fun H' s' => k H' (s2.trans s')⟩⟩
    | add n g d =>
      have hf' : (isNm (.str n) && (isGr (.int g) && isVal d)) = true := hf
      rw [Bool.and_eq_true, Bool.and_eq_true] at hf'
      refine ⟨_, rfl, rfl, _, rfl, ?_⟩
      refine iteD (nes (show ("add" : Str) ≠ "drop" by decide +kernel)) ⟨_, rfl, (by show 3 ≤ sizeLine; decide), fun t2 nt2 => ⟨t2, _, rfl, .inr (sqT_of upd_same), rfl, rfl, _, rfl, iteF ?_⟩⟩
      have s2 := same_new (o := .tup [V.str "rename", .str "default", .str "fill"]) nt2
      refine ⟨_, rfl, rfl, _, rfl, iteT ⟨_, rfl, _, 2, rfl, .inr ⟨_, same_tup s2 ht, rfl⟩, rfl, _, rfl, iteT ⟨_, rfl, t, _, 0, _, rfl, rfl, same_tup s2 ht, rfl, .int g, _, rfl, .base (.int g), _, rfl, ?_⟩⟩⟩
      rw [hf'.2.1]
      have td : ∃ ty, TyX K (upd H t2 (.tup [V.str "rename", .str "default", .str "fill"])) d (.type ty) := by
        cases d with
        | non => exact ⟨_, .base .non⟩
        | int i => exact ⟨_, .base (.int i)⟩
        | _ => cases hf'.2.2
      obtain ⟨ty, td⟩ := td
      refine iteT ⟨_, rfl, t, _, 1, _, rfl, rfl, same_tup s2 ht, rfl, d, ty, rfl, td, ?_⟩
      rw [hf'.2.2]
      exact k _ s2
    | great n g way =>
      have hf' : (isNm (.str n) && (isGr (.int g) && isWy way)) = true := hf
      rw [Bool.and_eq_true, Bool.and_eq_true] at hf'
      refine ⟨_, rfl, rfl, _, rfl, ?_⟩
      refine iteD (nes (show ("greatest" : Str) ≠ "drop" by decide +kernel)) ⟨_, rfl, (by show 3 ≤ sizeLine; decide), fun t2 nt2 => ⟨t2, _, rfl, .inr (sqT_of upd_same), rfl, rfl, _, rfl, iteF ?_⟩⟩
      have s2 := same_new (o := .tup [V.str "rename", .str "default", .str "fill"]) nt2
      refine ⟨_, rfl, rfl, _, rfl, ?_⟩
      refine iteD (nes (show ("greatest" : Str) ≠ "add" by decide +kernel)) ⟨_, rfl, rfl, _, rfl, iteT ⟨_, rfl, _, 2, rfl, .inr ⟨_, same_tup s2 ht, rfl⟩, rfl, _, rfl, iteT ⟨_, rfl, t, _, 0, _, rfl, rfl, same_tup s2 ht, rfl, .int g, _, rfl, .base (.int g), _, rfl, ?_⟩⟩⟩
      rw [hf'.2.1]
      exact iteT ⟨_, rfl, t, _, 1, _, rfl, rfl, same_tup s2 ht, rfl, way, rfl, hf'.2.2, k _ s2⟩
/-! is_change, at what fits -/
/-- a change stands at t -/
def ChAt (K : PySem.W.Frag) (H : Hp) (t : Addr) (c : Ch) : Prop := SqT K H t c.toV
theorem ChAt.keep {K : PySem.W.Frag} {H H' : Hp} {t : Addr} {c : Ch} (s : Same H H') (h : ChAt K H t c) : ChAt K H' t c := same_tup s h
theorem Ch.nm {c : Ch} (h : c.fits = true) : isNm (.str c.name) = true := by
  cases c <;> first | exact h | exact (Bool.and_eq_true_iff.mp h).1
theorem Ch.len (c : Ch) : 2 ≤ c.toV.length := by cases c <;> simp [Ch.toV]
theorem sqT_tup {K : PySem.W.Frag} {H : Hp} {a : Addr} {xs : List V} (h : SqT K H a xs) : TyX K H (.ref a) (.type "tuple") := by
  rcases h with (h | ⟨o, h⟩) | ⟨o, its, n, h, hc, _⟩
  · exact .base (.tup h)
  · exact .fTuple h
  · exact .kTuple h hc
def sp_is_change (K : PySem.W.Frag) : Sp := fun vs H Q _ => ∃ (t : Addr) (c : Ch), vs = [.ref t] ∧ ChAt K H t c ∧ c.fits = true ∧ ∀ H', Same H H' → Q (.bl true) H'
theorem six2 {n : Nat} (h : 2 ≤ n) : HT.sIx n 0 (some 2) = 2 := by
  have e := HT.sIx_nat n 0 2
  have e2 : ((2 : Nat) : Int) = 2 := rfl
  rw [e2] at e
  rw [e]
  omega
theorem cut2 (c : Ch) : cutV c.toV (some 2) none = c.toV.drop 2 := by
  have h := c.len
  unfold cutV
  rw [six2 h, HT.sIx_none]
  exact List.take_of_length_le (by rw [List.length_drop]; exact Nat.le_refl _)
theorem ok_is_change (T : Tx K mg) : Callee P w K mg base CX0 5 "is_change" ["value"] [] (sp_is_change K) := by
  have C1 := (ok_is_name (P := P) (w := w) (base := base) T).up (show 1 ≤ 4 by decide)
  have C2 := ok_has_parts (P := P) (w := w) (base := base) T
  refine mkCallee (fd_is_change T) (mg_is_change T) sc_is_change (fun _ _ _ _ _ _ us hl => match us, hl with | [_], _ => rfl) (fun vs H Q E h => ?_) (fun cdv A outer s H vs Q E hr h => ?_)
  · obtain ⟨t, c, rfl, _⟩ := h
    rfl
  · obtain ⟨t, c, rfl, ht, hf, k⟩ := h
    refine ⟨_, pss_cons (ps_if (PW.pt (pw_or (pt_not (pt_val (pe_callB call_isi (by rfl) (fr_isinstance T) (by decide +kernel) (pa_cons (pv 0) (pa_cons (pe_bltn (v := .ty "tuple") (by rfl) (fr_tuple T) (by decide +kernel) rfl) pa_nil)))))
        (pw_or1 (pt_cmpR op_lt (pe_callB call_len (by rfl) (fr_len T) PySem.boot_len (pa_cons (pv 0) pa_nil)) pe_int (nomark _))))) (pss_one (ps_ret pe_bl)) pss_nil)
      (pss_one (ps_ret (pe_and (pe_callB call_isi (by rfl) (fr_isinstance T) (by decide +kernel) (pa_cons (pe_ix ix_tup (pv 0) pe_int (fun _ _ => rfl)) (pa_cons (pe_bltn (v := .ty "str") (by rfl) (fr_str T) (by decide +kernel) rfl) pa_nil)))
        (pe_and (pcall C1 hr (pa_cons (pe_ix ix_tup (pv 0) pe_int (fun _ _ => rfl)) pa_nil)) (pe_one (pcall C2 hr (pa_cons (pe_ix ix_tup (pv 0) pe_int (fun _ _ => rfl)) (pa_cons (pe_slice sl_tup (pv 0) (po_some pe_int) po_none) pa_nil)))))))), ?_⟩
    have hl := c.len
    refine ⟨_, rfl, .ref t, .ty "tuple", _, _, true, rfl, .ty "tuple", sqT_tup ht, kit_ty (by decide +kernel), _, rfl, iteF ⟨_, rfl, _, c.toV.length, rfl, .inr ⟨_, ht, rfl⟩, _, _, rfl, rfl, _, rfl, iteD (by omega) ?_⟩⟩
    refine ⟨_, rfl, t, _, 0, _, rfl, rfl, ht, c.at0, .str c.kind, .ty "str", _, _, true, rfl, .ty "str", .base (.str _), kit_ty (by decide +kernel), _, rfl, iteT ?_⟩
    have hn := Ch.nm hf
    refine ⟨_, rfl, t, _, 1, _, rfl, rfl, ht, c.at1, .str c.name, _, rfl, .base (.str _), fun n e => by cases e; exact nm_len hn, fun H1 s1 => ⟨_, rfl, ?_⟩⟩
    rw [hn]
    refine iteT ⟨_, rfl, t, _, 0, _, rfl, rfl, same_tup s1 ht, c.at0, _, rfl, 2, rfl, t, _, rfl, same_tup s1 ht, fun z => by rw [six2 hl] at z; exact absurd z.1 (by decide), fun p np => ?_⟩
    rw [cut2]
    exact ⟨p, c, rfl, sqT_of upd_same, hf, fun H' s' => k H' ((s1.trans (same_new np)).trans s')⟩
/-! value_above -/
/-- what a value above becomes -/
def abv (g : Int) (way : Str) : V := if way = "cut" then .int g else if way = "none" then .non else .str "missing"
def sp_value_above (K : PySem.W.Frag) : Sp := fun vs H Q _ => ∃ (t : Addr) (n way : Str) (g : Int), vs = [.ref t] ∧ ChAt K H t (.great n g way) ∧ Q (abv g way) H
theorem ok_value_above (T : Tx K mg) : Callee P w K mg base CX0 1 "value_above" ["change"] [] (sp_value_above K) := by
  refine mkCallee (fd_value_above T) (mg_value_above T) sc_value_above (fun _ _ _ _ _ _ us hl => match us, hl with | [_], _ => rfl) (fun vs H Q E h => ?_) (fun cdv A outer s H vs Q E hr h => ?_)
  · obtain ⟨t, n, way, g, rfl, _⟩ := h
    rfl
  · obtain ⟨t, n, way, g, rfl, ht, k⟩ := h
    obtain ⟨tk, gM⟩ := ms_MISSING T
    refine ⟨_, pss_cons (ps_if (pt_cmpR op_eq (pe_ix ix_tup (pv 0) pe_int (fun _ _ => rfl)) pe_str (nomark _)) (pss_one (ps_ret (pe_ix ix_tup (pv 0) pe_int (fun _ _ => rfl)))) pss_nil)
      (pss_cons (ps_if (pt_cmpR op_eq (pe_ix ix_tup (pv 0) pe_int (fun _ _ => rfl)) pe_str (nomark _)) (pss_one (ps_ret pe_non)) pss_nil) (pss_one (ps_ret (pe_glob (v := .str "missing") (by rfl) gM ⟨_, rfl⟩)))), ?_⟩
    have i3 : atI (Ch.great n g way).toV 3 = some (.str way) := rfl
    have i2 : atI (Ch.great n g way).toV 2 = some (.int g) := rfl
    refine ⟨_, rfl, t, _, 3, _, rfl, rfl, ht, i3, rfl, _, rfl, ?_⟩
    unfold abv at k
    by_cases h1 : way = "cut"
    · rw [if_pos h1] at k
      subst h1
      exact iteDT rfl ⟨_, rfl, t, _, 2, _, rfl, rfl, ht, i2, k⟩
    · rw [if_neg h1] at k
      refine iteD (nes h1) ⟨_, rfl, t, _, 3, _, rfl, rfl, ht, i3, rfl, _, rfl, ?_⟩
      by_cases h2 : way = "none"
      · rw [if_pos h2] at k
        subst h2
        exact iteDT rfl k
      · rw [if_neg h2] at k
        exact iteD (nes h2) k
/-! changed_value -/
/-- what a value of a column of this name becomes -/
def chgV (n : Str) (c : Ch) (v : V) : V := if c.name = n then (match c, v with
  | .fill _ i, .non => .int i
  | .great _ g way, .int j => if g < j then abv g way else .int j
  | _, v => v) else v
/-- None or an int -/
def valOk : V → Bool
  | .non => true
  | .int _ => true
  | _ => false
def sp_changed_value (K : PySem.W.Frag) : Sp := fun vs H Q _ => ∃ (a t : Addr) (n : Str) (g k : Int) (d v : V) (c : Ch), vs = [.ref a, .ref t, v] ∧ ColAt K H a n g d k ∧ ChAt K H t c ∧ valOk v = true ∧ Q (chgV n c v) H
theorem ok_changed_value (T : Tx K mg) : Callee P w K mg base CX0 2 "changed_value" ["column", "change", "value"] [] (sp_changed_value K) := by
  have C1 := ok_value_above (P := P) (w := w) (base := base) T
  refine mkCallee (fd_changed_value T) (mg_changed_value T) sc_changed_value (fun _ _ _ _ _ _ us hl => match us, hl with | [_, _, _], _ => rfl) (fun vs H Q E h => ?_) (fun cdv A outer s H vs Q E hr h => ?_)
  · obtain ⟨a, t, n, g, k, d, v, c, rfl, _⟩ := h
    rfl
  · obtain ⟨a, t, n, g, k, d, v, c, rfl, ⟨dx, ha⟩, ht, hv, kk⟩ := h
    refine ⟨_, pss_cons (ps_if (pt_cmpR op_ne (pe_ix ix_tup (pv 1) pe_int (fun _ _ => rfl)) (pe_fld (pv 0) rfl) (nomark _)) (pss_one (ps_ret (pv 2))) pss_nil)
      (pss_cons (ps_if (PW.pt (pw_and (pt_cmpR op_eq (pe_ix ix_tup (pv 1) pe_int (fun _ _ => rfl)) pe_str (nomark _)) (pw_and1 (pt_cmpR op_isN (pv 2) pe_non (nomark _))))) (pss_one (ps_ret (pe_ix ix_tup (pv 1) pe_int (fun _ _ => rfl)))) pss_nil)
      (pss_cons (ps_if (PW.pt (pw_and (pt_cmpR op_eq (pe_ix ix_tup (pv 1) pe_int (fun _ _ => rfl)) pe_str (nomark _)) (pw_and (pt_cmpR op_notN (pv 2) pe_non (nomark _)) (pw_and1 (pt_cmpR op_gt (pv 2) (pe_ix ix_tup (pv 1) pe_int (fun _ _ => rfl)) (nomark _))))))
        (pss_one (ps_ret (pcall C1 hr (pa_cons (pv 1) pa_nil)))) pss_nil)
      (pss_one (ps_ret (pv 2))))), ?_⟩
    refine ⟨_, rfl, t, _, 1, _, rfl, rfl, ht, c.at1, _, rfl, a, _, dx, _, _, rfl, ha, cl_Column T, na_Column_name T, colFs_name, rfl, _, rfl, ?_⟩
    unfold chgV at kk
    by_cases hn : c.name = n
    · rw [if_pos hn] at kk
      refine iteNS (by rw [hn]) ?_
      cases c with
      | add n2 g2 d2 =>
        refine ⟨_, rfl, t, _, 0, _, rfl, rfl, ht, rfl, rfl, _, rfl, iteD (nes (show ("add" : Str) ≠ "fill" by decide +kernel)) (iteF ?_)⟩
        exact ⟨_, rfl, t, _, 0, _, rfl, rfl, ht, rfl, rfl, _, rfl, iteD (nes (show ("add" : Str) ≠ "greatest" by decide +kernel)) (iteF ⟨_, rfl, kk⟩)⟩
      | drop n2 =>
        refine ⟨_, rfl, t, _, 0, _, rfl, rfl, ht, rfl, rfl, _, rfl, iteD (nes (show ("drop" : Str) ≠ "fill" by decide +kernel)) (iteF ?_)⟩
        exact ⟨_, rfl, t, _, 0, _, rfl, rfl, ht, rfl, rfl, _, rfl, iteD (nes (show ("drop" : Str) ≠ "greatest" by decide +kernel)) (iteF ⟨_, rfl, kk⟩)⟩
      | rename n2 m2 =>
        refine ⟨_, rfl, t, _, 0, _, rfl, rfl, ht, rfl, rfl, _, rfl, iteD (nes (show ("rename" : Str) ≠ "fill" by decide +kernel)) (iteF ?_)⟩
        exact ⟨_, rfl, t, _, 0, _, rfl, rfl, ht, rfl, rfl, _, rfl, iteD (nes (show ("rename" : Str) ≠ "greatest" by decide +kernel)) (iteF ⟨_, rfl, kk⟩)⟩
      | dflt n2 v2 =>
        refine ⟨_, rfl, t, _, 0, _, rfl, rfl, ht, rfl, rfl, _, rfl, iteD (nes (show ("default" : Str) ≠ "fill" by decide +kernel)) (iteF ?_)⟩
        exact ⟨_, rfl, t, _, 0, _, rfl, rfl, ht, rfl, rfl, _, rfl, iteD (nes (show ("default" : Str) ≠ "greatest" by decide +kernel)) (iteF ⟨_, rfl, kk⟩)⟩
      | fill n2 i =>
        refine ⟨_, rfl, t, _, 0, _, rfl, rfl, ht, rfl, rfl, _, rfl, iteDT rfl ⟨_, rfl, rfl, _, rfl, ?_⟩⟩
        cases v with
        | non => exact iteDT rfl ⟨_, rfl, t, _, 2, _, rfl, rfl, ht, rfl, kk⟩
        | int j =>
          refine iteD (by intro z; cases z) ?_
          exact ⟨_, rfl, t, _, 0, _, rfl, rfl, ht, rfl, rfl, _, rfl, iteD (nes (show ("fill" : Str) ≠ "greatest" by decide +kernel)) (iteF ⟨_, rfl, kk⟩)⟩
        | _ => cases hv
      | great n2 g2 way =>
        refine ⟨_, rfl, t, _, 0, _, rfl, rfl, ht, rfl, rfl, _, rfl, iteD (nes (show ("greatest" : Str) ≠ "fill" by decide +kernel)) (iteF ?_)⟩
        refine ⟨_, rfl, t, _, 0, _, rfl, rfl, ht, rfl, rfl, _, rfl, iteDT rfl ⟨_, rfl, rfl, _, rfl, ?_⟩⟩
        cases v with
        | non => exact iteNS rfl (iteF ⟨_, rfl, kk⟩)
        | int j =>
          refine iteNF (by intro z; cases z) ⟨_, rfl, _, rfl, t, _, 2, _, rfl, rfl, ht, rfl, _, _, rfl, rfl, _, rfl, ?_⟩
          by_cases hj : g2 < j
          · refine iteDT hj ⟨_, rfl, t, n2, way, g2, rfl, ht, ?_⟩
            have e : (if g2 < j then abv g2 way else V.int j) = abv g2 way := if_pos hj
            rw [← e]
            exact kk
          · refine iteD hj ⟨_, rfl, ?_⟩
            have e : (if g2 < j then abv g2 way else V.int j) = V.int j := if_neg hj
            rw [← e]
            exact kk
        | _ => cases hv
    · rw [if_neg hn] at kk
      exact iteNF (nes hn) ⟨_, rfl, kk⟩
/-! changed_column -/
def ColA (K : PySem.W.Frag) (H : Hp) (a : Addr) (c : Col) : Prop := ColAt K H a c.name c.top c.dflt c.num
theorem ColA.keep {K : PySem.W.Frag} {H H' : Hp} {a : Addr} {c : Col} (s : Same H H') (h : ColA K H a c) : ColA K H' a c := h.imp fun _ e => s _ _ e
theorem ColA.keepNL {K : PySem.W.Frag} {H H' : Hp} {a : Addr} {c : Col} (s : KeepNL H H') (h : ColA K H a c) : ColA K H' a c := h.imp fun _ e => s _ _ (fun _ z => by cases z) e
/-- a column's parts fit -/
structure ColOk (c : Col) : Prop where
  nm : isNm (.str c.name) = true
  gr : isGr (.int c.top) = true
  df : isIn c.top c.dflt = true
  nu : 0 ≤ c.num
/-- what a change of a column that does not drop it makes of it -/
def chgC (c : Col) (ch : Ch) : Col := match ch with
  | .rename _ m => { c with name := m }
  | .dflt _ v => { c with dflt := v }
  | .great n g way => { c with top := g, dflt := chgV c.name (.great n g way) c.dflt }
  | _ => c
theorem isIn_ok {g : Int} {v : V} (h : isIn g v = true) : valOk v = true := by
  cases v with
  | non => rfl
  | int _ => rfl
  | _ => cases h
def sp_changed_column (K : PySem.W.Frag) : Sp := fun vs H Q _ => ∃ (a t : Addr) (c : Col) (ch : Ch), vs = [.ref a, .ref t] ∧ ColA K H a c ∧ ChAt K H t ch ∧ ColOk c ∧ ColOk (chgC c ch) ∧ ∀ (a' : Addr) (H' : Hp), Same H H' → ColA K H' a' (chgC c ch) → Q (.ref a') H'
theorem ok_changed_column (T : Tx K mg) : Callee P w K mg base CX0 7 "changed_column" ["column", "change"] [] (sp_changed_column K) := by
  obtain ⟨fdC, GC, bC⟩ := ok_changed (P := P) (w := w) (base := base) T
  obtain ⟨fdI, GI, FI⟩ := ok_Col_init (P := P) (w := w) (base := base) T
  obtain ⟨_, _, kb⟩ := kbinds_Col T FI
  have C1 := (ok_changed_value (P := P) (w := w) (base := base) T).up (show 2 ≤ 6 by decide)
  have cl := cl_Column T
  refine mkCallee (fd_changed_column T) (mg_changed_column T) sc_changed_column (fun _ _ _ _ _ _ us hl => match us, hl with | [_, _], _ => rfl) (fun vs H Q E h => ?_) (fun cdv A outer s H vs Q E hr h => ?_)
  · obtain ⟨a, t, c, ch, rfl, _⟩ := h
    rfl
  · obtain ⟨a, t, c, ch, rfl, ⟨dx, ha⟩, ht, ok1, ok2, k⟩ := h
    have nd := sc_changed_column.nd
    have lk : (colFs c.name c.top c.dflt c.num).lookup ("changed" : Str) = none := by
      have g1 : (("changed" : Str) == "name") = false := by decide +kernel
      have g2 : (("changed" : Str) == "greatest") = false := by decide +kernel
      have g3 : (("changed" : Str) == "default") = false := by decide +kernel
      have g4 : (("changed" : Str) == "number") = false := by decide +kernel
      unfold colFs
      simp [List.lookup, g1, g2, g3, g4]
    refine ⟨_, pss_cons (ps_set (i := 2) nd rfl (Or.inl rfl) (pe_ix ix_tup (pv 1) pe_int (fun _ _ => rfl)))
      (pss_cons (ps_if (pt_cmpR op_eq (pv 2) pe_str (nomark _)) (pss_one (ps_ret (pe_meth (pv 0) cl (me_Column_changed T) GC hr bC .nil pass0 (pa_cons pe_str (pa_cons (pe_ix ix_tup (pv 1) pe_int (fun _ _ => rfl)) pa_nil))))) pss_nil)
      (pss_cons (ps_if (pt_cmpR op_eq (pv 2) pe_str (nomark _)) (pss_one (ps_ret (pe_meth (pv 0) cl (me_Column_changed T) GC hr bC .nil pass0 (pa_cons pe_str (pa_cons (pe_ix ix_tup (pv 1) pe_int (fun _ _ => rfl)) pa_nil))))) pss_nil)
      (pss_cons (ps_if (pt_cmpR op_eq (pv 2) pe_str (nomark _)) (pss_cons (ps_set (i := 3) nd rfl (Or.inl rfl) (pcall C1 hr (pa_cons (pv 0) (pa_cons (pv 1) (pa_cons (pe_fld (pv 0) rfl) pa_nil)))))
          (pss_one (ps_ret (pe_makeK (mk_Column T) GI (hr.mono (by decide)) (by rfl) (mg_Column T) kb pass0 (pa_cons (pe_fld (pv 0) rfl) (pa_cons (pe_ix ix_tup (pv 1) pe_int (fun _ _ => rfl)) (pa_cons (pv 3) pa_nil))) (pk_cons (pe_fld (pv 0) rfl) pk_nil))))) pss_nil)
      (pss_one (ps_ret (pv 0)))))), ?_⟩
    refine ⟨_, rfl, t, _, 0, _, rfl, rfl, ht, ch.at0, _, rfl, rfl, _, rfl, ?_⟩
    have dv := isIn_ok ok1.df
    cases ch with
    | add n g d =>
      refine iteD (nes (show ("add" : Str) ≠ "rename" by decide +kernel)) ⟨_, rfl, rfl, _, rfl, iteD (nes (show ("add" : Str) ≠ "default" by decide +kernel)) ⟨_, rfl, rfl, _, rfl, iteD (nes (show ("add" : Str) ≠ "greatest" by decide +kernel)) ⟨_, rfl, k a H (Same.refl _) ⟨dx, ha⟩⟩⟩⟩
    | drop n =>
      refine iteD (nes (show ("drop" : Str) ≠ "rename" by decide +kernel)) ⟨_, rfl, rfl, _, rfl, iteD (nes (show ("drop" : Str) ≠ "default" by decide +kernel)) ⟨_, rfl, rfl, _, rfl, iteD (nes (show ("drop" : Str) ≠ "greatest" by decide +kernel)) ⟨_, rfl, k a H (Same.refl _) ⟨dx, ha⟩⟩⟩⟩
    | fill n i =>
      refine iteD (nes (show ("fill" : Str) ≠ "rename" by decide +kernel)) ⟨_, rfl, rfl, _, rfl, iteD (nes (show ("fill" : Str) ≠ "default" by decide +kernel)) ⟨_, rfl, rfl, _, rfl, iteD (nes (show ("fill" : Str) ≠ "greatest" by decide +kernel)) ⟨_, rfl, k a H (Same.refl _) ⟨dx, ha⟩⟩⟩⟩
    | rename n m =>
      have i2 : atI (Ch.rename n m).toV 2 = some (.str m) := rfl
      refine iteDT rfl ⟨_, rfl, a, dx, _, rfl, ha, lk, _, rfl, t, _, 2, _, rfl, rfl, ht, i2, a, "name", c.name, m, c.top, c.num, c.top, c.num, c.dflt, c.dflt, .str m, rfl, ⟨dx, ha⟩, ⟨.inl rfl, by rw [if_pos rfl]⟩, ok2.nm, ok2.gr, ok2.df, ok2.nu, fun a' H' _ s' h' => k a' H' s' h'⟩
    | dflt n v =>
      have i2 : atI (Ch.dflt n v).toV 2 = some v := rfl
      refine iteD (nes (show ("default" : Str) ≠ "rename" by decide +kernel)) ⟨_, rfl, rfl, _, rfl, iteDT rfl ⟨_, rfl, a, dx, _, rfl, ha, lk, _, rfl, t, _, 2, _, rfl, rfl, ht, i2, a, "default", c.name, c.name, c.top, c.num, c.top, c.num, c.dflt, v, v, rfl, ⟨dx, ha⟩,
        ⟨.inr (.inr (.inl rfl)), by rw [if_neg (show ¬ ("default" : Str) = "name" by decide +kernel), if_neg (show ¬ ("default" : Str) = "greatest" by decide +kernel), if_pos rfl]⟩, ok2.nm, ok2.gr, ok2.df, ok2.nu, fun a' H' _ s' h' => k a' H' s' h'⟩⟩
    | great n g way =>
      have i2 : atI (Ch.great n g way).toV 2 = some (.int g) := rfl
      refine iteD (nes (show ("greatest" : Str) ≠ "rename" by decide +kernel)) ⟨_, rfl, rfl, _, rfl, iteD (nes (show ("greatest" : Str) ≠ "default" by decide +kernel)) ⟨_, rfl, rfl, _, rfl, iteDT rfl ?_⟩⟩
      refine ⟨_, rfl, _, rfl, _, rfl, a, _, dx, _, _, rfl, ha, cl, na_Column_default T, colFs_default, a, t, c.name, c.top, c.num, c.dflt, c.dflt, .great n g way, rfl, ⟨dx, ha⟩, ht, dv, ?_⟩
      refine ⟨_, rfl, a, _, dx, _, _, rfl, ha, cl, na_Column_name T, colFs_name, _, rfl, t, _, 2, _, rfl, rfl, ht, i2, _, rfl, _, rfl, a, _, dx, _, _, rfl, ha, cl, na_Column_number T, colFs_number, rfl, rfl, fun x dx2 nx ndx ndc => ?_⟩
      refine ⟨x, dx2, c.name, g, c.num, chgV c.name (.great n g way) c.dflt, rfl, upd_same, ok2.nm, ok2.gr, ok2.df, ok2.nu, fun H4 hc4 k4 => ⟨rfl, ?_⟩⟩
      exact k x H4 (fun b o e => k4 b o (ne_of_none e nx) (by rw [upd_ne (ne_of_none e nx), upd_ne (ne_of_none e ndx)]; exact e)) hc4
/-! values compared -/
theorem val_scal2 {v u : V} (h : isVal v = true) (g : isVal u = true) : scal v u = true := by
  cases v with
  | non => cases u with
    | non => rfl
    | int _ => rfl
    | _ => cases g
  | int _ => cases u with
    | non => rfl
    | int _ => rfl
    | _ => cases g
  | _ => cases h
theorem val_scal {v : V} (h : isVal v = true) : scal v v = true := by
  cases v with
  | non => rfl
  | int _ => rfl
  | _ => cases h
theorem in_val {g : Int} {v : V} (h : isIn g v = true) : isVal v = true := by
  cases v with
  | non => rfl
  | int i =>
    have h : (decide (0 ≤ i) && decide (i ≤ g)) = true := h
    exact (Bool.and_eq_true_iff.mp h).1
  | _ => cases h
theorem in_valOk {g : Int} {v : V} (h : isIn g v = true) : valOk v = true := by
  cases v with
  | non => rfl
  | int _ => rfl
  | _ => cases h

/-! column == column -/
def colEq (c d : Col) : Bool := decide (c.name = d.name) && (decide (c.top = d.top) && (decide (c.dflt = d.dflt) && decide (c.num = d.num)))
theorem colEq_self (c : Col) : colEq c c = true := by
  unfold colEq
  rw [decide_eq_true rfl, decide_eq_true rfl, decide_eq_true rfl, decide_eq_true rfl]
  rfl
def sp_Col_eq (K : PySem.W.Frag) : Sp := fun vs H Q _ => ∃ (a b : Addr) (c d : Col), vs = [.ref a, .ref b] ∧ ColA K H a c ∧ ColA K H b d ∧ isVal c.dflt = true ∧ isVal d.dflt = true ∧ Q (.bl (colEq c d)) H
theorem ok_Col_eq (T : Tx K mg) : ∃ fd, FnOk P w K mg base CX0 1 (He.ma K (He.ga K "Column") "__eq__") fd ["self", "other"] (sp_Col_eq K) ∧ Binds K fd ["self", "other"] [] := by
  have ic := insC_of (ex_Column T) (cl_Column T)
  have cl := cl_Column T
  refine mkMeth (fd_Column___eq__ T) sc_Column___eq__ (fun _ _ _ _ _ _ us hl => match us, hl with | [_, _], _ => rfl) (fun vs H Q E h => ?_) (fun cdv A outer s H vs Q E hr h => ?_)
  · obtain ⟨a, b, c, d, rfl, _⟩ := h
    rfl
  obtain ⟨a, b, c, d, rfl, ⟨dx, h1⟩, ⟨dy, h2⟩, v1, v2, k⟩ := h
  refine ⟨_, pss_one (ps_ret (pe_and (pe_callB (C8.call_isC ic) (by rfl) (fr_isinstance T) (by decide +kernel) (pa_cons (pv 1) (pa_cons (pe_glob (v := .ref (He.ga K "Column")) (by rfl) (mg_Column T) rfl) pa_nil)))
    (pe_and (pe_cmpR op_eq (pe_fld (pv 0) rfl) (pe_fld (pv 1) rfl) (nomark _)) (pe_and (pe_cmpR op_eq (pe_fld (pv 0) rfl) (pe_fld (pv 1) rfl) (nomark _)) (pe_and (pe_cmpR op_eq (pe_fld (pv 0) rfl) (pe_fld (pv 1) rfl) (nomark _)) (pe_one (pe_cmpR op_eq (pe_fld (pv 0) rfl) (pe_fld (pv 1) rfl) (nomark _)))))))), ?_⟩
  have dI : ∀ i j : Int, decide (V.int i = V.int j) = decide (i = j) := fun i j => by
    rw [Bool.eq_iff_iff, decide_eq_true_iff, decide_eq_true_iff]
    exact ⟨V.int.inj, congrArg _⟩
  have dS : ∀ i j : Str, decide (V.str i = V.str j) = decide (i = j) := fun i j => by
    rw [Bool.eq_iff_iff, decide_eq_true_iff, decide_eq_true_iff]
    exact ⟨V.str.inj, congrArg _⟩
  unfold colEq at k
  refine ⟨_, rfl, b, dy, _, rfl, h2, _, rfl, iteT ?_⟩
  refine ⟨_, rfl, a, _, dx, _, _, rfl, h1, cl, na_Column_name T, colFs_name, _, rfl, b, _, dy, _, _, rfl, h2, cl, na_Column_name T, colFs_name, rfl, _, rfl, ?_⟩
  rw [dS]
  cases e1 : decide (c.name = d.name) with
  | false =>
    rw [e1] at k
    exact iteF k
  | true =>
    rw [e1, Bool.true_and] at k
    refine iteT ⟨_, rfl, a, _, dx, _, _, rfl, h1, cl, na_Column_greatest T, colFs_greatest, _, rfl, b, _, dy, _, _, rfl, h2, cl, na_Column_greatest T, colFs_greatest, rfl, _, rfl, ?_⟩
    rw [dI]
    cases e2 : decide (c.top = d.top) with
    | false =>
      rw [e2] at k
      exact iteF k
    | true =>
      rw [e2, Bool.true_and] at k
      refine iteT ⟨_, rfl, a, _, dx, _, _, rfl, h1, cl, na_Column_default T, colFs_default, _, rfl, b, _, dy, _, _, rfl, h2, cl, na_Column_default T, colFs_default, val_scal2 v1 v2, _, rfl, ?_⟩
      cases e3 : decide (c.dflt = d.dflt) with
      | false =>
        rw [e3] at k
        exact iteF k
      | true =>
        rw [e3, Bool.true_and] at k
        refine iteT ⟨_, rfl, a, _, dx, _, _, rfl, h1, cl, na_Column_number T, colFs_number, _, rfl, b, _, dy, _, _, rfl, h2, cl, na_Column_number T, colFs_number, rfl, ?_⟩
        rw [dI]
        exact k
/-! Column.__contains__ -/
def sp_contains (K : PySem.W.Frag) : Sp := fun vs H Q _ => ∃ (c : Addr) (n : Str) (g k : Int) (d x : V) (t : String), vs = [.ref c, x] ∧ ColAt K H c n g d k ∧ TyX K H x (.type t) ∧ Q (.bl (isIn g x)) H
theorem ok_contains (T : Tx K mg) : ∃ fd, FnOk P w K mg base CX0 4 (He.ma K (He.ga K "Column") "__contains__") fd ["self", "x"] (sp_contains K) ∧ Binds K fd ["self", "x"] [] := by
  have C1 := ok_is_within (P := P) (w := w) (base := base) T
  obtain ⟨fd, F⟩ := fd_Column___contains__ T
  refine ⟨fd, F.ok (CX := CX0) sc_Column___contains__ (fun vs H Q E h => ?_) (fun cdv A outer s H vs Q E hr h => ?_), F.bindsN fun _ _ _ _ _ _ us hl => match us, hl with | [_, _], _ => rfl⟩
  · obtain ⟨c, n, g, k, d, x, t, rfl, _⟩ := h
    rfl
  suffices hh : ∃ t, PSs (cxOf CX0 P w K mg base ["self", "x"] "Column.__contains__" (defScope s_Column___contains__) (He.ma K (He.ga K "Column") "__contains__") cdv A outer s H E).nox (defBody s_Column___contains__) t ∧
      t { nx := fun _ H' => Q .non H', rt := Q } (start ["self", "x"] vs) H by
    obtain ⟨t, h1, h2⟩ := hh
    exact ⟨t, h1.nox, h2⟩
  obtain ⟨c, n, g, k, d, x, t, rfl, ⟨dx, hc⟩, ty, kk⟩ := h
  refine ⟨_, pss_one (ps_ret (pcall C1 hr (pa_cons (pv 1) (pa_cons (pe_fld (pv 0) rfl) pa_nil)))), ?_⟩
  exact ⟨_, rfl, _, rfl, c, _, dx, _, _, rfl, hc, cl_Column T, na_Column_greatest T, colFs_greatest, x, g, t, rfl, ty, kk⟩
/-! column_numbered, of an int -/
def isK (n : Int) (c : Col) : Bool := decide (c.num = n)
def Numbered (as : List Addr) (cs : List Col) (n : Int) (v : V) : Prop := (v = .non ∧ cs.find? (isK n) = none) ∨ ∃ (i : Nat) (a : Addr) (c : Col), v = .ref a ∧ as[i]? = some a ∧ cs[i]? = some c ∧ cs.find? (isK n) = some c
def sp_column_numbered (K : PySem.W.Frag) : Sp := fun vs H Q _ => ∃ (l : Addr) (as : List Addr) (cs : List Col) (n : Int), vs = [.ref l, .int n] ∧ SqL K H l (as.map V.ref) ∧ Cols K H as cs ∧ ∀ v, Numbered as cs n v → Q v H
theorem findk_pre {cs : List Col} {i : Nat} {c : Col} {n : Int} (h : cs[i]? = some c) (hp : (cs.take i).find? (isK n) = none) : (cs.take (i + 1)).find? (isK n) = if isK n c = true then some c else none := by
  rw [List.take_add_one, h, List.find?_append, hp]
  show (Option.none).or _ = _
  rw [Option.none_or]
  show (match isK n c with | true => some c | false => none) = _
  cases isK n c <;> rfl
theorem findk_take {cs : List Col} {i : Nat} {c : Col} {n : Int} (h : cs[i]? = some c) (hp : (cs.take i).find? (isK n) = none) (hc : isK n c = true) : cs.find? (isK n) = some c := by
  have e : cs = cs.take (i + 1) ++ cs.drop (i + 1) := (List.take_append_drop _ _).symm
  rw [e, List.find?_append, findk_pre h hp, if_pos hc]
  rfl
theorem ok_column_numbered (T : Tx K mg) : Callee P w K mg base CX0 2 "column_numbered" ["columns", "number"] [] (sp_column_numbered K) := by
  have C1 := ok_is_whole (P := P) (w := w) (base := base) T
  refine mkCallee (fd_column_numbered T) (mg_column_numbered T) sc_column_numbered (fun _ _ _ _ _ _ us hl => match us, hl with | [_, _], _ => rfl) (fun vs H Q E h => ?_) (fun cdv A outer s H vs Q E hr h => ?_)
  · obtain ⟨l, as, cs, n, rfl, _⟩ := h
    rfl
  · obtain ⟨l, as, cs, n, rfl, hl, hc, k⟩ := h
    have nd := sc_column_numbered.nd
    refine ⟨_, pss_cons (ps_if (pt_not (pt_val (pcall C1 hr (pa_cons (pv 1) pa_nil)))) (pss_one (ps_ret pe_non)) pss_nil)
        (pss_cons (ps_for PassesOwn.never rfl (pi_list (pv 0)) (pg_name (i := 2) nd rfl (Or.inl rfl)) (pss_one (ps_if (pt_cmpR op_eq (pe_fld (pv 2) rfl) (pv 1) (nomark _)) (pss_one (ps_ret (pv 2))) pss_nil))) (pss_one (ps_ret pe_non))), ?_⟩
    refine ⟨_, rfl, .int n, _, rfl, .base (.int n), _, rfl, iteF ⟨_, rfl, l, rfl, ⟨_, hl⟩, ?_⟩⟩
    refine for_list (xs := as.map V.ref) (fun i σ H' => H' = H ∧ (cs.take i).find? (isK n) = none ∧ ∃ y, σ = [some (.ref l), some (.int n), y]) ⟨rfl, rfl, _, rfl⟩ (fun i σ H' _ h => by rw [h.1]; exact hl) ?_ ?_
    · rintro i x σ H' hx ⟨rfl, hp, y, rfl⟩
      rw [List.getElem?_map] at hx
      cases ha : as[i]? with
      | none =>
        rw [ha] at hx
        cases hx
      | some a =>
        rw [ha] at hx
        obtain rfl := Option.some.inj hx
        obtain ⟨c, hci, dx, hat⟩ := hc.at_ ha
        refine ⟨_, rfl, a, _, dx, _, _, rfl, hat, cl_Column T, na_Column_number T, colFs_number, _, rfl, rfl, _, rfl, ?_⟩
        by_cases e : c.num = n
        · rw [decide_eq_true (show V.int c.num = V.int n by rw [e])]
          exact iteT ⟨_, rfl, k _ (.inr ⟨i, a, c, rfl, ha, hci, findk_take hci hp (decide_eq_true e)⟩)⟩
        · rw [decide_eq_false (fun z => e (V.int.inj z))]
          exact iteF ⟨rfl, by rw [findk_pre hci hp, if_neg (by rw [show isK n c = false from decide_eq_false e]; decide)], _, rfl⟩
    · rintro σ H' ⟨rfl, hp, y, rfl⟩
      rw [List.length_map, hc.len, List.take_length] at hp
      exact k _ (.inl ⟨rfl, hp⟩)
/-! kind_of -/
def sp_kind_of (K : PySem.W.Frag) : Sp := fun vs H Q _ => ∃ (t : Addr) (c : Ch), vs = [.ref t] ∧ ChAt K H t c ∧ Q (.str c.kind) H
theorem ok_kind_of (T : Tx K mg) : Callee P w K mg base CX0 1 "kind_of" ["change"] [] (sp_kind_of K) := by
  refine mkCallee (fd_kind_of T) (mg_kind_of T) sc_kind_of (fun _ _ _ _ _ _ us hl => match us, hl with | [_], _ => rfl) (fun vs H Q E h => ?_) (fun cdv A outer s H vs Q E hr h => ?_)
  · obtain ⟨t, c, rfl, _⟩ := h
    rfl
  · obtain ⟨t, c, rfl, ht, k⟩ := h
    exact ⟨_, pss_one (ps_ret (pe_ix ix_tup (pv 0) pe_int (fun _ _ => rfl))), _, rfl, t, _, 0, _, rfl, rfl, ht, c.at0, k⟩
/-! add_hindrance -/
def addHind (cs : List Col) (n : Str) (g : Int) (d : V) : V := if (cs.find? (isN n)).isSome = true then .str "alive" else if 6 ≤ cs.length then .str "many" else if isIn g d = true then .non else .str "above"
def sp_add_hindrance (K : PySem.W.Frag) : Sp := fun vs H Q _ => ∃ (l t : Addr) (as : List Addr) (cs : List Col) (x : V) (n : Str) (g : Int) (d : V), vs = [.ref l, x, .ref t] ∧ (SqL K H l (as.map V.ref) ∨ SqT K H l (as.map V.ref)) ∧ Cols K H as cs ∧ Named as cs n x ∧ ChAt K H t (.add n g d) ∧ isVal d = true ∧ Q (addHind cs n g d) H
theorem ok_add_hindrance (T : Tx K mg) : Callee P w K mg base CX0 4 "add_hindrance" ["columns", "namesake", "change"] [] (sp_add_hindrance K) := by
  have C1 := ok_is_within (P := P) (w := w) (base := base) T
  refine mkCallee (fd_add_hindrance T) (mg_add_hindrance T) sc_add_hindrance (fun _ _ _ _ _ _ us hl => match us, hl with | [_, _, _], _ => rfl) (fun vs H Q E h => ?_) (fun cdv A outer s H vs Q E hr h => ?_)
  · obtain ⟨l, t, as, cs, x, n, g, d, rfl, _⟩ := h
    rfl
  · obtain ⟨l, t, as, cs, x, n, g, d, rfl, hl, hc, hx, ht, hd, k⟩ := h
    obtain ⟨tk, gM⟩ := mi_MOST_COLUMNS T
    refine ⟨_, pss_cons (ps_if (pt_cmpR op_notN (pv 1) pe_non (nomark _)) (pss_one (ps_ret pe_str)) pss_nil)
      (pss_cons (ps_if (pt_cmpR op_ge (pe_callB call_len (by rfl) (fr_len T) PySem.boot_len (pa_cons (pv 0) pa_nil)) (pe_glob (v := .int 6) (by rfl) gM ⟨_, rfl⟩) (nomark _)) (pss_one (ps_ret pe_str)) pss_nil)
      (pss_cons (ps_if (pt_not (pt_val (pcall C1 hr (pa_cons (pe_ix ix_tup (pv 2) pe_int (fun _ _ => rfl)) (pa_cons (pe_ix ix_tup (pv 2) pe_int (fun _ _ => rfl)) pa_nil))))) (pss_one (ps_ret pe_str)) pss_nil)
      (pss_one (ps_ret pe_non)))), ?_⟩
    unfold addHind at k
    refine ⟨_, rfl, rfl, _, rfl, ?_⟩
    rcases hx with ⟨rfl, hf⟩ | ⟨i, a, c, rfl, _, _, hf⟩
    · rw [hf] at k
      rw [if_neg (show ¬ (Option.isSome (none : Option Col)) = true by decide)] at k
      refine iteNS rfl ?_
      have hlen : LenV K (.ref l) H cs.length := by
        rcases hl with hl | hl
        · exact .inl ⟨_, hl, by rw [List.length_map]; exact hc.len.symm⟩
        · exact .inr ⟨_, hl, by rw [List.length_map]; exact hc.len.symm⟩
      refine ⟨_, rfl, _, cs.length, rfl, hlen, _, _, rfl, rfl, _, rfl, ?_⟩
      by_cases h6 : 6 ≤ cs.length
      · rw [if_pos h6] at k
        exact iteDT (by omega) k
      · rw [if_neg h6] at k
        have td : ∃ ty, TyX K H d (.type ty) := by
          cases d with
          | non => exact ⟨_, .base .non⟩
          | int i => exact ⟨_, .base (.int i)⟩
          | _ => cases hd
        obtain ⟨ty, td⟩ := td
        refine iteD (by omega) ⟨_, rfl, t, _, 3, _, rfl, rfl, ht, rfl, _, rfl, t, _, 2, _, rfl, rfl, ht, rfl, d, g, ty, rfl, td, _, rfl, ?_⟩
        cases hi : isIn g d with
        | true =>
          rw [hi, if_pos rfl] at k
          exact iteF k
        | false =>
          rw [hi, if_neg (by decide)] at k
          exact iteT k
    · rw [hf] at k
      rw [if_pos (show (Option.isSome (some c)) = true from rfl)] at k
      exact iteNF (by intro z; cases z) k
/-! hindrance -/
/-- the word by which a change cannot be done, or None -/
def hindV (cs : List Col) (c : Ch) : V := match c with
  | .add n g d => addHind cs n g d
  | .drop n => match cs.find? (isN n) with
    | none => .str "unknown"
    | some _ => if cs.length = 1 then .str "only" else .non
  | .rename n m => match cs.find? (isN n) with
    | none => .str "unknown"
    | some _ => if (cs.find? (isN m)).isSome = true then .str "alive" else .non
  | .dflt n v => match cs.find? (isN n) with
    | none => .str "unknown"
    | some e => if isIn e.top v = true then .non else .str "above"
  | .great n g way => match cs.find? (isN n) with
    | none => .str "unknown"
    | some e => if chgV e.name (.great n g way) e.dflt = .str "missing" then .str "default" else .non
  | .fill n i => match cs.find? (isN n) with
    | none => .str "unknown"
    | some e => if isIn e.top (.int i) = true then .non else .str "above"
def sp_hindrance (K : PySem.W.Frag) : Sp := fun vs H Q _ => ∃ (l t : Addr) (as : List Addr) (cs : List Col) (c : Ch), vs = [.ref l, .ref t] ∧ (SqL K H l (as.map V.ref) ∨ SqT K H l (as.map V.ref)) ∧ Cols K H as cs ∧ (∀ e ∈ cs, valOk e.dflt = true) ∧ ChAt K H t c ∧ c.fits = true ∧ ∀ H', Same H H' → Q (hindV cs c) H'
theorem chg_scal {n : Str} {c : Ch} {v : V} (h : valOk v = true) : scal (chgV n c v) (.str "missing") = true := by
  unfold chgV
  split
  · cases c <;> cases v <;> first | cases h | rfl | skip
    all_goals (simp only [abv]; repeat (first | rfl | split))
  · cases v <;> first | rfl | cases h
theorem ok_hindrance (T : Tx K mg) : Callee P w K mg base CX0 5 "hindrance" ["columns", "change"] [] (sp_hindrance K) := by
  have C1 := (ok_column_named (P := P) (w := w) (base := base) T).up (show 1 ≤ 4 by decide)
  have C2 := ok_add_hindrance (P := P) (w := w) (base := base) T
  have C3 := (ok_is_within (P := P) (w := w) (base := base) T).up (show 3 ≤ 4 by decide)
  have C4 := (ok_changed_value (P := P) (w := w) (base := base) T).up (show 2 ≤ 4 by decide)
  refine mkCallee (fd_hindrance T) (mg_hindrance T) sc_hindrance (fun _ _ _ _ _ _ us hl => match us, hl with | [_, _], _ => rfl) (fun vs H Q E h => ?_) (fun cdv A outer s H vs Q E hr h => ?_)
  · obtain ⟨l, t, as, cs, c, rfl, _⟩ := h
    rfl
  · obtain ⟨l, t, as, cs, c, rfl, hl, hc, hd, ht, hf, k⟩ := h
    obtain ⟨tk, gM⟩ := ms_MISSING T
    have nd := sc_hindrance.nd
    refine ⟨_, pss_cons (ps_set (i := 2) nd rfl (Or.inl rfl) (pe_ix ix_tup (pv 1) pe_int (fun _ _ => rfl)))
      (pss_cons (ps_set (i := 3) nd rfl (Or.inl rfl) (pcall C1 hr (pa_cons (pv 0) (pa_cons (pe_ix ix_tup (pv 1) pe_int (fun _ _ => rfl)) pa_nil))))
      (pss_cons (ps_if (pt_cmpR op_eq (pv 2) pe_str (nomark _)) (pss_one (ps_ret (pcall C2 hr (pa_cons (pv 0) (pa_cons (pv 3) (pa_cons (pv 1) pa_nil)))))) pss_nil)
      (pss_cons (ps_if (pt_cmpR op_isN (pv 3) pe_non (nomark _)) (pss_one (ps_ret pe_str)) pss_nil)
      (pss_cons (ps_if (PW.pt (pw_and (pt_cmpR op_eq (pv 2) pe_str (nomark _)) (pw_and1 (pt_cmpR op_notN (pcall C1 hr (pa_cons (pv 0) (pa_cons (pe_ix ix_tup (pv 1) pe_int (fun _ _ => rfl)) pa_nil))) pe_non (nomark _))))) (pss_one (ps_ret pe_str)) pss_nil)
      (pss_cons (ps_if (PW.pt (pw_and (pt_cmpR op_eq (pv 2) pe_str (nomark _)) (pw_and1 (pt_cmpR op_eq (pe_callB call_len (by rfl) (fr_len T) PySem.boot_len (pa_cons (pv 0) pa_nil)) pe_int (nomark _))))) (pss_one (ps_ret pe_str)) pss_nil)
      (pss_cons (ps_if (PW.pt (pw_and (pt_cmpR op_in_seq (pv 2) (pe_tup (pa_cons pe_str (pa_cons pe_str pa_nil))) (by rfl)) (pw_and1 (pt_not (pt_val (pcall C3 hr (pa_cons (pe_ix ix_tup (pv 1) pe_int (fun _ _ => rfl)) (pa_cons (pe_fld (pv 3) rfl) pa_nil))))))))
        (pss_one (ps_ret pe_str)) pss_nil)
      (pss_cons (ps_if (PW.pt (pw_and (pt_cmpR op_eq (pv 2) pe_str (nomark _)) (pw_and1 (pt_cmpR op_eq (pcall C4 hr (pa_cons (pv 3) (pa_cons (pv 1) (pa_cons (pe_fld (pv 3) rfl) pa_nil)))) (pe_glob (v := .str "missing") (by rfl) gM ⟨_, rfl⟩) (nomark _))))) (pss_one (ps_ret pe_str)) pss_nil)
      (pss_one (ps_ret pe_non))))))))), ?_⟩
    have hlen : ∀ H', Same H H' → LenV K (.ref l) H' cs.length := fun H' s' => by
      rcases hl with hl | hl
      · exact .inl ⟨_, s'.seq hl, by rw [List.length_map]; exact hc.len.symm⟩
      · exact .inr ⟨_, same_tup s' hl, by rw [List.length_map]; exact hc.len.symm⟩
    refine ⟨_, rfl, t, _, 0, _, rfl, rfl, ht, c.at0, ?_⟩
    refine ⟨_, rfl, _, rfl, t, _, 1, _, rfl, rfl, ht, c.at1, l, as, cs, c.name, rfl, hl, hc, fun x hx => ?_⟩
    have kn : ∀ v, hindV cs c = v → ∀ H', Same H H' → Q v H' := fun v e H' s' => by
      rw [← e]
      exact k H' s'
    have nn : ∀ a, ¬ V.ref a = V.non := fun a z => by cases z
    cases c with
    | add n g d =>
      have hf' : (isNm (.str n) && (isGr (.int g) && isVal d)) = true := hf
      rw [Bool.and_eq_true, Bool.and_eq_true] at hf'
      exact ⟨_, rfl, rfl, _, rfl, iteDT rfl ⟨_, rfl, _, rfl, _, rfl, l, t, as, cs, x, n, g, d, rfl, hl, hc, hx, ht, hf'.2.2, kn _ rfl H (Same.refl _)⟩⟩
    | drop n =>
      refine ⟨_, rfl, rfl, _, rfl, iteD (nes (show ("drop" : Str) ≠ "add" by decide +kernel)) ⟨_, rfl, rfl, _, rfl, ?_⟩⟩
      rcases hx with ⟨rfl, hx⟩ | ⟨i, a, e, rfl, hia, hie, hx⟩
      · have hx' : cs.find? (isN n) = none := hx
        exact iteDT rfl (kn _ (by simp only [hindV, hx']) H (Same.refl _))
      have hx' : cs.find? (isN n) = some e := hx
      refine iteD (nn a) ⟨_, rfl, rfl, _, rfl, iteD (nes (show ("drop" : Str) ≠ "rename" by decide +kernel)) (iteF ⟨_, rfl, rfl, _, rfl, iteDT rfl ⟨_, rfl, _, cs.length, rfl, hlen _ (Same.refl _), rfl, _, rfl, ?_⟩⟩)⟩
      by_cases h1 : cs.length = 1
      · exact iteDT (by rw [h1]; rfl) (kn _ (by simp only [hindV, hx']; rw [if_pos h1]) H (Same.refl _))
      · refine iteD (nei (by omega)) ?_
        exact ⟨_, rfl, (by show 2 ≤ sizeLine; decide), fun t2 nt2 => ⟨t2, _, rfl, .inr (sqT_of upd_same), rfl, rfl, _, rfl, iteF (iteF ⟨_, rfl, rfl, _, rfl, iteD (nes (show ("drop" : Str) ≠ "greatest" by decide +kernel)) (iteF (kn _ (by simp only [hindV, hx']; rw [if_neg h1]) _ (same_new nt2)))⟩)⟩⟩
    | rename n m =>
      refine ⟨_, rfl, rfl, _, rfl, iteD (nes (show ("rename" : Str) ≠ "add" by decide +kernel)) ⟨_, rfl, rfl, _, rfl, ?_⟩⟩
      rcases hx with ⟨rfl, hx⟩ | ⟨i, a, e, rfl, hia, hie, hx⟩
      · have hx' : cs.find? (isN n) = none := hx
        exact iteDT rfl (kn _ (by simp only [hindV, hx']) H (Same.refl _))
      have hx' : cs.find? (isN n) = some e := hx
      have i2 : atI (Ch.rename n m).toV 2 = some (.str m) := rfl
      refine iteD (nn a) ⟨_, rfl, rfl, _, rfl, iteDT rfl ⟨_, rfl, _, rfl, t, _, 2, _, rfl, rfl, ht, i2, l, as, cs, m, rfl, hl, hc, fun y hy => ⟨rfl, _, rfl, ?_⟩⟩⟩
      rcases hy with ⟨rfl, hy⟩ | ⟨i', a', e', rfl, _, _, hy⟩
      · refine iteNS rfl ⟨_, rfl, rfl, _, rfl, iteD (nes (show ("rename" : Str) ≠ "drop" by decide +kernel)) (iteF ?_)⟩
        exact ⟨_, rfl, (by show 2 ≤ sizeLine; decide), fun t2 nt2 => ⟨t2, _, rfl, .inr (sqT_of upd_same), rfl, rfl, _, rfl, iteF (iteF ⟨_, rfl, rfl, _, rfl, iteD (nes (show ("rename" : Str) ≠ "greatest" by decide +kernel)) (iteF (kn _ (by simp only [hindV, hx', hy]; rfl) _ (same_new nt2)))⟩)⟩⟩
      · exact iteNF (nn _) (kn _ (by simp only [hindV, hx', hy]; rfl) H (Same.refl _))
    | dflt n v =>
      refine ⟨_, rfl, rfl, _, rfl, iteD (nes (show ("default" : Str) ≠ "add" by decide +kernel)) ⟨_, rfl, rfl, _, rfl, ?_⟩⟩
      rcases hx with ⟨rfl, hx⟩ | ⟨i, a, e, rfl, hia, hie, hx⟩
      · have hx' : cs.find? (isN n) = none := hx
        exact iteDT rfl (kn _ (by simp only [hindV, hx']) H (Same.refl _))
      have hx' : cs.find? (isN n) = some e := hx
      obtain ⟨e2, he2, dx, hat⟩ := hc.at_ hia
      obtain rfl : e = e2 := Option.some.inj (hie.symm.trans he2)
      have i2 : atI (Ch.dflt n v).toV 2 = some v := rfl
      refine iteD (nn a) ⟨_, rfl, rfl, _, rfl, iteD (nes (show ("default" : Str) ≠ "rename" by decide +kernel)) (iteF ⟨_, rfl, rfl, _, rfl, iteD (nes (show ("default" : Str) ≠ "drop" by decide +kernel)) (iteF ⟨_, rfl, (by show 2 ≤ sizeLine; decide), fun t2 nt2 => ⟨t2, _, rfl, .inr (sqT_of upd_same), rfl, rfl, _, rfl, iteT ?_⟩⟩)⟩)⟩
      have s2 := same_new (o := .tup [V.str "default", .str "fill"]) nt2
      have tv : ∃ ty, ∀ H : Hp, TyX K H v (.type ty) := by
        have hv : (isNm (.str n) && isVal v) = true := hf
        rw [Bool.and_eq_true] at hv
        cases v with
        | non => exact ⟨_, fun _ => .base .non⟩
        | int i => exact ⟨_, fun _ => .base (.int i)⟩
        | _ => cases hv.2
      obtain ⟨ty, tv⟩ := tv
      refine ⟨_, rfl, t, _, 2, _, rfl, rfl, same_tup s2 ht, i2, _, rfl, a, _, dx, _, _, rfl, s2 _ _ hat, cl_Column T, na_Column_greatest T, colFs_greatest, v, e.top, ty, rfl, tv _, _, rfl, ?_⟩
      cases hi : isIn e.top v with
      | true => exact iteF (nxt ⟨_, rfl, rfl, _, rfl, iteD (nes (show ("default" : Str) ≠ "greatest" by decide +kernel)) (iteF (nxt (kn _ (by simp only [hindV, hx']; rw [if_pos hi]) _ s2)))⟩)
      | false => exact iteT (kn _ (by simp only [hindV, hx']; rw [if_neg (by rw [hi]; decide)]) _ s2)
    | fill n v =>
      refine ⟨_, rfl, rfl, _, rfl, iteD (nes (show ("fill" : Str) ≠ "add" by decide +kernel)) ⟨_, rfl, rfl, _, rfl, ?_⟩⟩
      rcases hx with ⟨rfl, hx⟩ | ⟨i, a, e, rfl, hia, hie, hx⟩
      · have hx' : cs.find? (isN n) = none := hx
        exact iteDT rfl (kn _ (by simp only [hindV, hx']) H (Same.refl _))
      have hx' : cs.find? (isN n) = some e := hx
      obtain ⟨e2, he2, dx, hat⟩ := hc.at_ hia
      obtain rfl : e = e2 := Option.some.inj (hie.symm.trans he2)
      have i2 : atI (Ch.fill n v).toV 2 = some (.int v) := rfl
      refine iteD (nn a) ⟨_, rfl, rfl, _, rfl, iteD (nes (show ("fill" : Str) ≠ "rename" by decide +kernel)) (iteF ⟨_, rfl, rfl, _, rfl, iteD (nes (show ("fill" : Str) ≠ "drop" by decide +kernel)) (iteF ⟨_, rfl, (by show 2 ≤ sizeLine; decide), fun t2 nt2 => ⟨t2, _, rfl, .inr (sqT_of upd_same), rfl, rfl, _, rfl, iteT ?_⟩⟩)⟩)⟩
      have s2 := same_new (o := .tup [V.str "default", .str "fill"]) nt2
      have tv : ∃ ty, ∀ H : Hp, TyX K H (.int v) (.type ty) := ⟨_, fun _ => .base (.int v)⟩
      obtain ⟨ty, tv⟩ := tv
      refine ⟨_, rfl, t, _, 2, _, rfl, rfl, same_tup s2 ht, i2, _, rfl, a, _, dx, _, _, rfl, s2 _ _ hat, cl_Column T, na_Column_greatest T, colFs_greatest, (.int v), e.top, ty, rfl, tv _, _, rfl, ?_⟩
      cases hi : isIn e.top (.int v) with
      | true => exact iteF (nxt ⟨_, rfl, rfl, _, rfl, iteD (nes (show ("fill" : Str) ≠ "greatest" by decide +kernel)) (iteF (nxt (kn _ (by simp only [hindV, hx']; rw [if_pos hi]) _ s2)))⟩)
      | false => exact iteT (kn _ (by simp only [hindV, hx']; rw [if_neg (by rw [hi]; decide)]) _ s2)
    | great n g way =>
      refine ⟨_, rfl, rfl, _, rfl, iteD (nes (show ("greatest" : Str) ≠ "add" by decide +kernel)) ⟨_, rfl, rfl, _, rfl, ?_⟩⟩
      rcases hx with ⟨rfl, hx⟩ | ⟨i, a, e, rfl, hia, hie, hx⟩
      · have hx' : cs.find? (isN n) = none := hx
        exact iteDT rfl (kn _ (by simp only [hindV, hx']) H (Same.refl _))
      have hx' : cs.find? (isN n) = some e := hx
      obtain ⟨e2, he2, dx, hat⟩ := hc.at_ hia
      obtain rfl : e = e2 := Option.some.inj (hie.symm.trans he2)
      have hde := hd e (List.mem_of_getElem? hie)
      refine iteD (nn a) ⟨_, rfl, rfl, _, rfl, iteD (nes (show ("greatest" : Str) ≠ "rename" by decide +kernel)) (iteF ⟨_, rfl, rfl, _, rfl, iteD (nes (show ("greatest" : Str) ≠ "drop" by decide +kernel)) (iteF ⟨_, rfl, (by show 2 ≤ sizeLine; decide), fun t2 nt2 => ⟨t2, _, rfl, .inr (sqT_of upd_same), rfl, rfl, _, rfl, iteF (iteF ?_)⟩⟩)⟩)⟩
      have s2 := same_new (o := .tup [V.str "default", .str "fill"]) nt2
      refine ⟨_, rfl, rfl, _, rfl, iteDT rfl ⟨_, rfl, _, rfl, _, rfl, a, _, dx, _, _, rfl, s2 _ _ hat, cl_Column T, na_Column_default T, colFs_default, a, t, e.name, e.top, e.num, e.dflt, e.dflt, .great n g way, rfl, ⟨dx, s2 _ _ hat⟩, same_tup s2 ht, hde, chg_scal hde, _, rfl, ?_⟩⟩
      by_cases hm : chgV e.name (.great n g way) e.dflt = .str "missing"
      · exact iteDT hm (kn _ (by simp only [hindV, hx']; rw [if_pos hm]) _ s2)
      · exact iteD hm (nxt (kn _ (by simp only [hindV, hx']; rw [if_neg hm]) _ s2))
/-! why_not, at what is a change -/
theorem ok_why_not (T : Tx K mg) : Callee P w K mg base CX0 6 "why_not_changes" ["columns", "change"] [] (sp_hindrance K) := by
  have C1 := ok_is_change (P := P) (w := w) (base := base) T
  have C2 := ok_hindrance (P := P) (w := w) (base := base) T
  refine mkCallee (fd_why_not_changes T) (mg_why_not_changes T) sc_why_not_changes (fun _ _ _ _ _ _ us hl => match us, hl with | [_, _], _ => rfl) (fun vs H Q E h => ?_) (fun cdv A outer s H vs Q E hr h => ?_)
  · obtain ⟨l, t, as, cs, c, rfl, _⟩ := h
    rfl
  · obtain ⟨l, t, as, cs, c, rfl, hl, hc, hd, ht, hf, k⟩ := h
    refine ⟨_, pss_cons (ps_if (pt_not (pt_val (pcall C1 hr (pa_cons (pv 1) pa_nil)))) (pss_one ps_never) pss_nil) (pss_one (ps_ret (pcall C2 hr (pa_cons (pv 0) (pa_cons (pv 1) pa_nil))))), ?_⟩
    refine ⟨_, rfl, t, c, rfl, ht, hf, fun H1 s1 => ⟨_, rfl, iteF ⟨_, rfl, _, rfl, l, t, as, cs, c, rfl, ?_, hc.keep s1, hd, ht.keep s1, hf, fun H' s' => k H' (s1.trans s')⟩⟩⟩
    exact hl.imp (fun h => s1.seq h) (fun h => same_tup s1 h)
/-! columns_behind -/
/-- the columns behind a change -/
def behind (cs : List Col) (ch : Ch) (num : Int) : List Col := match ch with
  | .add n g d => cs ++ [⟨n, g, d, num⟩]
  | .drop n => cs.filter fun c => !decide (c.name = n)
  | ch => cs.map fun c => if c.name = ch.name then chgC c ch else c
theorem Cols.all {K : PySem.W.Frag} {H : Hp} : ∀ {as : List Addr} {cs : List Col}, as.length = cs.length → (∀ (i : Nat) (a : Addr) (c : Col), as[i]? = some a → cs[i]? = some c → ColA K H a c) → Cols K H as cs
  | [], [], _, _ => .nil
  | [], _ :: _, h, _ => by cases h
  | _ :: _, [], h, _ => by cases h
  | a :: as, c :: cs, h, f => .cons (f 0 a c rfl rfl) (Cols.all (Nat.succ.inj h) fun i a' c' h1 h2 => f (i + 1) a' c' (by simpa using h1) (by simpa using h2))
theorem Cols.two {K : PySem.W.Frag} {H : Hp} {as : List Addr} {cs : List Col} {i : Nat} {a : Addr} {c : Col} (h : Cols K H as cs) (h1 : as[i]? = some a) (h2 : cs[i]? = some c) : ColA K H a c := by
  obtain ⟨c', e, q⟩ := h.at_ h1
  obtain rfl : c = c' := Option.some.inj (h2.symm.trans e)
  exact q
theorem Cols.app {K : PySem.W.Frag} {H : Hp} : ∀ {as bs : List Addr} {cs ds : List Col}, Cols K H as cs → Cols K H bs ds → Cols K H (as ++ bs) (cs ++ ds)
  | _, _, _, _, .nil, h => h
  | _, _, _, _, .cons h t, q => .cons h (t.app q)
/-- the addresses whose columns pass -/
def keepA (f : Col → Bool) : List Addr → List Col → List Addr
  | a :: as, c :: cs => if f c = true then a :: keepA f as cs else keepA f as cs
  | _, _ => []
theorem Cols.filter {K : PySem.W.Frag} {H : Hp} (f : Col → Bool) : ∀ {as : List Addr} {cs : List Col}, Cols K H as cs → Cols K H (keepA f as cs) (cs.filter f)
  | _, _, .nil => .nil
  | _, _, .cons (c := c) h t => by
    have ih := t.filter f
    unfold keepA
    rw [List.filter_cons]
    split
    · exact .cons h ih
    · exact ih
def sp_columns_behind (K : PySem.W.Frag) : Sp := fun vs H Q _ => ∃ (l t : Addr) (as : List Addr) (cs : List Col) (ch : Ch) (num : Int), vs = [.ref l, .ref t, .int num] ∧ SqL K H l (as.map V.ref) ∧ Cols K H as cs ∧ ChAt K H t ch ∧ as.length ≤ 1000 ∧ 0 ≤ num ∧
  (∀ c ∈ cs, ColOk c) ∧ (∀ c ∈ behind cs ch num, ColOk c) ∧ ∀ (l' : Addr) (as' : List Addr) (H' : Hp), H l' = none → Same H H' → H' l' = some (.lst (as'.map V.ref)) → Cols K H' as' (behind cs ch num) → Q (.ref l') H'
/-- the addresses among what a comprehension over the columns keeps -/
theorem keep_map {K : PySem.W.Frag} {H : Hp} (f : Col → Bool) (g : V → Bool) : ∀ {as : List Addr} {cs : List Col}, Cols K H as cs → (∀ a c, ColA K H a c → a ∈ as → g (.ref a) = f c) → ((as.map V.ref).filter g).map (fun x => x) = (keepA f as cs).map V.ref
  | _, _, .nil, _ => rfl
  | _, _, .cons (a := a) (c := c) h t, q => by
    have ih := keep_map f g t fun a' c' h' hm => q a' c' h' (List.mem_cons_of_mem _ hm)
    have e := q a c h List.mem_cons_self
    rw [List.map_id'] at ih ⊢
    unfold keepA
    rw [List.map_cons, List.filter_cons, e]
    split
    · rw [List.map_cons, ih]
    · exact ih
open Classical in
noncomputable def drF (K : PySem.W.Frag) (H : Hp) (n : Str) (x : V) : Bool := decide (∃ a c, x = .ref a ∧ ColA K H a c ∧ ¬ c.name = n)
theorem ColA.name_ {K : PySem.W.Frag} {H : Hp} {a : Addr} {c c' : Col} (h : ColA K H a c) (h' : ColA K H a c') : c.name = c'.name := by
  obtain ⟨dx, h⟩ := h
  obtain ⟨dx', h'⟩ := h'
  rw [h] at h'
  have e := (HO.ins.inj (Option.some.inj h')).2.2
  unfold colFs at e
  exact V.str.inj (congrArg Prod.snd (List.cons.inj e).1)
open Classical in
theorem drF_eq {K : PySem.W.Frag} {H : Hp} {n : Str} {a : Addr} {c : Col} (h : ColA K H a c) : drF K H n (.ref a) = !decide (c.name = n) := by
  unfold drF
  by_cases e : c.name = n
  · rw [decide_eq_true e, decide_eq_false]
    · rfl
    · rintro ⟨a', c', e', h', ne⟩
      cases e'
      exact ne ((h'.name_ h).trans e)
  · rw [decide_eq_false e, decide_eq_true]
    · rfl
    · exact ⟨a, c, rfl, h, e⟩
theorem Cols.of_vs {K : PySem.W.Frag} {H : Hp} : ∀ {ys : List V} {cs : List Col}, ys.length = cs.length → (∀ (i : Nat) (y : V), ys[i]? = some y → ∃ a c, y = .ref a ∧ cs[i]? = some c ∧ ColA K H a c) → ∃ as, ys = as.map V.ref ∧ Cols K H as cs
  | [], [], _, _ => ⟨[], rfl, .nil⟩
  | [], _ :: _, h, _ => by cases h
  | _ :: _, [], h, _ => by cases h
  | y :: ys, c :: cs, h, f => by
    obtain ⟨a, c', rfl, e, hc⟩ := f 0 y rfl
    obtain rfl : c = c' := Option.some.inj e
    obtain ⟨as, rfl, ht⟩ := Cols.of_vs (ys := ys) (cs := cs) (Nat.succ.inj h) fun i y' h1 => f (i + 1) y' (by simpa using h1)
    exact ⟨a :: as, rfl, .cons hc ht⟩
theorem ok_columns_behind (T : Tx K mg) : Callee P w K mg base CX0 8 "columns_behind" ["columns", "change", "number"] [] (sp_columns_behind K) := by
  have C1 := ok_changed_column (P := P) (w := w) (base := base) T
  obtain ⟨fdI, GI, FI⟩ := ok_Col_init (P := P) (w := w) (base := base) T
  obtain ⟨_, _, kb⟩ := kbinds_Col T FI
  have cl := cl_Column T
  refine mkCallee (fd_columns_behind T) (mg_columns_behind T) sc_columns_behind (fun _ _ _ _ _ _ us hl => match us, hl with | [_, _, _], _ => rfl) (fun vs H Q E h => ?_) (fun cdv A outer s H vs Q E hr h => ?_)
  · obtain ⟨l, t, as, cs, ch, num, rfl, _⟩ := h
    rfl
  · obtain ⟨l, t, as, cs, ch, num, rfl, hl, hc, ht, hlen, hnum, okc, okb, k⟩ := h
    have nd := sc_columns_behind.nd
    refine ⟨_, pss_cons (ps_set (i := 3) nd rfl (Or.inl rfl) (pe_ix ix_tup (pv 1) pe_int (fun _ _ => rfl)))
      (pss_cons (ps_set (i := 4) nd rfl (Or.inr rfl) (pe_ix ix_tup (pv 1) pe_int (fun _ _ => rfl)))
      (pss_cons (ps_if (pt_cmpR op_eq (pv 3) pe_str (nomark _)) (pss_one (ps_ret (pe_op op_cat (pe_callTy call_list_of (by rfl) (fr_list T) (by decide +kernel) (pa_cons (pv 0) pa_nil))
          (pe_lst (pa_cons (pe_makeK (mk_Column T) GI (hr.mono (by decide)) (by rfl) (mg_Column T) kb pass0 (pa_cons (pv 4) (pa_cons (pe_ix ix_tup (pv 1) pe_int (fun _ _ => rfl)) (pa_cons (pe_ix ix_tup (pv 1) pe_int (fun _ _ => rfl)) pa_nil))) (pk_cons (pv 2) pk_nil)) pa_nil))))) pss_nil)
      (pss_cons (ps_if (pt_cmpR op_eq (pv 3) pe_str (nomark _)) (pss_one (ps_ret (pe_lc (own := [("column", 5)]) (g := gName 5) (tt := tTest (tOp rNe (tFld K (tVar 5) "name") (tVar 4))) (te := tVar 5) rfl nd (pi_list (pv 0)) (blkOk_by (N := ["columns", "change", "number", "kind", "name", "column"]) (sc := defScope s_columns_behind) (by decide +kernel))
          (fun _ _ _ _ _ => pg_name (i := 5) nd rfl (Or.inl rfl)) (fun _ _ _ _ _ => pts_one (pt_cmpR op_ne (pe_fld (pv 5) rfl) (pv 4) (nomark _))) (fun _ _ _ _ _ => pv 5)))) pss_nil)
      (pss_one (ps_ret (pe_lc (own := [("column", 5)]) (g := gName 5) (tt := tYes) (te := tIf (tTest (tOp rEq (tFld K (tVar 5) "name") (tVar 4))) (tCall (sp_changed_column K) [] E0 (tCons (tVar 5) (tCons (tVar 1) tNil))) (tVar 5)) rfl nd (pi_list (pv 0)) (blkOk_by (N := ["columns", "change", "number", "kind", "name", "column"]) (sc := defScope s_columns_behind) (by decide +kernel))
          (fun _ _ _ _ _ => pg_name (i := 5) nd rfl (Or.inl rfl)) (fun _ _ _ _ _ => pts_nil) (fun _ _ _ _ _ => pe_ifExp (pt_cmpR op_eq (pe_fld (pv 5) rfl) (pv 4) (nomark _)) (pcall C1 hr (pa_cons (pv 5) (pa_cons (pv 1) pa_nil))) (pv 5)))))))), ?_⟩
    refine ⟨_, rfl, t, _, 0, _, rfl, rfl, ht, ch.at0, ?_⟩
    refine ⟨_, rfl, t, _, 1, _, rfl, rfl, ht, ch.at1, ?_⟩
    refine ⟨_, rfl, rfl, _, rfl, ?_⟩
    have other : ∀ ch' : Ch, ch' = ch → behind cs ch' num = cs.map (fun c => if c.name = ch'.name then chgC c ch' else c) → tRet (tLc (iList K (tVar 0)) (gName 5) tYes (tIf (tTest (tOp rEq (tFld K (tVar 5) "name") (tVar 4))) (tCall (sp_changed_column K) [] E0 (tCons (tVar 5) (tCons (tVar 1) tNil))) (tVar 5)) (List.map (fun x => x.2) [(("column" : Str), 5)]))
        { nx := fun _ H' => Q V.non H', rt := Q } [some (.ref l), some (.ref t), some (.int num), some (.str ch'.kind), some (.str ch'.name), none] H := fun ch' e0 e1 => by
      subst e0
      refine tlc_G (fun i y H' => ∃ a c, y = .ref a ∧ (behind cs ch' num)[i]? = some c ∧ ColA K H' a c) (fun i y H1 H2 s2 ⟨a, c, h1, h2, h3⟩ => ⟨a, c, h1, h2, h3.keepNL s2⟩) (fun R h => ⟨_, rfl, h l H (Same.refl _) hl⟩) (by rw [List.length_map]; omega) (fun _ => rfl) ?_ ?_
      · intro i x hx H1 s1 R hR
        rw [List.getElem?_map] at hx
        cases ha : as[i]? with
        | none =>
          rw [ha] at hx
          cases hx
        | some a =>
          rw [ha] at hx
          obtain rfl := Option.some.inj hx
          obtain ⟨c, hci, dx, hat⟩ := hc.at_ ha
          have hb : (behind cs ch' num)[i]? = some (if c.name = ch'.name then chgC c ch' else c) := by rw [e1, List.getElem?_map, hci]; rfl
          refine ⟨_, rfl, a, _, dx, _, _, rfl, s1 _ _ hat, cl, na_Column_name T, colFs_name, _, rfl, rfl, _, rfl, ?_⟩
          by_cases e : c.name = ch'.name
          · rw [if_pos e] at hb
            rw [decide_eq_true (show V.str c.name = V.str ch'.name by rw [e])]
            exact iteT ⟨_, rfl, _, rfl, a, t, c, ch', rfl, ⟨dx, s1 _ _ hat⟩, ht.keep s1, okc _ (List.mem_of_getElem? hci), okb _ (List.mem_of_getElem? hb), fun a' H2 s2 h2 => hR _ _ s2 ⟨a', _, rfl, hb, h2⟩⟩
          · rw [if_neg e] at hb
            rw [decide_eq_false (fun z => e (V.str.inj z))]
            exact iteF ⟨_, rfl, hR _ _ (Same.refl _) ⟨a, _, rfl, hb, dx, s1 _ _ hat⟩⟩
      · intro D ys H' nD s' hD hlen' hy
        obtain ⟨as', rfl, hcs⟩ := Cols.of_vs (by rw [hlen', List.length_map, hc.len, e1, List.length_map]) hy
        exact k D as' H' nD s' hD hcs
    cases ch with
    | add n g d =>
      have i2 : atI (Ch.add n g d).toV 2 = some (.int g) := rfl
      have i3 : atI (Ch.add n g d).toV 3 = some d := rfl
      have okn : ColOk ⟨n, g, d, num⟩ := okb _ (List.mem_append_right _ (List.mem_singleton.mpr rfl))
      refine iteDT rfl ⟨_, rfl, l, _, rfl, .inl hl, fun p np => ?_⟩
      have s1 : Same H (upd H p (.lst (as.map V.ref))) := same_new np
      have hp : upd H p (.lst (as.map V.ref)) p = some (.lst (as.map V.ref)) := upd_same
      generalize upd H p (.lst (as.map V.ref)) = H1 at s1 hp ⊢
      refine ⟨_, rfl, _, rfl, t, _, 2, _, rfl, rfl, ht.keep s1, i2, _, rfl, t, _, 3, _, rfl, rfl, ht.keep s1, i3, _, rfl, rfl, rfl, fun x dx2 nx ndx ndc => ?_⟩
      refine ⟨x, dx2, n, g, num, d, rfl, upd_same, okn.nm, okn.gr, okn.df, okn.nu, fun H4 hc4 k4 => ⟨rfl, ?_⟩⟩
      have s4 : Same H1 H4 := fun b o e => k4 b o (ne_of_none e nx) (by rw [upd_ne (ne_of_none e nx), upd_ne (ne_of_none e ndx)]; exact e)
      refine ⟨by show 1 ≤ sizeLine; decide, fun q nq => ⟨p, q, as.map V.ref, [.ref x], rfl, rfl, ?_, upd_same, ?_, fun l' nl' => ?_⟩⟩
      · exact same_new nq _ _ (s4 _ _ hp)
      · rw [List.length_map]
        exact Nat.le_trans (Nat.add_le_add_right hlen 1) (by decide)
      · have s5 : Same H (upd (upd H4 q (.lst [.ref x])) l' (.lst (as.map V.ref ++ [.ref x]))) := s1.trans (s4.trans ((same_new nq).trans (same_new nl')))
        refine k l' (as ++ [x]) _ ?_ s5 (by rw [List.map_append]; exact upd_same) ((hc.keep s5).app (.cons (ColAt.keep ((same_new nq).trans (same_new nl')) hc4) .nil))
        cases h0 : H l' with
        | none => rfl
        | some o => exact absurd ((s1.trans (s4.trans (same_new nq))) _ _ h0) (by rw [nl']; intro z; cases z)
    | drop n =>
      refine iteD (nes (show ("drop" : Str) ≠ "add" by decide +kernel)) ⟨_, rfl, rfl, _, rfl, iteDT rfl ?_⟩
      refine tlc_L (drF K H n) (fun x => x) (fun R h => ⟨_, rfl, h l H (Same.refl _) hl⟩) (by rw [List.length_map]; omega) (fun _ => rfl) ?_ (fun x _ _ H1 _ R h => ⟨_, rfl, h H1 (Same.refl _)⟩) ?_
      · intro x hx H1 s1 R hR
        obtain ⟨a, ha, rfl⟩ := List.mem_map.mp hx
        obtain ⟨i, hi⟩ := List.mem_iff_getElem?.mp ha
        obtain ⟨c, hc1, dx, hat⟩ := hc.at_ hi
        rw [drF_eq (c := c) ⟨dx, hat⟩] at hR
        have e : decide (V.str c.name = V.str n) = decide (c.name = n) := by
          by_cases e : c.name = n
          · rw [decide_eq_true e, decide_eq_true (by rw [e])]
          · rw [decide_eq_false e, decide_eq_false (fun z => e (V.str.inj z))]
        rw [← e] at hR
        exact ⟨_, rfl, a, _, dx, _, _, rfl, s1 _ _ hat, cl, na_Column_name T, colFs_name, _, rfl, rfl, _, rfl, hR _ (Same.refl _)⟩
      · intro D H' nD s' hD
        rw [keep_map (fun c => !decide (c.name = n)) (drF K H n) hc fun a c h _ => drF_eq h] at hD
        exact k D _ H' nD s' hD ((hc.keep s').filter _)
    | rename n m =>
      exact iteD (nes (show ("rename" : Str) ≠ "add" by decide +kernel)) ⟨_, rfl, rfl, _, rfl, iteD (nes (show ("rename" : Str) ≠ "drop" by decide +kernel)) (other _ rfl rfl)⟩
    | great n g way =>
      exact iteD (nes (show ("greatest" : Str) ≠ "add" by decide +kernel)) ⟨_, rfl, rfl, _, rfl, iteD (nes (show ("greatest" : Str) ≠ "drop" by decide +kernel)) (other _ rfl rfl)⟩
    | dflt n v =>
      exact iteD (nes (show ("default" : Str) ≠ "add" by decide +kernel)) ⟨_, rfl, rfl, _, rfl, iteD (nes (show ("default" : Str) ≠ "drop" by decide +kernel)) (other _ rfl rfl)⟩
    | fill n v =>
      exact iteD (nes (show ("fill" : Str) ≠ "add" by decide +kernel)) ⟨_, rfl, rfl, _, rfl, iteD (nes (show ("fill" : Str) ≠ "drop" by decide +kernel)) (other _ rfl rfl)⟩
/-! births -/
/-- the lists at the addresses es hold the columns eds -/
inductive Eds (K : PySem.W.Frag) (H : Hp) : List Addr → List (List Col) → Prop
  | nil : Eds K H [] []
  | cons {e : Addr} {es : List Addr} {cs : List Col} {eds : List (List Col)} (as : List Addr) : H e = some (.lst (as.map V.ref)) → Cols K H as cs → Eds K H es eds → Eds K H (e :: es) (cs :: eds)
theorem Eds.keep {K : PySem.W.Frag} {H H' : Hp} (s : Same H H') : ∀ {es : List Addr} {eds : List (List Col)}, Eds K H es eds → Eds K H' es eds
  | _, _, .nil => .nil
  | _, _, .cons as h c t => .cons as (s _ _ h) (c.keep s) (t.keep s)
theorem Eds.len {K : PySem.W.Frag} {H : Hp} : ∀ {es : List Addr} {eds : List (List Col)}, Eds K H es eds → es.length = eds.length
  | _, _, .nil => rfl
  | _, _, .cons _ _ _ t => congrArg Nat.succ t.len
theorem Eds.at_ {K : PySem.W.Frag} {H : Hp} : ∀ {es : List Addr} {eds : List (List Col)} {i : Nat} {e : Addr}, Eds K H es eds → es[i]? = some e → ∃ cs as, eds[i]? = some cs ∧ H e = some (.lst (as.map V.ref)) ∧ Cols K H as cs
  | _, _, _, _, .nil, e => by simp at e
  | _, _, 0, _, .cons as h c t, e => by
    simp at e
    subst e
    exact ⟨_, as, rfl, h, c⟩
  | _, _, i + 1, a, .cons as h c t, e => by
    obtain ⟨cs, as', h1, h2⟩ := Eds.at_ (i := i) (e := a) t (by simpa using e)
    exact ⟨cs, as', by simpa using h1, h2⟩
theorem Eds.snoc {K : PySem.W.Frag} {H : Hp} {e : Addr} {as : List Addr} {cs : List Col} (h : H e = some (.lst (as.map V.ref))) (c : Cols K H as cs) : ∀ {es : List Addr} {eds : List (List Col)}, Eds K H es eds → Eds K H (es ++ [e]) (eds ++ [cs])
  | _, _, .nil => .cons as h c .nil
  | _, _, .cons as' h' c' t => .cons as' h' c' (t.snoc h c)
/-- one column more: its edition is told where its number is the next one -/
def bornStep (i : Nat) (b : List Int) (c : Col) : List Int := if c.num = b.length then b ++ [(i : Int)] else b
theorem bornStep_pos {i : Nat} {b : List Int} {c : Col} (h : c.num = b.length) : bornStep i b c = b ++ [(i : Int)] := if_pos h
theorem bornStep_neg {i : Nat} {b : List Int} {c : Col} (h : ¬ c.num = b.length) : bornStep i b c = b := if_neg h
def bornTo (eds : List (List Col)) : Nat → List Int
  | 0 => []
  | i + 1 => (eds.getD i []).foldl (bornStep i) (bornTo eds i)
def bornOf (eds : List (List Col)) : List Int := bornTo eds eds.length
theorem bornStep_len (i : Nat) : ∀ (cs : List Col) (b : List Int), (cs.foldl (bornStep i) b).length ≤ b.length + cs.length
  | [], b => Nat.le_refl _
  | c :: cs, b => by
    refine Nat.le_trans (bornStep_len i cs _) ?_
    have : (bornStep i b c).length ≤ b.length + 1 := by
      unfold bornStep
      split
      · rw [List.length_append]; exact Nat.le_refl _
      · exact Nat.le_succ _
    rw [List.length_cons]
    omega
theorem bornTo_len {eds : List (List Col)} (h : ∀ cs ∈ eds, cs.length ≤ 1000) : ∀ i, (bornTo eds i).length ≤ 1000 * i
  | 0 => Nat.le_refl _
  | i + 1 => by
    have h1 := bornTo_len h i
    have h2 := bornStep_len i (eds.getD i []) (bornTo eds i)
    have h3 : (eds.getD i []).length ≤ 1000 := by
      rw [List.getD_eq_getElem?_getD]
      cases e : eds[i]? with
      | none => exact Nat.zero_le _
      | some cs => exact h cs (List.mem_of_getElem? e)
    show ((eds.getD i []).foldl (bornStep i) (bornTo eds i)).length ≤ _
    omega
def sp_births (K : PySem.W.Frag) : Sp := fun vs H Q _ => ∃ (l : Addr) (es : List Addr) (eds : List (List Col)), vs = [.ref l] ∧ H l = some (.lst (es.map V.ref)) ∧ Eds K H es eds ∧ eds.length ≤ 50 ∧ (∀ cs ∈ eds, cs.length ≤ 1000) ∧
  ∀ (p : Addr) (H' : Hp), H p = none → Same H H' → H' p = some (.lst ((bornOf eds).map V.int)) → Q (.ref p) H'
theorem ok_births (T : Tx K mg) : Callee P w K mg base CX0 1 "births" ["editions"] [] (sp_births K) := by
  refine mkCallee (fd_births T) (mg_births T) sc_births (fun _ _ _ _ _ _ us hl => match us, hl with | [_], _ => rfl) (fun vs H Q E h => ?_) (fun cdv A outer s H vs Q E hr h => ?_)
  · obtain ⟨l, es, eds, rfl, _⟩ := h
    rfl
  · obtain ⟨l, es, eds, rfl, hl, he, h50, hw, k⟩ := h
    have nd := sc_births.nd
    refine ⟨_, pss_cons (ps_set (i := 1) nd rfl (Or.inl rfl) (pe_lst pa_nil))
      (pss_cons (ps_for PassesOwn.never rfl (pi_enum (by rfl) (fr_enumerate T) (pa_cons (pv 0) pa_nil)) (pg_tup rfl (pgs_cons (pg_name (i := 2) nd rfl (Or.inl rfl)) (pgs_cons (pg_name (i := 3) nd rfl (Or.inl rfl)) pgs_nil)))
        (pss_one (ps_for PassesOwn.never rfl (pi_list (pv 3)) (pg_name (i := 4) nd rfl (Or.inl rfl)) (pss_one (ps_if (pt_cmpR op_eq (pe_fld (pv 4) rfl) (pe_callB call_len_seq (by rfl) (fr_len T) PySem.boot_len (pa_cons (pv 1) pa_nil)) (nomark _))
          (pss_one (ps_expr (pe_bm PySem.F.plainAttrs_list PySem.F.slot_list_append PySem.F.type_list_append mt_append (pv 1) (pa_cons (pv 2) pa_nil)))) pss_nil))))) (pss_one (ps_ret (pv 1)))), ?_⟩
    refine ⟨Nat.zero_le _, fun b nb => ⟨_, rfl, l, es.map V.ref, rfl, sqL_of (same_new nb _ _ hl), ?_⟩⟩
    have s0 : Same H (upd H b (.lst [])) := same_new nb
    refine for_it walk_enum (fun i σ H' => Same H H' ∧ H' b = some (.lst ((bornTo eds i).map V.int)) ∧ ∃ x y z, σ = [some (.ref l), some (.ref b), x, y, z]) ⟨s0, upd_same, _, _, _, rfl⟩ (fun i σ H' _ h => sqL_of (h.1 _ _ hl)) ?_ ?_
    · rintro i v σ H1 H2 hi ⟨s1, hb, x, y, z, rfl⟩ ⟨T1, x', y', rfl, nT, rfl, ex, ey⟩
      obtain rfl := Option.some.inj ex
      have ey : (es.map V.ref)[i]? = some y' := ey
      rw [List.getElem?_map] at ey
      cases hes : es[i]? with
      | none =>
        rw [hes] at ey
        cases ey
      | some e =>
        rw [hes] at ey
        obtain rfl := Option.some.inj ey
        obtain ⟨cs, as, hcs, hea, hc⟩ := he.at_ hes
        have hi50 : i < eds.length := (List.getElem?_eq_some_iff.mp hcs).1
        have hgd : eds.getD i [] = cs := by rw [List.getD_eq_getElem?_getD, hcs]; rfl
        have s2 : Same H (upd H1 T1 (.tup [.int (i : Nat), .ref e])) := s1.trans (same_new nT)
        have hb2 : upd H1 T1 (.tup [.int (i : Nat), .ref e]) b = some (.lst ((bornTo eds i).map V.int)) := same_new nT _ _ hb
        refine ⟨T1, _, rfl, sqT_of upd_same, rfl, _, _, rfl, _, _, rfl, rfl, ?_⟩
        generalize upd H1 T1 (.tup [.int (i : Nat), .ref e]) = H2 at s2 hb2 ⊢
        refine ⟨_, rfl, e, rfl, ⟨_, sqL_of (s2 _ _ hea)⟩, ?_⟩
        refine for_list (xs := as.map V.ref) (fun j σ H' => Same H H' ∧ H' b = some (.lst (((cs.take j).foldl (bornStep i) (bornTo eds i)).map V.int)) ∧ ∃ z, σ = [some (.ref l), some (.ref b), some (.int (i : Nat)), some (.ref e), z]) ⟨s2, hb2, _, rfl⟩ (fun j σ H' _ h => sqL_of (h.1 _ _ hea)) ?_ ?_
        · rintro j x σ H3 hx ⟨s3, hb3, z, rfl⟩
          rw [List.getElem?_map] at hx
          cases ha : as[j]? with
          | none =>
            rw [ha] at hx
            cases hx
          | some a =>
            rw [ha] at hx
            obtain rfl := Option.some.inj hx
            obtain ⟨c, hci, dx, hat⟩ := hc.at_ ha
            have et : cs.take (j + 1) = cs.take j ++ [c] := by rw [List.take_add_one, hci]; rfl
            have bl : ((cs.take j).foldl (bornStep i) (bornTo eds i)).length ≤ 100000 := by
              have h1 := bornTo_len hw i
              have h2 := bornStep_len i (cs.take j) (bornTo eds i)
              have h3 : (cs.take j).length ≤ 1000 := Nat.le_trans (List.length_take_le' _ _) (hw cs (List.mem_of_getElem? hcs))
              omega
            refine ⟨_, rfl, a, _, dx, _, _, rfl, s3 _ _ hat, cl_Column T, na_Column_number T, colFs_number, _, rfl, b, _, rfl, .inl (sqL_of hb3), rfl, _, rfl, ?_⟩
            rw [List.length_map]
            by_cases e2 : c.num = (((cs.take j).foldl (bornStep i) (bornTo eds i)).length : Int)
            · rw [decide_eq_true (show V.int c.num = V.int _ by rw [e2])]
              refine iteT ⟨_, rfl, .inl ⟨rfl, _, sqL_of hb3⟩, _, rfl, b, _, _, rfl, rfl, hb3, ?_, same_mut s3 nb, ?_, _, rfl⟩
              · rw [List.length_map]
                exact Nat.lt_of_le_of_lt bl (by decide)
              · rw [upd_same, et, List.foldl_append, List.foldl_cons, List.foldl_nil]
                rw [bornStep_pos e2, List.map_append]
                rfl
            · rw [decide_eq_false (fun z => e2 (V.int.inj z))]
              refine iteF ⟨s3, ?_, _, rfl⟩
              rw [hb3, et, List.foldl_append, List.foldl_cons, List.foldl_nil]
              rw [bornStep_neg e2]
        · rintro σ H3 ⟨s3, hb3, z, rfl⟩
          refine ⟨s3, ?_, _, _, _, rfl⟩
          rw [List.length_map, hc.len, List.take_length] at hb3
          rw [hb3]
          show _ = some (HO.lst (((eds.getD i []).foldl (bornStep i) (bornTo eds i)).map V.int))
          rw [hgd]
    · rintro σ H1 ⟨s1, hb, x, y, z, rfl⟩
      rw [List.length_map, he.len] at hb
      exact ⟨_, rfl, k b H1 nb s1 hb⟩
theorem inV_new {ns : List Str} {n : Str} (h : n ∉ ns) : inV (.str n) (ns.map V.str) = false := by
  unfold inV
  rw [List.any_eq_false]
  intro y hy
  obtain ⟨m, hm, rfl⟩ := List.mem_map.mp hy
  intro e
  exact h ((of_decide_eq_true (show decide (m = n) = true from e)) ▸ hm)

/-! numbered_columns, where all is well -/
def numb (cs : List Col) : List Col := cs.mapIdx fun i c => { c with num := (i : Nat) }
theorem colFs_changed {n : Str} {g : Int} {d : V} {k : Int} : (colFs n g d k).lookup ("changed" : Str) = none := by
  have g1 : (("changed" : Str) == "name") = false := by decide +kernel
  have g2 : (("changed" : Str) == "greatest") = false := by decide +kernel
  have g3 : (("changed" : Str) == "default") = false := by decide +kernel
  have g4 : (("changed" : Str) == "number") = false := by decide +kernel
  unfold colFs
  simp [List.lookup, g1, g2, g3, g4]
theorem flat_strs (ns : List Str) : (ns.map V.str).all flatV = true := by
  rw [List.all_eq_true]
  intro y hy
  obtain ⟨m, _, rfl⟩ := List.mem_map.mp hy
  rfl
def sp_numbered (K : PySem.W.Frag) : Sp := fun vs H Q _ => ∃ (l : Addr) (as : List Addr) (cs : List Col), vs = [.ref l] ∧ H l = some (.lst (as.map V.ref)) ∧ Cols K H as cs ∧ 1 ≤ cs.length ∧ cs.length ≤ 6 ∧ (cs.map (·.name)).Nodup ∧ (∀ c ∈ cs, ColOk c) ∧
  ∀ (l' : Addr) (as' : List Addr) (H' : Hp), H l' = none → Same H H' → H' l' = some (.lst (as'.map V.ref)) → Cols K H' as' (numb cs) → Q (.ref l') H'
theorem ok_numbered_columns (T : Tx K mg) : Callee P w K mg base CX0 7 "numbered_columns" ["columns"] [] (sp_numbered K) := by
  have C1 := (ok_is_list (P := P) (w := w) (base := base) T).up (show 1 ≤ 6 by decide)
  obtain ⟨fdC, GC, bC⟩ := ok_changed (P := P) (w := w) (base := base) T
  have cl := cl_Column T
  obtain ⟨tM, eM⟩ := mi_MOST_COLUMNS T
  refine mkCallee (fd_numbered_columns T) (mg_numbered_columns T) sc_numbered_columns (fun _ _ _ _ _ _ us hl => match us, hl with | [_], _ => rfl) (fun vs H Q E h => ?_) (fun cdv A outer s H vs Q E hr h => ?_)
  · obtain ⟨l, as, cs, rfl, _⟩ := h
    rfl
  · obtain ⟨l, as, cs, rfl, hl, hc, h1, h6, hnd, hok, k⟩ := h
    have nd := sc_numbered_columns.nd
    refine ⟨_, pss_cons (ps_if (PW.pt (pw_or (pt_not (pt_val (pcall C1 hr (pa_cons (pv 0) pa_nil)))) (pw_or1 (pt_cmpR op_eq (pe_callB call_len_seq (by rfl) (fr_len T) PySem.boot_len (pa_cons (pv 0) pa_nil)) pe_int (nomark _))))) (pss_one ps_never) pss_nil)
      (pss_cons (ps_set (i := 1) nd rfl (Or.inl rfl) (pe_lst pa_nil))
      (pss_cons (ps_for PassesOwn.never rfl (pi_enum (by rfl) (fr_enumerate T) (pa_cons (pv 0) pa_nil)) (pg_tup rfl (pgs_cons (pg_name (i := 2) nd rfl (Or.inl rfl)) (pgs_cons (pg_name (i := 3) nd rfl (Or.inl rfl)) pgs_nil)))
        (pss_cons (ps_if (PW.pt (pw_or (pt_not (pt_val (pe_callB (C8.call_isC (insC_of (ex_Column T) cl)) (by rfl) (fr_isinstance T) (by decide +kernel) (pa_cons (pv 3) (pa_cons (pe_glob (v := .ref (He.ga K "Column")) (by rfl) (mg_Column T) rfl) pa_nil))))) (pw_or1 (pt_cmpR op_in_seq (pe_fld (pv 3) rfl) (pv 1) (by rfl))))) (pss_one ps_never) pss_nil)
        (pss_one (ps_expr (pe_bm PySem.F.plainAttrs_list PySem.F.slot_list_append PySem.F.type_list_append mt_append (pv 1) (pa_cons (pe_fld (pv 3) rfl) pa_nil))))))
      (pss_cons (ps_if (pt_cmpR op_gt (pe_callB call_len_seq (by rfl) (fr_len T) PySem.boot_len (pa_cons (pv 0) pa_nil)) (pe_glob (v := .int 6) (by rfl) eM ⟨_, rfl⟩) (nomark _)) (pss_one ps_never) pss_nil)
      (pss_one (ps_ret (pe_lc (own := [("index", 2), ("column", 3)]) (g := gTup K 2 (gCons (gName 2) (gCons (gName 3) gNil))) (tt := tYes) (te := tMeth (He.ga K "Column") "changed" (sp_changed K) [] E0 (tVar 3) (tCons (tC (.str "number")) (tCons (tVar 2) tNil))) rfl nd (pi_enum (by rfl) (fr_enumerate T) (pa_cons (pv 0) pa_nil)) (blkOk_by (N := ["columns", "names", "index", "column"]) (sc := defScope s_numbered_columns) (by decide +kernel))
          (fun _ _ _ _ _ => pg_tup rfl (pgs_cons (pg_name (i := 2) nd rfl (Or.inl rfl)) (pgs_cons (pg_name (i := 3) nd rfl (Or.inl rfl)) pgs_nil))) (fun _ _ _ _ _ => pts_nil) (fun _ _ _ _ _ => pe_meth (pv 3) cl (me_Column_changed T) GC hr bC .nil pass0 (pa_cons pe_str (pa_cons (pv 2) pa_nil))))))))), ?_⟩
    refine ⟨_, rfl, l, _, rfl, sqL_of hl, fun H1 s1 => ⟨_, rfl, iteF ⟨_, rfl, l, _, rfl, .inl (sqL_of (s1 _ _ hl)), rfl, _, rfl, ?_⟩⟩⟩
    rw [List.length_map, hc.len, decide_eq_false (fun z => by have := V.int.inj z; omega)]
    refine iteF ⟨Nat.zero_le _, fun p np => ?_⟩
    have hp0 : H p = none := s1.free np
    have s2 : Same H (upd H1 p (.lst [])) := s1.trans (same_new np)
    have hp2 : upd H1 p (.lst []) p = some (.lst (((cs.map (·.name)).take 0).map V.str)) := upd_same
    generalize upd H1 p (.lst []) = H2 at s2 hp2 ⊢
    refine ⟨_, rfl, l, as.map V.ref, rfl, sqL_of (s2 _ _ hl), ?_⟩
    refine for_it walk_enum (fun i σ H' => Same H H' ∧ H' p = some (.lst (((cs.map (·.name)).take i).map V.str)) ∧ ∃ x y, σ = [some (.ref l), some (.ref p), x, y]) ⟨s2, hp2, _, _, rfl⟩ (fun i σ H' _ h => sqL_of (h.1 _ _ hl)) ?_ ?_
    · rintro i v σ H3 H4 hi ⟨s3, hp3, x, y, rfl⟩ ⟨T1, x', y', rfl, nT, rfl, ex, ey⟩
      obtain rfl := Option.some.inj ex
      have ey : (as.map V.ref)[i]? = some y' := ey
      rw [List.getElem?_map] at ey
      cases ha : as[i]? with
      | none =>
        rw [ha] at ey
        cases ey
      | some a =>
        rw [ha] at ey
        obtain rfl := Option.some.inj ey
        obtain ⟨c, hci, dx, hat⟩ := hc.at_ ha
        have s4 : Same H (upd H3 T1 (.tup [.int (i : Nat), .ref a])) := s3.trans (same_new nT)
        have hp4 : upd H3 T1 (.tup [.int (i : Nat), .ref a]) p = some (.lst (((cs.map (·.name)).take i).map V.str)) := same_new nT _ _ hp3
        refine ⟨T1, _, rfl, sqT_of upd_same, rfl, _, _, rfl, _, _, rfl, rfl, ?_⟩
        generalize upd H3 T1 (.tup [.int (i : Nat), .ref a]) = H4 at s4 hp4 ⊢
        have hni : (cs.map (·.name))[i]? = some c.name := by rw [List.getElem?_map, hci]; rfl
        have et : (cs.map (·.name)).take (i + 1) = (cs.map (·.name)).take i ++ [c.name] := by rw [List.take_add_one, hni]; rfl
        have hfresh : c.name ∉ (cs.map (·.name)).take i := fun hm => by
          have hnd2 : ((cs.map (·.name)).take (i + 1)).Nodup := hnd.sublist (List.take_sublist _ _)
          rw [et, List.nodup_append] at hnd2
          exact hnd2.2.2 _ hm _ (List.mem_singleton.mpr rfl) rfl
        refine ⟨_, rfl, a, dx, _, rfl, s4 _ _ hat, _, rfl, iteF ⟨_, rfl, a, _, dx, _, _, rfl, s4 _ _ hat, cl, na_Column_name T, colFs_name, _, rfl, p, _, rfl, .inl (sqL_of hp4), rfl, flat_strs _, _, rfl, ?_⟩⟩
        rw [show (if false = true then !inV (V.str c.name) (((cs.map (·.name)).take i).map V.str) else inV (V.str c.name) (((cs.map (·.name)).take i).map V.str)) = false from inV_new hfresh]
        refine iteF ⟨_, rfl, .inl ⟨rfl, _, sqL_of hp4⟩, _, rfl, a, _, dx, _, _, rfl, s4 _ _ hat, cl, na_Column_name T, colFs_name, p, _, _, rfl, rfl, hp4, ?_, same_mut s4 hp0, ?_, _, _, rfl⟩
        · rw [List.length_map]
          refine Nat.lt_of_le_of_lt (List.length_take_le' _ _) ?_
          rw [List.length_map]
          exact Nat.lt_of_le_of_lt h6 (by decide)
        · rw [upd_same, et, List.map_append]
          rfl
    · rintro σ H3 ⟨s3, hp3, x, y, rfl⟩
      refine ⟨_, rfl, l, _, rfl, .inl (sqL_of (s3 _ _ hl)), _, _, rfl, rfl, _, rfl, ?_⟩
      rw [List.length_map, hc.len, decide_eq_false (by omega)]
      refine iteF ?_
      show tLc (iEnum K (tCons (tVar 0) tNil)) (gTup K 2 (gCons (gName 2) (gCons (gName 3) gNil))) tYes (tMeth (He.ga K "Column") "changed" (sp_changed K) [] E0 (tVar 3) (tCons (tC (.str "number")) (tCons (tVar 2) tNil))) [2, 3] [some (.ref l), some (.ref p), x, y] H3 Q
      refine tlc_GE (K := K) (xs := as.map V.ref) (j1 := 2) (j2 := 3) (vs := [2, 3]) (Q := Q) (H := H3) (fun i y H' => ∃ a c, y = .ref a ∧ (numb cs)[i]? = some c ∧ ColA K H' a c) (fun i y H1 H2 s2 ⟨a, c, h1, h2, h3⟩ => ⟨a, c, h1, h2, h3.keepNL s2⟩) (fun R h => ⟨_, rfl, h l H3 (Same.refl _) (sqL_of (s3 _ _ hl))⟩) (by rw [List.length_map, hc.len]; omega) (fun _ _ => rfl) ?_ ?_
      · intro i x hx H4 s4 R hR
        rw [List.getElem?_map] at hx
        cases ha : as[i]? with
        | none =>
          rw [ha] at hx
          cases hx
        | some a =>
          rw [ha] at hx
          obtain rfl := Option.some.inj hx
          obtain ⟨c, hci, dx, hat⟩ := hc.at_ ha
          have ha4 := s4 _ _ (s3 _ _ hat)
          have ok := hok c (List.mem_of_getElem? hci)
          have hb : (numb cs)[i]? = some { c with num := (i : Nat) } := by
            unfold numb
            rw [List.getElem?_mapIdx, hci]
            rfl
          refine ⟨_, rfl, a, dx, _, rfl, ha4, colFs_changed, _, rfl, a, "number", c.name, c.name, c.top, c.num, c.top, (i : Nat), c.dflt, c.dflt, .int (i : Nat), rfl, ⟨dx, ha4⟩, ⟨.inr (.inr (.inr rfl)), ?_⟩, ok.nm, ok.gr, ok.df, by omega, fun a' H' _ s' h' => hR _ _ s' ⟨a', _, rfl, hb, h'⟩⟩
          rw [if_neg (show ¬ ("number" : Str) = "name" by decide +kernel), if_neg (show ¬ ("number" : Str) = "greatest" by decide +kernel), if_neg (show ¬ ("number" : Str) = "default" by decide +kernel)]
      · intro D ys H' nD s' hD hlen' hy
        obtain ⟨as', rfl, hcs⟩ := Cols.of_vs (by rw [hlen', List.length_map, hc.len]; unfold numb; rw [List.length_mapIdx]) hy
        exact k D as' H' (s3.free nD) (s3.trans s') hD hcs
-- needs: is_list
/-! enumerate(xs), xs a list or a tuple -/
def SqB (K : PySem.W.Frag) (b : Bool) (H : Hp) (a : Addr) (xs : List V) : Prop := match b with
  | false => SqL K H a xs
  | true => SqT K H a xs
theorem SqB.or {K : PySem.W.Frag} {b : Bool} {H : Hp} {a : Addr} {xs : List V} (h : SqB K b H a xs) : SqL K H a xs ∨ SqT K H a xs := by
  cases b with
  | false => exact .inl h
  | true => exact .inr h
theorem SqB.keep {K : PySem.W.Frag} {b : Bool} {H H' : Hp} {a : Addr} {xs : List V} (s : Same H H') (h : SqB K b H a xs) : SqB K b H' a xs := by
  cases b with
  | false => exact s.seq h
  | true => exact same_tup s h
/-- it stays while an instance is filled -/
theorem SqB.up {K : PySem.W.Frag} {b : Bool} {H H' : Hp} {p C dx a : Addr} {fs : List (Str × V)} {xs : List V} (u : ∀ b o, b ≠ p → H b = some o → H' b = some o) (hp : H p = some (.ins C dx fs)) (h : SqB K b H a xs) : SqB K b H' a xs := by
  cases b with
  | false =>
    rcases h with (h | ⟨o, h⟩) | h
    · exact .inl (.inl (u _ _ (fun z => by rw [z, hp] at h; cases h) h))
    · exact .inl (.inr ⟨o, u _ _ (fun z => by rw [z, hp] at h; cases h) h⟩)
    · exact .inr h
  | true =>
    rcases h with (h | ⟨o, h⟩) | h
    · exact .inl (.inl (u _ _ (fun z => by rw [z, hp] at h; cases h) h))
    · exact .inl (.inr ⟨o, u _ _ (fun z => by rw [z, hp] at h; cases h) h⟩)
    · exact .inr h
theorem emptyTupB_ok {K : PySem.W.Frag} {a : Addr} (h : emptyTupB K a = true) (H : Hp) : SqT K H a [] := by
  unfold emptyTupB at h
  cases q : K.lookup a with
  | none =>
    rw [q] at h
    cases h
  | some o =>
    obtain ⟨oc, od, dt, osl⟩ := o
    rw [q] at h
    cases oc with
    | type c =>
      cases dt with
      | seq its n =>
        have h : (decide (c = "tuple") && decide (its.size = 0)) = true := h
        obtain ⟨h1, h2⟩ := Bool.and_eq_true_iff.mp h
        have h1 : c = "tuple" := of_decide_eq_true h1
        have h2 : its.size = 0 := of_decide_eq_true h2
        subst h1
        have e : its = #[] := Array.eq_empty_of_size_eq_zero h2
        subst e
        exact .inr ⟨_, #[], n, q, rfl, rfl, Nat.zero_le _, .nil⟩
      | _ => cases h
    | _ => cases h
def Iteb (K : PySem.W.Frag) (b : Bool) (a : Addr) : It :=
  ⟨fun i H => ∃ (xs : List V) (x : V), SqB K b H a xs ∧ xs[i]? = some x, fun i H v H' => ∃ T x, v = .ref T ∧ H T = none ∧ H' = upd H T (.tup [.int (i : Nat), x]) ∧ ∀ xs, SqB K b H a xs → xs[i]? = some x, fun i H => ∃ xs : List V, SqB K b H a xs ∧ xs.length = i⟩
theorem turn_enumT {P : Program} {w : World} {K : PySem.W.Frag} {elts : List Expr} {kk : Nat} {tpos : Pos} (a e it : Addr) :
    Turn P w K (.Tuple elts kk tpos) (Iteb K true a) [e, it] e (fun i h => (∃ old, IsEnum h e it ((i : Nat) : Int) old) ∧ h.IsTupleIter it a i ∧ e ≠ it) where
  mem := by simp
  obj := fun i h st b hb => by
    obtain ⟨⟨old, he⟩, ⟨o, ho, hc, hd⟩, _⟩ := st
    have e' : b = e ∨ b = it := by simpa using hb
    rcases e' with z | z
    · rw [z]; exact ⟨_, he, fun v q => nomatch q⟩
    · rw [z]; exact ⟨o, ho, fun v q => by rw [hd] at q; cases q⟩
  keep := fun i h h' st kp => let ⟨⟨old, he⟩, hi, hne⟩ := st; ⟨⟨old, kp e (by simp) _ he⟩, hi.at fun o q => kp it (by simp) o q, hne⟩
  item := by
    intro X hP hw hK hc i pins s σ H E I hf st hg
    subst hP hw hK
    obtain ⟨⟨old, he⟩, hit, hne⟩ := st
    obtain ⟨xs, x, hq, hx⟩ := hg
    have hq : SqT X.K H a xs := hq
    obtain ⟨its, rv, p, hz⟩ := I.tuple hq
    have hTup : s.heap.IsTuple a its.toArray := p
    obtain ⟨u, hu, ru⟩ := rv.get hx
    have hel : e < s.heap.objs.size := Heap.lt_size he
    have hil : it < s.heap.objs.size := by obtain ⟨_, q, _⟩ := hit; exact Heap.lt_size q
    have apart : ∀ b o, s.heap.get? b = some o → (∀ q : Value, o.cls = q → q ≠ .type "tuple") → b ≠ a := fun b o h1 h2 z => by
      obtain ⟨o1, q1, q2, _⟩ := hTup
      rw [← z, h1] at q1
      exact h2 _ rfl (by rw [Option.some.inj q1]; exact q2)
    have hea : e ≠ a := apart e _ he fun q e1 e2 => by rw [← e1] at e2; exact absurd (Value.type.inj e2) (by decide)
    have hai : it ≠ a := by
      obtain ⟨o, q1, q2, q3⟩ := hit
      exact apart it o q1 fun q e1 e2 => by rw [← e1, q2] at e2; exact absurd (Value.type.inj e2) (by decide)
    have hsz : i < its.toArray.size := (Array.getElem?_eq_some_iff.mp (show its.toArray[i]? = some u by simpa using hu)).1
    refine wpAny_pyNext_enum_itemC (c := (i : Nat)) (Draws.tuple (A := X.A.in1) (I.ok.hd hc) it a hai.symm its.toArray) he ⟨hit, hTup⟩ hsz hne (by simp [hne, hea]) fun x' h' tk hx' ho ⟨hit', _⟩ hT hsz hk => ?_
    obtain rfl : u = x' := Option.some.inj ((show its.toArray[i]? = some u by simpa using hu).symm.trans hx')
    refine ⟨_, rfl, wpAny_letOwnedTupleGo_enum (s := { s with heap := h', toks := tk + 1 }) ho fun h'' he' sb => ?_⟩
    have hT2 : h''.get? s.heap.objs.size = some { cls := .type "tuple", data := .seq #[.int ((i : Nat)) tk, u] } := (sb.2 _ (Nat.ne_of_gt hel)).trans hT
    have new : ObjOk X.prog X.w (upd H s.heap.objs.size (.tup [.int ((i : Nat)), x])) h'' s.heap.objs.size (.tup [.int ((i : Nat)), x]) :=
      ⟨by show 2 ≤ sizeLine; decide, [.int ((i : Nat)) tk, u], .cons ⟨_, rfl⟩ (.cons ru .nil), ⟨_, hT2, rfl, _, rfl⟩⟩
    have I1 : Inv X pins σ (upd H s.heap.objs.size (.tup [.int ((i : Nat)), x])) { s with heap := h'', toks := tk + 1 } :=
      I.turnedNew (ch := [e, it]) (fun b ob hb q => (sb.2 b (fun z => hb (by simp [z]))).trans (hk b ob (fun z => hb (by simp [z])) (fun z => hb (by simp [z])) q)) hf (Nat.le_refl _) new
    refine ⟨.ref s.heap.objs.size, _, I1, rfl, ⟨_, x, rfl, I.hok.fresh (Nat.le_refl _), rfl, fun ys hy => by rw [I.tuple_inj (show SqT X.K H a ys from hy) hq]; exact hx⟩, ⟨⟨u, ?_⟩, hit'.at fun o q => (sb.2 it (Ne.symm hne)).trans q, hne⟩, fun b hb => ?_⟩
    · have e1 : ((i + 1 : Nat) : Int) = (i : Int) + 1 := by omega
      rw [e1]; exact he'
    · have hb' : b < s.heap.objs.size := by
        have e' : b = e ∨ b = it := by simpa using hb
        rcases e' with z | z
        · rw [z]; exact hel
        · rw [z]; exact hil
      rw [upd_ne (Nat.ne_of_lt hb')]
      exact (hf b hb).1
  done := by
    intro X hP hw hK hc i pins s σ H E I hf st hg
    subst hP hw hK
    obtain ⟨⟨old, he⟩, hit, hne⟩ := st
    obtain ⟨xs, hq, hx⟩ := hg
    have hq : SqT X.K H a xs := hq
    obtain ⟨its, rv, p, hz⟩ := I.tuple hq
    have hTup : s.heap.IsTuple a its.toArray := p
    obtain ⟨f0, f1, f2, f3, f4, f5⟩ := hf it (by simp)
    have hl := rv.length
    have hai : it ≠ a := by
      obtain ⟨o, q1, q2, q3⟩ := hit
      obtain ⟨o1, r1, r2, _⟩ := hTup
      intro z
      rw [z, r1] at q1
      rw [← Option.some.inj q1, r2] at q2
      exact absurd (Value.type.inj q2) (by decide)
    have hn : its.toArray.size = i := by simp; omega
    exact wpAny_pyNext_enum_endD (Draws.tuple (A := X.A.in1) (I.ok.hd hc) it a hai.symm its.toArray) he ⟨by rw [hn]; exact hit, hTup⟩ fun h' eb => ⟨rfl, I.turned (t' := s.toks) (fun b o hb q => eb b o hb q) f0 f1 f3 f4 f5⟩
  self := fun A i s Q E st h => let ⟨⟨_, he⟩, _⟩ := st; wpAny_pyIter_enum he h
theorem turn_enumF {P : Program} {w : World} {K : PySem.W.Frag} {elts : List Expr} {kk : Nat} {tpos : Pos} (a e it : Addr) :
    Turn P w K (.Tuple elts kk tpos) (Iteb K false a) [e, it] e (fun i h => (∃ old, IsEnum h e it ((i : Nat) : Int) old) ∧ h.IsListIter it a i ∧ e ≠ it) :=
  have t := turn_enum (P := P) (w := w) (K := K) (elts := elts) (kk := kk) (tpos := tpos) a e it
  { mem := t.mem, obj := t.obj, keep := t.keep, item := t.item, self := t.self, done := fun X hP hw hK hc i pins s σ H E I hf st hg => t.done X hP hw hK hc i pins s σ H E I hf st (by
      obtain ⟨xs, h1, h2⟩ := hg
      exact ⟨xs, h1, Nat.le_of_eq h2⟩) }
theorem meets_enumerate_new1 {v : Value} {o : Obj} {H : Heap → Prop} (B : Begins v o H) :
    Meets (Builtin.«enumerate.__new__» ⟨[.type "enumerate", v], []⟩) (fun _ R s => H s.heap ∧
      R (.ok (.ret (.ref (s.heap.push o).objs.size))) { s with heap := (s.heap.push o).push { cls := .type "enumerate", data := .fields #[.none, .bool false, .ref s.heap.objs.size, rawInt 0, .none, .none] } }) :=
  .of_wp fun prog w A R s h => by
    obtain ⟨hp, g, d, tk, os⟩ := s; obtain ⟨h1, h⟩ := h
    have hsub := sub_enumerate
    have q1 : ∀ {A' : Around} {E : Value → Shared → Prop} {Q : Value → Shared → Prop}, Q (.ref hp.objs.size) ⟨hp.push o, g, d, tk, os⟩ → wpAny (model prog w) A' (pyIter v) Q E ⟨hp, g, d, tk, os⟩ :=
      fun q => B.iter prog w _ _ ⟨hp, g, d, tk, os⟩ _ h1 q
    wp_walk using q1
    refine wpAny_stack_any fun st => wpAny_pure ?_
    split
    · rename_i c _ _ _ _ _
      cases (c == Value.type "enumerate")
      · wp_walk using q1
        exact ⟨_, rfl, h⟩
      · wp_walk using q1
        exact ⟨_, rfl, h⟩
    · wp_walk using q1
      exact ⟨_, rfl, h⟩
theorem enum_begins1 {prog : Program} {w : World} {A : Around} {E : Value → Shared → Prop} {s : Shared} {v : Value} {o : Obj} {H : Heap → Prop} {Q : Value → Shared → Prop} (B : Begins v o H) (h1 : H s.heap)
    (h : ∀ h', IsEnum h' (s.heap.objs.size + 1) s.heap.objs.size 0 .none → h'.get? s.heap.objs.size = some o → h'.objs.size = s.heap.objs.size + 2 →
      (∀ b o, s.heap.get? b = some o → h'.get? b = some o) → Q (.ref (s.heap.objs.size + 1)) { s with heap := h' }) :
    wpAny (model prog w) A (call (.type "enumerate") [v]) Q E s := by
  refine callType_new F.called_enumerate (by decide) (F.typeCall_enumerate_1 _) (F.newCall_enumerate_1 _) (fun obj => F.args_object_init_2 obj _) F.entry_enumerate_new
    (meets_enumerate_new1 B) ⟨h1, ?_⟩
  have hz : (s.heap.push o).objs.size = s.heap.objs.size + 1 := Heap.size_push ..
  show _ ∧ _
  rw [hz]
  have he : IsEnum ((s.heap.push o).push { cls := .type "enumerate", data := .fields #[.none, .bool false, .ref s.heap.objs.size, rawInt 0, .none, .none] }) (s.heap.objs.size + 1) s.heap.objs.size 0 .none := by
    have := Heap.get?_push_size (s.heap.push o) (o := { cls := .type "enumerate", data := .fields #[.none, .bool false, .ref s.heap.objs.size, rawInt 0, .none, .none] }) rfl
    rw [hz] at this; exact this
  refine ⟨⟨_, he, rfl⟩, h _ he (Heap.get?_push_of_some _ (Heap.get?_push_size _ B.free)) (by rw [Heap.size_push, hz]) fun b o x => Heap.get?_push_of_some _ (Heap.get?_push_of_some _ x)⟩
def iEnumB (K : PySem.W.Frag) (ta : TA) : TI := fun σ H R => ta σ H fun vs H1 => ∃ a xs b, vs = [.ref a] ∧ SqB K b H1 a xs ∧ R (Iteb K b a) H1
theorem pi_enumB {X : Cx} {e : Expr} {ta : TA} {p pos tpos : Pos} {elts : List Expr} {kk : Nat} (hg : Gl X "enumerate") (hm : X.mg "enumerate" = none) (ha : PA X [e] ta) (hs : starEach [e] X.env = [(false, eval e X.env)] := by rfl) :
    PI X (.Tuple elts kk tpos) (.Call (.Name "enumerate" p) [e] [] pos) (iEnumB X.K ta) := by
  refine ⟨fun pins s σ H R I h => ?_⟩
  refine Call_ (ld_blt I hg hm boot_enumerate (PyProof.Rows.callWith_type1 (thn (ha.run pos pins s σ H _ I h) fun us s1 ⟨vs, H1, I1, r1, q1⟩ => ?_) hs rfl))
  obtain ⟨a, xs, b, ex, hq, q⟩ := q1
  subst ex
  cases r1 with
  | cons r rr =>
    cases rr
    cases r
    have fpo : ∀ b : Addr, b ∈ [s1.heap.objs.size + 1, s1.heap.objs.size] → s1.heap.objs.size ≤ b := fun b hb => by
      have e' : b = s1.heap.objs.size + 1 ∨ b = s1.heap.objs.size := by simpa using hb
      rcases e' with z | z
      · rw [z]; exact Nat.le_add_right _ _
      · rw [z]; exact Nat.le_refl _
    cases b with
    | false =>
      have hq : SqL X.K H1 a xs := hq
      obtain ⟨its, rv, p', hz⟩ := I1.list hq
      refine call_enumerate_list p'.isList fun h' he hit hsz hk => wpAny_pyIter_enum he ?_
      have I2 : Inv X pins σ H1 { s1 with heap := h' } := I1.kept (t' := s1.toks) hk
      exact ⟨s1.heap.objs.size + 1, [s1.heap.objs.size + 1, s1.heap.objs.size], _, _, H1, rfl, I2, turn_enumF a (s1.heap.objs.size + 1) s1.heap.objs.size, ⟨⟨.none, he⟩, hit, Nat.succ_ne_self _⟩, fun b hb => I1.fpOk (fpo b hb) (I1.hok.fresh (fpo b hb)), q⟩
    | true =>
      have hq : SqT X.K H1 a xs := hq
      obtain ⟨its, rv, p', hz⟩ := I1.tuple hq
      refine enum_begins1 (begins_tuple a its.toArray) p' fun h' he hit hsz hk => wpAny_pyIter_enum he ?_
      have I2 : Inv X pins σ H1 { s1 with heap := h' } := I1.kept (t' := s1.toks) hk
      exact ⟨s1.heap.objs.size + 1, [s1.heap.objs.size + 1, s1.heap.objs.size], _, _, H1, rfl, I2, turn_enumT a (s1.heap.objs.size + 1) s1.heap.objs.size, ⟨⟨.none, he⟩, ⟨_, hit, rfl, rfl⟩, Nat.succ_ne_self _⟩, fun b hb => I1.fpOk (fpo b hb) (I1.hok.fresh (fpo b hb)), q⟩
theorem walk_enumB {K : PySem.W.Frag} {b : Bool} {a : Addr} {xs : List V} : Walk (Iteb K b a) xs.length (fun H => SqB K b H a xs) (YPair (fun i => some (.int (i : Nat))) (fun i => xs[i]?)) := by
  refine ⟨fun i _ hi q => ⟨xs, xs[i], q, by simp [hi]⟩, fun _ q => ⟨xs, q, rfl⟩, fun i H v H' _ q y => ?_⟩
  obtain ⟨T, x, h1, h2, h3, h4⟩ := y
  exact ⟨T, .int (i : Nat), x, h1, h2, h3, rfl, h4 xs q⟩

-- needs: is_list is_change
/-! is_list, of a list or a tuple -/
def sp_is_listG (K : PySem.W.Frag) : Sp := fun vs H Q _ => ∃ (a : Addr) (xs : List V), vs = [.ref a] ∧ (SqL K H a xs ∨ SqT K H a xs) ∧ ∀ H', Same H H' → Q (.bl true) H'
theorem ok_is_listG (T : Tx K mg) : Callee P w K mg base CX0 1 "is_list" ["value"] [] (sp_is_listG K) := by
  refine mkCallee (fd_is_list T) (mg_is_list T) sc_is_list (fun _ _ _ _ _ _ us hl => match us, hl with | [_], _ => rfl) (fun vs H Q E h => ?_) (fun cdv A outer s H vs Q E hr h => ?_)
  · obtain ⟨a, xs, rfl, _⟩ := h
    rfl
  · obtain ⟨a, xs, rfl, hx, k⟩ := h
    refine ⟨_, pss_one (ps_ret (pe_callB call_isiT (by rfl) (fr_isinstance T) (by decide +kernel) (pa_cons (pv 0) (pa_cons (pe_tup (pa_cons (pe_bltn (v := .ty "list") (by rfl) (fr_list T) (by decide +kernel) rfl) (pa_cons (pe_bltn (v := .ty "tuple") (by rfl) (fr_tuple T) (by decide +kernel) rfl) pa_nil))) pa_nil)))), ?_⟩
    refine ⟨_, rfl, (by show 2 ≤ sizeLine; decide), fun t nt => ?_⟩
    have s := same_new (o := .tup [.ty "list", .ty "tuple"]) nt
    rcases hx with hx | hx
    · exact ⟨.ref a, t, _, _, _, true, rfl, upd_same, .cons (.ty "list") (.cons (.ty "tuple") .nil), sqL_ty (s.seq hx), kitAny_cons (b := true) (kit_ty (by decide +kernel)) (fun z => by cases z) (fun _ => rfl), k _ s⟩
    · exact ⟨.ref a, t, _, _, _, true, rfl, upd_same, .cons (.ty "list") (.cons (.ty "tuple") .nil), sqT_tup (same_tup s hx), kitAny_cons (b := false) (kit_ty (by decide +kernel)) (fun _ => kitAny_cons (b := true) (kit_ty (by decide +kernel)) (fun z => by cases z) (fun _ => rfl)) (fun z => by cases z), k _ s⟩

/-! columns of an edition; what stays right behind a change -/
structure Good (cs : List Col) (n : Int) : Prop where
  ok : ∀ c ∈ cs, ColOk c ∧ c.num < n
  one : 1 ≤ cs.length
  six : cs.length ≤ 6
  names : (cs.map (·.name)).Nodup
  nn : 0 ≤ n
def numThen (ch : Ch) (n : Int) : Int := match ch with
  | .add _ _ _ => n + 1
  | _ => n
theorem kind_add {ch : Ch} {n : Int} (h : ch.kind = "add") : numThen ch n = n + 1 := by
  cases ch with
  | add _ _ _ => rfl
  | drop _ => exact absurd (show ("drop" : Str) = "add" from h) (by decide +kernel)
  | rename _ _ => exact absurd (show ("rename" : Str) = "add" from h) (by decide +kernel)
  | dflt _ _ => exact absurd (show ("default" : Str) = "add" from h) (by decide +kernel)
  | great _ _ _ => exact absurd (show ("greatest" : Str) = "add" from h) (by decide +kernel)
  | fill _ _ => exact absurd (show ("fill" : Str) = "add" from h) (by decide +kernel)
theorem kind_noadd {ch : Ch} {n : Int} (h : ¬ ch.kind = "add") : numThen ch n = n := by
  cases ch with
  | add _ _ _ => exact absurd rfl h
  | _ => rfl
theorem find_uniq {n : Str} : ∀ {cs : List Col} {c : Col}, (cs.map (·.name)).Nodup → c ∈ cs → c.name = n → cs.find? (isN n) = some c
  | [], _, _, h, _ => by cases h
  | e :: cs, c, nd, h, hn => by
    rw [List.map_cons, List.nodup_cons] at nd
    rw [List.find?_cons]
    rcases List.mem_cons.mp h with rfl | h
    · rw [show isN n c = true from decide_eq_true hn]
    · have ne : ¬ e.name = n := fun z => nd.1 (List.mem_map.mpr ⟨c, h, hn.trans z.symm⟩)
      rw [show isN n e = false from decide_eq_false ne]
      exact find_uniq nd.2 h hn
theorem find_no {n : Str} {cs : List Col} (h : cs.find? (isN n) = none) : n ∉ cs.map (·.name) := fun hm => by
  obtain ⟨c, hc, e⟩ := List.mem_map.mp hm
  exact List.find?_eq_none.mp h c hc (decide_eq_true e)
theorem filter_same {n : Str} {cs : List Col} (h : n ∉ cs.map (·.name)) : cs.filter (fun c => !decide (c.name = n)) = cs := by
  rw [List.filter_eq_self]
  intro c hc
  rw [decide_eq_false (fun z => h (List.mem_map.mpr ⟨c, hc, z⟩))]
  rfl
theorem drop_len {n : Str} : ∀ {cs : List Col}, (cs.map (·.name)).Nodup → cs.length ≤ (cs.filter (fun c => !decide (c.name = n))).length + 1
  | [], _ => Nat.zero_le _
  | e :: cs, nd => by
    rw [List.map_cons, List.nodup_cons] at nd
    rw [List.filter_cons]
    by_cases h : e.name = n
    · rw [if_neg (by rw [decide_eq_true h]; decide), filter_same (by rw [← h]; exact nd.1)]
      exact Nat.le_refl _
    · rw [if_pos (by rw [decide_eq_false h]; rfl), List.length_cons, List.length_cons]
      have := drop_len (n := n) nd.2
      omega
theorem names_map {cs : List Col} {f : Col → Col} (nd : (cs.map (·.name)).Nodup) (h : ∀ a ∈ cs, ∀ b ∈ cs, ¬ a.name = b.name → ¬ (f a).name = (f b).name) : ((cs.map f).map (·.name)).Nodup := by
  rw [List.map_map]
  unfold List.Nodup at *
  rw [List.pairwise_map] at *
  exact nd.imp_of_mem fun ha hb e => h _ ha _ hb e
theorem names_same {cs : List Col} {f : Col → Col} (nd : (cs.map (·.name)).Nodup) (h : ∀ a ∈ cs, (f a).name = a.name) : ((cs.map f).map (·.name)).Nodup := names_map nd fun a ha b hb e => by rw [h a ha, h b hb]; exact e
theorem chgV_in {c : Col} {n : Str} {g : Int} {way : Str} (hn : c.name = n) (hg : isGr (.int g) = true) (hd : isIn c.top c.dflt = true) (h : ¬ chgV c.name (.great n g way) c.dflt = .str "missing") : isIn g (chgV c.name (.great n g way) c.dflt) = true := by
  have h1 : 1 ≤ g := by
    have := Bool.and_eq_true_iff.mp hg
    exact of_decide_eq_true this.1
  have hi : ∀ j : Int, 0 ≤ j → j ≤ g → isIn g (.int j) = true := fun j a b => by
    show (decide (0 ≤ j) && decide (j ≤ g)) = true
    rw [decide_eq_true a, decide_eq_true b]
    rfl
  unfold chgV at h ⊢
  rw [if_pos (show (Ch.great n g way).name = c.name from hn.symm)] at h ⊢
  cases e : c.dflt with
  | non => rfl
  | int j =>
    rw [e] at h hd
    have h0 : 0 ≤ j := of_decide_eq_true (Bool.and_eq_true_iff.mp hd).1
    show isIn g (if g < j then abv g way else .int j) = true
    have h : ¬ (if g < j then abv g way else .int j) = V.str "missing" := h
    by_cases q : g < j
    · rw [if_pos q] at h ⊢
      unfold abv at h ⊢
      split
      · exact hi g (by omega) (Int.le_refl g)
      · rename_i q1
        rw [if_neg q1] at h
        split
        · rfl
        · rename_i q2
          rw [if_neg q2] at h
          exact absurd rfl h
    · rw [if_neg q]
      exact hi j h0 (by omega)
  | _ => rw [e] at hd; cases hd
theorem Good.map {cs : List Col} {n : Int} (g : Good cs n) {f : Col → Col} (h1 : ∀ c ∈ cs, ColOk (f c) ∧ (f c).num = c.num) (h2 : ∀ a ∈ cs, ∀ b ∈ cs, ¬ a.name = b.name → ¬ (f a).name = (f b).name) : Good (cs.map f) n where
  ok := fun c hc => by
    obtain ⟨e, he, rfl⟩ := List.mem_map.mp hc
    exact ⟨(h1 e he).1, by rw [(h1 e he).2]; exact (g.ok e he).2⟩
  one := by rw [List.length_map]; exact g.one
  six := by rw [List.length_map]; exact g.six
  names := names_map g.names h2
  nn := g.nn
theorem Good.step {cs : List Col} {n : Int} {ch : Ch} (g : Good cs n) (f : ch.fits = true) (h : hindV cs ch = .non) : Good (behind cs ch n) (numThen ch n) := by
  cases ch with
  | add nm gr d =>
    have h : addHind cs nm gr d = .non := h
    unfold addHind at h
    have f : (isNm (.str nm) && (isGr (.int gr) && isVal d)) = true := f
    rw [Bool.and_eq_true, Bool.and_eq_true] at f
    split at h
    · cases h
    rename_i h1
    split at h
    · cases h
    rename_i h2
    split at h
    · rename_i h3
      have hno : nm ∉ cs.map (·.name) := find_no (Option.not_isSome_iff_eq_none.mp h1)
      refine ⟨fun c hc => ?_, ?_, ?_, ?_, by have := g.nn; show 0 ≤ n + 1; omega⟩
      · rcases List.mem_append.mp hc with hc | hc
        · exact ⟨(g.ok c hc).1, by have := (g.ok c hc).2; show c.num < n + 1; omega⟩
        · cases List.mem_singleton.mp hc
          exact ⟨⟨f.1, f.2.1, h3, g.nn⟩, by show n < n + 1; omega⟩
      · rw [show behind cs (.add nm gr d) n = cs ++ [⟨nm, gr, d, n⟩] from rfl, List.length_append]
        exact Nat.le_add_left _ _
      · rw [show behind cs (.add nm gr d) n = cs ++ [⟨nm, gr, d, n⟩] from rfl, List.length_append]
        show cs.length + 1 ≤ 6
        omega
      · rw [show behind cs (.add nm gr d) n = cs ++ [⟨nm, gr, d, n⟩] from rfl, List.map_append, List.nodup_append]
        refine ⟨g.names, by simp, fun a ha b hb => ?_⟩
        cases List.mem_singleton.mp hb
        intro z
        have z : a = nm := z
        exact hno (by rw [← z]; exact ha)
    · cases h
  | drop nm =>
    have h : (match cs.find? (isN nm) with
      | none => V.str "unknown"
      | some _ => if cs.length = 1 then .str "only" else .non) = .non := h
    have h1 : ¬ cs.length = 1 := fun z => by
      split at h
      · cases h
      · rw [if_pos z] at h
        cases h
    refine ⟨fun c hc => g.ok c (List.mem_filter.mp hc).1, ?_, ?_, ?_, g.nn⟩
    · have := drop_len (n := nm) g.names
      have := g.one
      show 1 ≤ (cs.filter fun c => !decide (c.name = nm)).length
      omega
    · exact Nat.le_trans (List.length_filter_le _ _) g.six
    · exact g.names.sublist (List.filter_sublist.map _)
  | rename nm m =>
    have h : (match cs.find? (isN nm) with
      | none => V.str "unknown"
      | some _ => if (cs.find? (isN m)).isSome = true then .str "alive" else .non) = .non := h
    have f : (isNm (.str nm) && isNm (.str m)) = true := f
    rw [Bool.and_eq_true] at f
    have hno : m ∉ cs.map (·.name) := by
      refine find_no (Option.not_isSome_iff_eq_none.mp fun z => ?_)
      split at h
      · cases h
      · rw [if_pos z] at h
        cases h
    refine g.map (fun c hc => ?_) fun a ha b hb e => ?_
    · by_cases q : c.name = nm
      · rw [if_pos (show c.name = (Ch.rename nm m).name from q)]
        exact ⟨⟨f.2, (g.ok c hc).1.gr, (g.ok c hc).1.df, (g.ok c hc).1.nu⟩, rfl⟩
      · rw [if_neg (show ¬ c.name = (Ch.rename nm m).name from q)]
        exact ⟨(g.ok c hc).1, rfl⟩
    · have ia : ¬ a.name = m := fun z => hno (List.mem_map.mpr ⟨a, ha, z⟩)
      have ib : ¬ b.name = m := fun z => hno (List.mem_map.mpr ⟨b, hb, z⟩)
      show ¬ (if a.name = nm then { a with name := m } else a : Col).name = (if b.name = nm then { b with name := m } else b : Col).name
      by_cases qa : a.name = nm
      · rw [if_pos qa]
        by_cases qb : b.name = nm
        · exact absurd (qa.trans qb.symm) e
        · rw [if_neg qb]
          exact fun z => ib z.symm
      · rw [if_neg qa]
        by_cases qb : b.name = nm
        · rw [if_pos qb]
          exact ia
        · rw [if_neg qb]
          exact e
  | dflt nm v =>
    have h : (match cs.find? (isN nm) with
      | none => V.str "unknown"
      | some e => if isIn e.top v = true then .non else .str "above") = .non := h
    refine g.map (fun c hc => ?_) fun a ha b hb e => ?_
    · by_cases q : c.name = nm
      · rw [if_pos (show c.name = (Ch.dflt nm v).name from q)]
        rw [find_uniq g.names hc q] at h
        refine ⟨⟨(g.ok c hc).1.nm, (g.ok c hc).1.gr, ?_, (g.ok c hc).1.nu⟩, rfl⟩
        have h : (if isIn c.top v = true then V.non else .str "above") = .non := h
        split at h
        · assumption
        · cases h
      · rw [if_neg (show ¬ c.name = (Ch.dflt nm v).name from q)]
        exact ⟨(g.ok c hc).1, rfl⟩
    · show ¬ (if a.name = nm then { a with dflt := v } else a : Col).name = (if b.name = nm then { b with dflt := v } else b : Col).name
      have q : ∀ c : Col, (if c.name = nm then { c with dflt := v } else c : Col).name = c.name := fun c => by split <;> rfl
      rw [q, q]
      exact e
  | great nm gr way =>
    have h : (match cs.find? (isN nm) with
      | none => V.str "unknown"
      | some e => if chgV e.name (.great nm gr way) e.dflt = V.str "missing" then .str "default" else .non) = .non := h
    have f : (isNm (.str nm) && (isGr (.int gr) && isWy way)) = true := f
    rw [Bool.and_eq_true, Bool.and_eq_true] at f
    refine g.map (fun c hc => ?_) fun a ha b hb e => ?_
    · by_cases q : c.name = nm
      · rw [if_pos (show c.name = (Ch.great nm gr way).name from q)]
        rw [find_uniq g.names hc q] at h
        have h : (if chgV c.name (.great nm gr way) c.dflt = V.str "missing" then V.str "default" else .non) = .non := h
        refine ⟨⟨(g.ok c hc).1.nm, f.2.1, chgV_in q f.2.1 (g.ok c hc).1.df fun z => ?_, (g.ok c hc).1.nu⟩, rfl⟩
        rw [if_pos (show chgV c.name (.great nm gr way) c.dflt = V.str "missing" from z)] at h
        cases h
      · rw [if_neg (show ¬ c.name = (Ch.great nm gr way).name from q)]
        exact ⟨(g.ok c hc).1, rfl⟩
    · show ¬ (if a.name = nm then { a with top := gr, dflt := chgV a.name (.great nm gr way) a.dflt } else a : Col).name = (if b.name = nm then { b with top := gr, dflt := chgV b.name (.great nm gr way) b.dflt } else b : Col).name
      have q : ∀ c : Col, (if c.name = nm then { c with top := gr, dflt := chgV c.name (.great nm gr way) c.dflt } else c : Col).name = c.name := fun c => by split <;> rfl
      rw [q, q]
      exact e
  | fill nm i =>
    have q : ∀ c : Col, (if c.name = (Ch.fill nm i).name then chgC c (.fill nm i) else c : Col) = c := fun c => by split <;> rfl
    refine g.map (fun c hc => ?_) fun a ha b hb e => ?_
    · rw [q]
      exact ⟨(g.ok c hc).1, rfl⟩
    · rw [q, q]
      exact e

/-! columns_of_editions, where all is well; what stays right from change to change -/
/-- columns and the next number, behind changes -/
def stepC (p : List Col × Int) (ch : Ch) : List Col × Int := (behind p.1 ch p.2, numThen ch p.2)
def atC (cs : List Col) (chs : List Ch) : List Col × Int := chs.foldl stepC (cs, (cs.length : Int))
/-- the columns of the first so many editions -/
def edsTo (cs : List Col) (chs : List Ch) (n : Nat) : List (List Col) := (List.range n).map fun i => (atC cs (chs.take i)).1
theorem atC_snoc {cs : List Col} {chs : List Ch} {i : Nat} {ch : Ch} (h : chs[i]? = some ch) : atC cs (chs.take (i + 1)) = stepC (atC cs (chs.take i)) ch := by
  unfold atC
  rw [List.take_add_one, h, List.foldl_append]
  rfl
theorem edsTo_succ {cs : List Col} {chs : List Ch} {n : Nat} : edsTo cs chs (n + 1) = edsTo cs chs n ++ [(atC cs (chs.take n)).1] := by
  unfold edsTo
  rw [List.range_succ, List.map_append]
  rfl
/-- each change can be done -/
def Fits (cs : List Col) (chs : List Ch) : Prop := ∀ i ch, chs[i]? = some ch → ch.fits = true ∧ hindV (atC cs (chs.take i)).1 ch = .non
theorem Fits.good {cs : List Col} {chs : List Ch} (g : Good cs cs.length) (f : Fits cs chs) : ∀ i, i ≤ chs.length → Good (atC cs (chs.take i)).1 (atC cs (chs.take i)).2
  | 0, _ => g
  | i + 1, h => by
    have e : chs[i]? = some chs[i] := List.getElem?_eq_getElem (by omega)
    have ih := f.good g i (by omega)
    rw [atC_snoc e]
    exact ih.step (f i _ e).1 (f i _ e).2
/-- the changes at the addresses -/
inductive Chs (K : PySem.W.Frag) (H : Hp) : List Addr → List Ch → Prop
  | nil : Chs K H [] []
  | cons {a : Addr} {as : List Addr} {c : Ch} {cs : List Ch} : ChAt K H a c → Chs K H as cs → Chs K H (a :: as) (c :: cs)
theorem Chs.keep {K : PySem.W.Frag} {H H' : Hp} (s : Same H H') : ∀ {as : List Addr} {cs : List Ch}, Chs K H as cs → Chs K H' as cs
  | _, _, .nil => .nil
  | _, _, .cons h t => .cons (h.keep s) (t.keep s)
theorem Chs.len {K : PySem.W.Frag} {H : Hp} : ∀ {as : List Addr} {cs : List Ch}, Chs K H as cs → as.length = cs.length
  | _, _, .nil => rfl
  | _, _, .cons _ t => congrArg Nat.succ t.len
theorem Chs.at_ {K : PySem.W.Frag} {H : Hp} : ∀ {as : List Addr} {cs : List Ch} {i : Nat} {a : Addr}, Chs K H as cs → as[i]? = some a → ∃ c, cs[i]? = some c ∧ ChAt K H a c
  | _, _, _, _, .nil, e => by simp at e
  | _, _, 0, _, .cons h t, e => by
    simp at e
    subst e
    exact ⟨_, rfl, h⟩
  | _, _, i + 1, a, .cons h t, e => by
    obtain ⟨c, h1, h2⟩ := Chs.at_ (i := i) (a := a) t (by simpa using e)
    exact ⟨c, by simpa using h1, h2⟩
def sp_coe (K : PySem.W.Frag) : Sp := fun vs H Q _ => ∃ (l t : Addr) (as ts : List Addr) (cs : List Col) (chs : List Ch) (bb : Bool), vs = [.ref l, .ref t] ∧ H l = some (.lst (as.map V.ref)) ∧ Cols K H as cs ∧ SqB K bb H t (ts.map V.ref) ∧ Chs K H ts chs ∧ Good cs cs.length ∧ Fits cs chs ∧ chs.length ≤ 40 ∧
  ∀ (l' : Addr) (es : List Addr) (H' : Hp), H l' = none → Same H H' → H' l' = some (.lst (es.map V.ref)) → Eds K H' es (edsTo cs chs (chs.length + 1)) → Q (.ref l') H'
theorem Eds.mut {K : PySem.W.Frag} {H : Hp} {p : Addr} {o : HO} {xs : List V} (hp : H p = some (.lst xs)) : ∀ {es : List Addr} {eds : List (List Col)}, Eds K H es eds → (∀ e ∈ es, e ≠ p) → Eds K (upd H p o) es eds
  | _, _, .nil, _ => .nil
  | _, _, .cons (e := e) as h c t, hne => by
    refine .cons as (by rw [upd_ne (hne e List.mem_cons_self)]; exact h) (Cols.all c.len fun i a c' h1 h2 => ?_) (t.mut hp fun e' he => hne e' (List.mem_cons_of_mem _ he))
    obtain ⟨dx, q⟩ := c.two h1 h2
    exact ⟨dx, by rw [upd_ne (fun z => by rw [z, hp] at q; cases q)]; exact q⟩
theorem ok_columns_of_editions (T : Tx K mg) : Callee P w K mg base CX0 9 "columns_of_editions" ["first", "changes"] [] (sp_coe K) := by
  have C1 := (ok_is_listG (P := P) (w := w) (base := base) T).up (show 1 ≤ 8 by decide)
  have C2 := (ok_is_change (P := P) (w := w) (base := base) T).up (show 5 ≤ 8 by decide)
  have C3 := (ok_hindrance (P := P) (w := w) (base := base) T).up (show 5 ≤ 8 by decide)
  have C4 := ok_columns_behind (P := P) (w := w) (base := base) T
  have C5 := (ok_kind_of (P := P) (w := w) (base := base) T).up (show 1 ≤ 8 by decide)
  obtain ⟨tM, eM⟩ := mi_MOST_CHANGES T
  refine mkCallee (fd_columns_of_editions T) (mg_columns_of_editions T) sc_columns_of_editions (fun _ _ _ _ _ _ us hl => match us, hl with | [_, _], _ => rfl) (fun vs H Q E h => ?_) (fun cdv A outer s H vs Q E hr h => ?_)
  · obtain ⟨l, t, as, ts, cs, chs, bb, rfl, _⟩ := h
    rfl
  · obtain ⟨l, t, as, ts, cs, chs, bb, rfl, hl, hc, ht, hch, hgood, hfit, h40, k⟩ := h
    have nd := sc_columns_of_editions.nd
    refine ⟨_, pss_cons (ps_if (pt_not (pt_val (pcall C1 hr (pa_cons (pv 1) pa_nil)))) (pss_one ps_never) pss_nil)
      (pss_cons (ps_set (i := 2) nd rfl (Or.inl rfl) (pe_lst (pa_cons (pv 0) pa_nil)))
      (pss_cons (ps_set (i := 3) nd rfl (Or.inl rfl) (pe_callB call_len_seq (by rfl) (fr_len T) PySem.boot_len (pa_cons (pv 0) pa_nil)))
      (pss_cons (ps_for PassesOwn.never rfl (pi_enumB (by rfl) (fr_enumerate T) (pa_cons (pv 1) pa_nil)) (pg_tup rfl (pgs_cons (pg_name (i := 4) nd rfl (Or.inl rfl)) (pgs_cons (pg_name (i := 5) nd rfl (Or.inl rfl)) pgs_nil)))
        (pss_cons (ps_set (i := 6) nd rfl (Or.inl rfl) (pe_ix ix_list (pv 2) (pe_un un_neg pe_int) (fun _ _ => rfl)))
        (pss_cons (ps_if (PW.pt (pw_or (pt_not (pt_val (pcall C2 hr (pa_cons (pv 5) pa_nil)))) (pw_or1 (pt_cmpR op_notN (pcall C3 hr (pa_cons (pv 6) (pa_cons (pv 5) pa_nil))) pe_non (nomark _))))) (pss_one ps_never) pss_nil)
        (pss_cons (ps_expr (pe_bm PySem.F.plainAttrs_list PySem.F.slot_list_append PySem.F.type_list_append mt_append (pv 2) (pa_cons (pcall C4 hr (pa_cons (pv 6) (pa_cons (pv 5) (pa_cons (pv 3) pa_nil)))) pa_nil)))
        (pss_one (ps_if (pt_cmpR op_eq (pcall C5 hr (pa_cons (pv 5) pa_nil)) pe_str (nomark _)) (pss_one (ps_aug (i := 3) nd rfl (Or.inl rfl) pe_int ip_add)) pss_nil))))))
      (pss_cons (ps_if (pt_cmpR op_gt (pe_callB call_len_seq (by rfl) (fr_len T) PySem.boot_len (pa_cons (pv 1) pa_nil)) (pe_glob (v := .int 40) (by rfl) eM ⟨_, rfl⟩) (nomark _)) (pss_one ps_never) pss_nil)
      (pss_one (ps_ret (pv 2))))))), ?_⟩
    refine ⟨_, rfl, t, _, rfl, ht.or, fun H1 s1 => ⟨_, rfl, iteF ⟨_, rfl, by show 1 ≤ sizeLine; decide, fun p np => ?_⟩⟩⟩
    have hp0 : H p = none := s1.free np
    have s2 : Same H (upd H1 p (.lst [.ref l])) := s1.trans (same_new np)
    have hp2 : upd H1 p (.lst [.ref l]) p = some (.lst ([l].map V.ref)) := upd_same
    generalize upd H1 p (.lst [.ref l]) = H2 at s2 hp2 ⊢
    have lp : l ≠ p := fun z => by rw [z, hp0] at hl; cases hl
    refine ⟨_, rfl, l, _, rfl, .inl (sqL_of (s2 _ _ hl)), ?_⟩
    rw [List.length_map, hc.len]
    refine ⟨_, rfl, t, ts.map V.ref, bb, rfl, ht.keep s2, ?_⟩
    refine for_it walk_enumB (fun i σ H' => Same H H' ∧ (∃ es, es.length = i + 1 ∧ H' p = some (.lst (es.map V.ref)) ∧ Eds K H' es (edsTo cs chs (i + 1)) ∧ ∀ e ∈ es, e ≠ p) ∧ ∃ x y z, σ = [some (.ref l), some (.ref t), some (.ref p), some (.int (atC cs (chs.take i)).2), x, y, z])
      ⟨s2, ⟨[l], rfl, hp2, .cons as (s2 _ _ hl) (hc.keep s2) .nil, fun e he => by rw [List.mem_singleton.mp he]; exact lp⟩, _, _, _, rfl⟩ (fun i σ H' _ h => ht.keep h.1) ?_ ?_
    · rintro i v σ H3 H4 hi ⟨s3, ⟨es, hes, hp3, hE, hne⟩, x, y, z, rfl⟩ ⟨T1, x', y', rfl, nT, rfl, ex, ey⟩
      obtain rfl := Option.some.inj ex
      have ey : (ts.map V.ref)[i]? = some y' := ey
      rw [List.getElem?_map] at ey
      cases ha : ts[i]? with
      | none =>
        rw [ha] at ey
        cases ey
      | some a =>
        rw [ha] at ey
        obtain rfl := Option.some.inj ey
        obtain ⟨ch, hci, hat⟩ := hch.at_ ha
        have hi2 : i < chs.length := (List.getElem?_eq_some_iff.mp hci).1
        have gd := hfit.good hgood i (Nat.le_of_lt hi2)
        obtain ⟨fit, hind⟩ := hfit i ch hci
        have gd2 := gd.step fit hind
        have s4 : Same H (upd H3 T1 (.tup [.int (i : Nat), .ref a])) := s3.trans (same_new nT)
        have hp4 : upd H3 T1 (.tup [.int (i : Nat), .ref a]) p = some (.lst (es.map V.ref)) := same_new nT _ _ hp3
        have hE4 : Eds K (upd H3 T1 (.tup [.int (i : Nat), .ref a])) es (edsTo cs chs (i + 1)) := hE.keep (same_new nT)
        refine ⟨T1, _, rfl, sqT_of upd_same, rfl, _, _, rfl, _, _, rfl, rfl, ?_⟩
        generalize upd H3 T1 (.tup [.int (i : Nat), .ref a]) = H4 at s4 hp4 hE4 ⊢
        have hlast : es[i]? = some es[i] := List.getElem?_eq_getElem (by omega)
        obtain ⟨cs1, as1, hcs1, hea, hc1⟩ := hE4.at_ hlast
        have ecs : cs1 = (atC cs (chs.take i)).1 := by
          rw [edsTo_succ, List.getElem?_append_right (by unfold edsTo; rw [List.length_map, List.length_range]; exact Nat.le_refl _)] at hcs1
          unfold edsTo at hcs1
          rw [List.length_map, List.length_range, Nat.sub_self] at hcs1
          exact (Option.some.inj hcs1).symm
        subst ecs
        have am1 : atI (es.map V.ref) (-1) = some (.ref es[i]) := by
          unfold atI ixN
          rw [if_neg (by omega), if_pos (by rw [List.length_map]; omega), List.length_map, show ((-1 : Int) + (es.length : Nat)).toNat = i by omega]
          show (es.map V.ref)[i]? = _
          rw [List.getElem?_map, hlast]
          rfl
        refine ⟨_, rfl, 1, rfl, p, _, -1, _, rfl, rfl, sqL_of hp4, am1, ?_⟩
        refine ⟨_, rfl, a, ch, rfl, hat.keep s4, fit, fun H5 s5 => ⟨_, rfl, iteF ⟨_, rfl, _, rfl, es[i], a, as1, _, ch, rfl, .inl (sqL_of (s5 _ _ hea)), hc1.keep s5, fun e he => isIn_ok (gd.ok e he).1.df, (hat.keep s4).keep s5, fit, fun H6 s6 => ?_⟩⟩⟩
        rw [hind]
        refine ⟨rfl, _, rfl, iteF ?_⟩
        have s46 := s5.trans s6
        have s06 : Same H H6 := s4.trans s46
        have hp6 := s46 _ _ hp4
        have hE6 := hE4.keep s46
        have len1 : as1.length ≤ 1000 := by rw [hc1.len]; have := gd.six; omega
        refine ⟨_, rfl, .inl ⟨rfl, _, sqL_of hp6⟩, _, rfl, _, rfl, _, rfl, es[i], a, as1, _, ch, _, rfl, sqL_of (s46 _ _ hea), hc1.keep s46, hat.keep s06, len1, gd.nn, fun c hcm => (gd.ok c hcm).1, fun c hcm => (gd2.ok c hcm).1, fun e' as' H7 n7 s7 he7 hc7 => ?_⟩
        have hp7 := s7 _ _ hp6
        have e7p : e' ≠ p := fun z => by rw [z, hp6] at n7; cases n7
        refine ⟨p, _, _, rfl, rfl, hp7, ?_, ?_⟩
        · rw [List.length_map, hes]
          exact Nat.lt_of_le_of_lt (show i + 1 ≤ 1000 by omega) (by decide)
        have s8 : Same H (upd H7 p (.lst (es.map V.ref ++ [.ref e']))) := same_mut (s06.trans s7) hp0
        have hE8 : Eds K (upd H7 p (.lst (es.map V.ref ++ [.ref e']))) (es ++ [e']) (edsTo cs chs (i + 1 + 1)) := by
          rw [edsTo_succ, atC_snoc hci]
          refine Eds.mut hp7 (Eds.snoc he7 hc7 (hE6.keep s7)) fun e he => ?_
          rcases List.mem_append.mp he with he | he
          · exact hne e he
          · rw [List.mem_singleton.mp he]
            exact e7p
        have hp8 : upd H7 p (.lst (es.map V.ref ++ [.ref e'])) p = some (.lst ((es ++ [e']).map V.ref)) := by rw [upd_same, List.map_append]; rfl
        generalize upd H7 p (.lst (es.map V.ref ++ [.ref e'])) = H8 at s8 hE8 hp8 ⊢
        have hne8 : ∀ e ∈ es ++ [e'], e ≠ p := fun e he => by
          rcases List.mem_append.mp he with he | he
          · exact hne e he
          · rw [List.mem_singleton.mp he]
            exact e7p
        have hl8 : (es ++ [e']).length = i + 1 + 1 := by rw [List.length_append, hes]; rfl
        have e2 : (atC cs (chs.take (i + 1))).2 = numThen ch (atC cs (chs.take i)).2 := by rw [atC_snoc hci]; rfl
        refine ⟨_, rfl, a, ch, rfl, hat.keep s8, rfl, _, rfl, ?_⟩
        by_cases ea : ch.kind = "add"
        · rw [decide_eq_true (show V.str ch.kind = V.str "add" by rw [ea])]
          refine iteT ⟨_, rfl, _, _, rfl, rfl, s8, ⟨_, hl8, hp8, hE8, hne8⟩, some (.int (i : Nat)), some (.ref a), some (.ref es[i]), ?_⟩
          rw [e2, show numThen ch (atC cs (chs.take i)).2 = (atC cs (chs.take i)).2 + 1 from kind_add ea]
          rfl
        · rw [decide_eq_false (fun z => ea (V.str.inj z))]
          refine iteF ⟨s8, ⟨_, hl8, hp8, hE8, hne8⟩, some (.int (i : Nat)), some (.ref a), some (.ref es[i]), ?_⟩
          rw [e2, show numThen ch (atC cs (chs.take i)).2 = (atC cs (chs.take i)).2 from kind_noadd ea]
          rfl
    · rintro σ H3 ⟨s3, ⟨es, hes, hp3, hE, hne⟩, x, y, z, rfl⟩
      refine ⟨_, rfl, t, _, rfl, (ht.keep s3).or, _, _, rfl, rfl, _, rfl, ?_⟩
      rw [List.length_map, hch.len, decide_eq_false (by omega)]
      rw [List.length_map, hch.len] at hE
      exact iteF ⟨_, rfl, k p es H3 hp0 s3 hp3 hE⟩
theorem ixN_ok {n : Nat} {i : Int} (h : 0 ≤ i) (h2 : i < n) : ixN n i = some i.toNat := by
  unfold ixN
  rw [if_pos h, if_pos h2]

/-! drops -/
def gone (next : List Col) (c : Col) : Bool := (next.find? (isK c.num)).isNone
def dropStep (next : List Col) (i : Nat) (d : List V) (c : Col) : List V := if gone next c = true then d.set c.num.toNat (.int (i : Nat)) else d
def dropTo (eds : List (List Col)) (m : Nat) : Nat → List V
  | 0 => List.replicate m .non
  | i + 1 => (eds.getD i []).foldl (dropStep (eds.getD (i + 1) []) (i + 1)) (dropTo eds m i)
def dropOf (eds : List (List Col)) (m : Nat) : List V := dropTo eds m (eds.length - 1)
theorem dropStep_len (next : List Col) (i : Nat) : ∀ (cs : List Col) (d : List V), (cs.foldl (dropStep next i) d).length = d.length
  | [], d => rfl
  | c :: cs, d => by
    refine (dropStep_len next i cs _).trans ?_
    unfold dropStep
    split
    · exact List.length_set
    · rfl
theorem dropTo_len (eds : List (List Col)) (m : Nat) : ∀ i, (dropTo eds m i).length = m
  | 0 => List.length_replicate
  | i + 1 => (dropStep_len _ _ _ _).trans (dropTo_len eds m i)
theorem flat_rep : ∀ n : Nat, (List.replicate n [V.non]).flatten = List.replicate n V.non
  | 0 => rfl
  | n + 1 => by
    rw [List.replicate_succ, List.flatten_cons, flat_rep n]
    rfl
def sp_drops (K : PySem.W.Frag) : Sp := fun vs H Q _ => ∃ (l : Addr) (es : List Addr) (eds : List (List Col)) (m : Nat), vs = [.ref l, .int (m : Nat)] ∧ H l = some (.lst (es.map V.ref)) ∧ Eds K H es eds ∧ 1 ≤ eds.length ∧ eds.length ≤ 50 ∧ m ≤ 100000 ∧ (∀ cs ∈ eds, ∀ c ∈ cs, 0 ≤ c.num ∧ c.num < m) ∧
  ∀ (p : Addr) (H' : Hp), H p = none → Same H H' → H' p = some (.lst (dropOf eds m)) → Q (.ref p) H'
theorem ok_drops (T : Tx K mg) : Callee P w K mg base CX0 3 "drops" ["editions", "many"] [] (sp_drops K) := by
  have C1 := ok_column_numbered (P := P) (w := w) (base := base) T
  refine mkCallee (fd_drops T) (mg_drops T) sc_drops (fun _ _ _ _ _ _ us hl => match us, hl with | [_, _], _ => rfl) (fun vs H Q E h => ?_) (fun cdv A outer s H vs Q E hr h => ?_)
  · obtain ⟨l, es, eds, m, rfl, _⟩ := h
    rfl
  · obtain ⟨l, es, eds, m, rfl, hl, he, h1, h50, hm, hn, k⟩ := h
    have nd := sc_drops.nd
    refine ⟨_, pss_cons (ps_set (i := 2) nd rfl (Or.inl rfl) (pe_op op_rep (pe_lst (pa_cons pe_non pa_nil)) (pv 1)))
      (pss_cons (ps_for PassesOwn.never rfl (pi_range2 (by rfl) (fr_range T) (pa_cons pe_int (pa_cons (pe_callB call_len_seq (by rfl) (fr_len T) PySem.boot_len (pa_cons (pv 0) pa_nil)) pa_nil))) (pg_name (i := 3) nd rfl (Or.inl rfl))
        (pss_one (ps_for PassesOwn.never rfl (pi_list (pe_ix ix_list (pv 0) (pe_op op_sub (pv 3) pe_int) (fun _ _ => rfl))) (pg_name (i := 4) nd rfl (Or.inl rfl))
          (pss_one (ps_if (pt_cmpR op_isN (pcall C1 hr (pa_cons (pe_ix ix_list (pv 0) (pv 3) (fun _ _ => rfl)) (pa_cons (pe_fld (pv 4) rfl) pa_nil))) pe_non (nomark _))
            (pss_one (ps_asg (pv 3) (pg_sub (pv 2) (pe_fld (pv 4) rfl) set_list))) pss_nil))))) (pss_one (ps_ret (pv 2)))), ?_⟩
    have m0 : Eds K H es eds := he
    have lenE := he.len
    refine ⟨by show 1 ≤ sizeLine; decide, fun q nq => ⟨_, rfl, q, (m : Nat), [.non], rfl, rfl, upd_same, by omega, by omega, ?_, fun d nd' => ?_⟩⟩
    · rw [Int.toNat_natCast]
      exact Nat.le_trans (by show 1 * m ≤ 100000; omega) (by decide)
    rw [Int.toNat_natCast, flat_rep]
    have hd0 : H d = none := (same_new nq).free nd'
    have s0 : Same H (upd (upd H q (.lst [.non])) d (.lst (List.replicate m .non))) := (same_new nq).trans (same_new nd')
    have hd : upd (upd H q (.lst [.non])) d (.lst (List.replicate m .non)) d = some (.lst (dropTo eds m 0)) := upd_same
    generalize upd (upd H q (.lst [.non])) d (.lst (List.replicate m .non)) = H1 at s0 hd ⊢
    refine ⟨_, rfl, l, _, rfl, .inl (sqL_of (s0 _ _ hl)), 1, _, rfl, ?_, ?_⟩
    · rw [List.length_map]
      omega
    rw [List.length_map, lenE]
    refine for_range (fun i σ H' => Same H H' ∧ H' d = some (.lst (dropTo eds m i)) ∧ ∃ x y, σ = [some (.ref l), some (.int (m : Nat)), some (.ref d), x, y]) ⟨s0, hd, _, _, rfl⟩ ?_ ?_
    · rintro i σ H1 hi ⟨s1, hd1, x, y, rfl⟩
      have hi1 : i < es.length := by omega
      have hi2 : i + 1 < es.length := by omega
      obtain ⟨cs, as, hcs, hea, hc⟩ := he.at_ (List.getElem?_eq_getElem hi1)
      obtain ⟨cs2, as2, hcs2, hea2, hc2⟩ := he.at_ (List.getElem?_eq_getElem hi2)
      have hgd : eds.getD i [] = cs := by rw [List.getD_eq_getElem?_getD, hcs]; rfl
      have hgd2 : eds.getD (i + 1) [] = cs2 := by rw [List.getD_eq_getElem?_getD, hcs2]; rfl
      have a1 : atI (es.map V.ref) (1 + (i : Int) - 1) = some (.ref es[i]) := by
        unfold atI
        rw [ixN_ok (by omega) (by rw [List.length_map]; omega), show (1 + (i : Int) - 1).toNat = i by omega]
        show (es.map V.ref)[i]? = _
        rw [List.getElem?_map, List.getElem?_eq_getElem hi1]
        rfl
      have a2 : atI (es.map V.ref) (1 + (i : Int)) = some (.ref es[i + 1]) := by
        unfold atI
        rw [ixN_ok (by omega) (by rw [List.length_map]; omega), show (1 + (i : Int)).toNat = i + 1 by omega]
        show (es.map V.ref)[i + 1]? = _
        rw [List.getElem?_map, List.getElem?_eq_getElem hi2]
        rfl
      refine ⟨_, rfl, _, rfl, 1 + (i : Int), 1, rfl, rfl, l, _, 1 + (i : Int) - 1, _, rfl, rfl, sqL_of (s1 _ _ hl), a1, es[i], rfl, ⟨_, sqL_of (s1 _ _ hea)⟩, ?_⟩
      refine for_list (xs := as.map V.ref) (fun j σ H' => Same H H' ∧ H' d = some (.lst ((cs.take j).foldl (dropStep cs2 (i + 1)) (dropTo eds m i))) ∧ ∃ y, σ = [some (.ref l), some (.int (m : Nat)), some (.ref d), some (.int (1 + (i : Int))), y]) ⟨s1, hd1, _, rfl⟩ (fun j σ H' _ h => sqL_of (h.1 _ _ hea)) ?_ ?_
      · rintro j x σ H3 hx ⟨s3, hd3, z, rfl⟩
        rw [List.getElem?_map] at hx
        cases ha : as[j]? with
        | none =>
          rw [ha] at hx
          cases hx
        | some a =>
          rw [ha] at hx
          obtain rfl := Option.some.inj hx
          obtain ⟨c, hci, dx, hat⟩ := hc.at_ ha
          have et : cs.take (j + 1) = cs.take j ++ [c] := by rw [List.take_add_one, hci]; rfl
          have cn := hn cs (List.mem_of_getElem? hcs) c (List.mem_of_getElem? hci)
          refine ⟨_, rfl, _, rfl, l, _, 1 + (i : Int), _, rfl, rfl, sqL_of (s3 _ _ hl), a2, _, rfl, a, _, dx, _, _, rfl, s3 _ _ hat, cl_Column T, na_Column_number T, colFs_number, es[i + 1], as2, cs2, c.num, rfl, sqL_of (s3 _ _ hea2), hc2.keep s3, fun v hv => ?_⟩
          refine ⟨rfl, _, rfl, ?_⟩
          have eg : decide (v = V.non) = gone cs2 c := by
            unfold gone
            rcases hv with ⟨rfl, e⟩ | ⟨i', a', c', rfl, _, _, e⟩
            · rw [e]; rfl
            · rw [e]; rfl
          rw [eg]
          cases hg : gone cs2 c with
          | true =>
            refine iteT ⟨_, rfl, _, rfl, _, rfl, a, _, dx, _, _, rfl, s3 _ _ hat, cl_Column T, na_Column_number T, colFs_number, d, _, c.num, c.num.toNat, rfl, rfl, hd3, ixN_ok cn.1 ?_, same_mut s3 hd0, ?_, _, rfl⟩
            · rw [dropStep_len, dropTo_len]
              exact cn.2
            · rw [upd_same, et, List.foldl_append, List.foldl_cons, List.foldl_nil]
              show _ = some (HO.lst (if gone cs2 c = true then _ else _))
              rw [if_pos hg, show (1 + (i : Int)) = ((i + 1 : Nat) : Int) by omega]
          | false =>
            refine iteF ⟨s3, ?_, _, rfl⟩
            rw [hd3, et, List.foldl_append, List.foldl_cons, List.foldl_nil]
            show _ = some (HO.lst (if gone cs2 c = true then _ else _))
            rw [if_neg (by rw [hg]; decide)]
      · rintro σ H3 ⟨s3, hd3, z, rfl⟩
        refine ⟨s3, ?_, _, _, rfl⟩
        rw [List.length_map, hc.len, List.take_length] at hd3
        rw [hd3]
        show _ = some (HO.lst ((eds.getD i []).foldl (dropStep (eds.getD (i + 1) []) (i + 1)) (dropTo eds m i)))
        rw [hgd, hgd2]
    · rintro σ H1 ⟨s1, hd1, x, y, rfl⟩
      have e : (((eds.length : Nat) : Int) - 1).toNat = eds.length - 1 := by omega
      rw [e] at hd1
      exact ⟨_, rfl, k d H1 hd0 s1 hd1⟩
/-! History.__init__, of lists where all is well; what stands in a History -/
def histFs (e c b d : Addr) : List (Str × V) := [("_editions", .ref e), ("_changes", .ref c), ("_births", .ref b), ("_drops", .ref d)]
theorem hist_put2 (e c : Addr) : putF "_changes" (.ref c) (putF "_editions" (.ref e) []) = ([("_editions", .ref e), ("_changes", .ref c)] : List (Str × V)) := by
  have h1 : ¬ (("_editions" : Str) = "_changes") := by decide +kernel
  simp only [putF, if_neg h1]
theorem hist_put3 (e c b : Addr) : putF "_births" (.ref b) (putF "_changes" (.ref c) (putF "_editions" (.ref e) [])) = ([("_editions", .ref e), ("_changes", .ref c), ("_births", .ref b)] : List (Str × V)) := by
  have h1 : ¬ (("_editions" : Str) = "_births") := by decide +kernel
  have h2 : ¬ (("_changes" : Str) = "_births") := by decide +kernel
  rw [hist_put2]
  simp only [putF, if_neg h1, if_neg h2]
theorem hist_put4 (e c b d : Addr) : putF "_drops" (.ref d) (putF "_births" (.ref b) (putF "_changes" (.ref c) (putF "_editions" (.ref e) []))) = histFs e c b d := by
  have h1 : ¬ (("_editions" : Str) = "_drops") := by decide +kernel
  have h2 : ¬ (("_changes" : Str) = "_drops") := by decide +kernel
  have h3 : ¬ (("_births" : Str) = "_drops") := by decide +kernel
  rw [hist_put3]
  simp only [putF, if_neg h1, if_neg h2, if_neg h3]
  rfl
theorem histFs_editions {e c b d : Addr} : (histFs e c b d).lookup ("_editions" : Str) = some (.ref e) := by
  unfold histFs
  simp [List.lookup]
theorem histFs_changes {e c b d : Addr} : (histFs e c b d).lookup ("_changes" : Str) = some (.ref c) := by
  have h1 : (("_changes" : Str) == "_editions") = false := by decide +kernel
  unfold histFs
  simp [List.lookup, h1]
theorem histFs_births {e c b d : Addr} : (histFs e c b d).lookup ("_births" : Str) = some (.ref b) := by
  have h1 : (("_births" : Str) == "_editions") = false := by decide +kernel
  have h2 : (("_births" : Str) == "_changes") = false := by decide +kernel
  unfold histFs
  simp [List.lookup, h1, h2]
theorem histFs_drops {e c b d : Addr} : (histFs e c b d).lookup ("_drops" : Str) = some (.ref d) := by
  have h1 : (("_drops" : Str) == "_editions") = false := by decide +kernel
  have h2 : (("_drops" : Str) == "_changes") = false := by decide +kernel
  have h3 : (("_drops" : Str) == "_births") = false := by decide +kernel
  unfold histFs
  simp [List.lookup, h1, h2, h3]
/-- the numbers of a beginning are those of the places -/
def Placed (cs : List Col) : Prop := ∀ (i : Nat) (c : Col), cs[i]? = some c → c.num = ((i : Nat) : Int)
theorem bornSame {i : Nat} : ∀ {cs : List Col} {b : List Int}, (∀ c ∈ cs, c.num < b.length) → cs.foldl (bornStep i) b = b
  | [], _, _ => rfl
  | c :: cs, b, h => by
    rw [List.foldl_cons, bornStep_neg (by have := h c List.mem_cons_self; omega)]
    exact bornSame fun c' hc => h c' (List.mem_cons_of_mem _ hc)
theorem bornAll {i : Nat} : ∀ {cs : List Col} {b : List Int}, (∀ j c, cs[j]? = some c → c.num = ((b.length + j : Nat) : Int)) → (cs.foldl (bornStep i) b).length = b.length + cs.length
  | [], _, _ => rfl
  | c :: cs, b, h => by
    have h0 : c.num = b.length := by have := h 0 c rfl; simpa using this
    have ht : ∀ j c', cs[j]? = some c' → c'.num = (((b ++ [(i : Int)]).length + j : Nat) : Int) := fun j c' hc => by
      have := h (j + 1) c' (by simpa using hc)
      rw [List.length_append]
      show c'.num = ((b.length + 1 + j : Nat) : Int)
      omega
    have ih := bornAll (i := i) ht
    have e1 : (b ++ [(i : Int)]).length = b.length + 1 := by rw [List.length_append]; rfl
    rw [List.foldl_cons, bornStep_pos h0, ih, e1, List.length_cons]
    omega
theorem edsTo_get {cs : List Col} {chs : List Ch} {n i : Nat} (h : i < n) : (edsTo cs chs n)[i]? = some (atC cs (chs.take i)).1 := by
  unfold edsTo
  rw [List.getElem?_map, List.getElem?_range h]
  rfl
theorem edsTo_len {cs : List Col} {chs : List Ch} {n : Nat} : (edsTo cs chs n).length = n := by
  unfold edsTo
  rw [List.length_map, List.length_range]
theorem born_step {cs : List Col} {n : Int} {ch : Ch} {i : Nat} {b : List Int} (g : Good cs n) (g2 : Good (behind cs ch n) (numThen ch n)) (hb : (b.length : Int) = n) : (((behind cs ch n).foldl (bornStep i) b).length : Int) = numThen ch n := by
  by_cases k : ch.kind = "add"
  · rw [kind_add k]
    cases ch with
    | add nm gr d =>
      have hs : cs.foldl (bornStep i) b = b := bornSame fun c hc => by rw [hb]; exact (g.ok c hc).2
      rw [show behind cs (.add nm gr d) n = cs ++ [⟨nm, gr, d, n⟩] from rfl, List.foldl_append, hs, List.foldl_cons, List.foldl_nil, bornStep_pos (show n = _ from hb.symm), List.length_append]
      show ((b.length + 1 : Nat) : Int) = _
      omega
    | drop _ => exact absurd (show ("drop" : Str) = "add" from k) (by decide +kernel)
    | rename _ _ => exact absurd (show ("rename" : Str) = "add" from k) (by decide +kernel)
    | dflt _ _ => exact absurd (show ("default" : Str) = "add" from k) (by decide +kernel)
    | great _ _ _ => exact absurd (show ("greatest" : Str) = "add" from k) (by decide +kernel)
    | fill _ _ => exact absurd (show ("fill" : Str) = "add" from k) (by decide +kernel)
  · rw [kind_noadd k] at g2 ⊢
    have hs : (behind cs ch n).foldl (bornStep i) b = b := bornSame fun c hc => by rw [hb]; exact (g2.ok c hc).2
    rw [hs]
    exact hb
theorem born_zero {cs : List Col} {chs : List Ch} (pl : Placed cs) : ((bornTo (edsTo cs chs (chs.length + 1)) 1).length : Int) = (cs.length : Int) := by
  show (((List.getD (edsTo cs chs (chs.length + 1)) 0 []).foldl (bornStep 0) []).length : Int) = (cs.length : Int)
  rw [List.getD_eq_getElem?_getD, edsTo_get (by omega)]
  show ((cs.foldl (bornStep 0) []).length : Int) = _
  have ha := bornAll (i := 0) (cs := cs) (b := []) fun j c hc => by rw [pl j c hc]; simp
  rw [ha]
  simp
theorem Fits.born {cs : List Col} {chs : List Ch} (pl : Placed cs) (g : Good cs cs.length) (f : Fits cs chs) (i : Nat) (h : i ≤ chs.length) : ((bornTo (edsTo cs chs (chs.length + 1)) (i + 1)).length : Int) = (atC cs (chs.take i)).2 := by
  induction i with
  | zero => exact born_zero pl
  | succ i ih =>
    have ih := ih (by omega)
    obtain ⟨ch, e⟩ : ∃ ch, chs[i]? = some ch := ⟨_, List.getElem?_eq_getElem (by omega)⟩
    have gd := f.good g i (by omega)
    have gd2 := gd.step (f i _ e).1 (f i _ e).2
    have eb : bornTo (edsTo cs chs (chs.length + 1)) (i + 1 + 1) = (behind (atC cs (chs.take i)).1 ch (atC cs (chs.take i)).2).foldl (bornStep (i + 1)) (bornTo (edsTo cs chs (chs.length + 1)) (i + 1)) := by
      show (List.getD (edsTo cs chs (chs.length + 1)) (i + 1) []).foldl (bornStep (i + 1)) _ = _
      rw [List.getD_eq_getElem?_getD, edsTo_get (by omega), atC_snoc e]
      rfl
    rw [atC_snoc e, eb]
    exact born_step gd gd2 ih
theorem grow1 {cs : List Col} {chs : List Ch} (j : Nat) : (atC cs (chs.take j)).2 ≤ (atC cs (chs.take (j + 1))).2 := by
  cases hj : chs[j]? with
  | none =>
    have : chs.take (j + 1) = chs.take j := by rw [List.take_add_one, hj]; simp
    rw [this]
    exact Int.le_refl _
  | some ch =>
    rw [atC_snoc hj]
    show _ ≤ numThen ch (atC cs (chs.take j)).2
    by_cases k : ch.kind = "add"
    · rw [kind_add k]
      omega
    · rw [kind_noadd k]
      exact Int.le_refl _
theorem grows {cs : List Col} {chs : List Ch} {i j : Nat} (h : i ≤ j) : (atC cs (chs.take i)).2 ≤ (atC cs (chs.take j)).2 := by
  induction j with
  | zero =>
    obtain rfl : i = 0 := by omega
    exact Int.le_refl _
  | succ j ih =>
    by_cases e : i = j + 1
    · rw [e]
      exact Int.le_refl _
    · exact Int.le_trans (ih (by omega)) (grow1 j)
/-- a History stands at h: its first columns (numbered) and its changes -/
def bornH (cs : List Col) (chs : List Ch) : List Int := bornOf (edsTo cs chs (chs.length + 1))
def HistAt (K : PySem.W.Frag) (H : Hp) (h : Addr) (cs : List Col) (chs : List Ch) : Prop := ∃ (dx e c b d : Addr) (es ts : List Addr), H h = some (.ins (He.ga K "History") dx (histFs e c b d)) ∧ H e = some (.lst (es.map V.ref)) ∧ Eds K H es (edsTo cs chs (chs.length + 1)) ∧ H c = some (.lst (ts.map V.ref)) ∧ Chs K H ts chs ∧
  H b = some (.lst ((bornH cs chs).map V.int)) ∧ H d = some (.lst (dropOf (edsTo cs chs (chs.length + 1)) (bornH cs chs).length))
theorem HistAt.keep {K : PySem.W.Frag} {H H' : Hp} {h : Addr} {cs : List Col} {chs : List Ch} (s : Same H H') (q : HistAt K H h cs chs) : HistAt K H' h cs chs := by
  obtain ⟨dx, e, c, b, d, es, ts, h1, h2, h3, h4, h5, h6, h7⟩ := q
  exact ⟨dx, e, c, b, d, es, ts, s _ _ h1, s _ _ h2, h3.keep s, s _ _ h4, h5.keep s, s _ _ h6, s _ _ h7⟩
/-- a History whose lists of births and drops were not there at H0 -/
def HistN (K : PySem.W.Frag) (H0 H : Hp) (h : Addr) (cs : List Col) (chs : List Ch) : Prop := ∃ (dx e c b d : Addr) (es ts : List Addr), (H h = some (.ins (He.ga K "History") dx (histFs e c b d)) ∧ H e = some (.lst (es.map V.ref)) ∧ Eds K H es (edsTo cs chs (chs.length + 1)) ∧ H c = some (.lst (ts.map V.ref)) ∧ Chs K H ts chs ∧
  H b = some (.lst ((bornH cs chs).map V.int)) ∧ H d = some (.lst (dropOf (edsTo cs chs (chs.length + 1)) (bornH cs chs).length))) ∧ H0 b = none ∧ H0 d = none
theorem HistN.at_ {K : PySem.W.Frag} {H0 H : Hp} {h : Addr} {cs : List Col} {chs : List Ch} (q : HistN K H0 H h cs chs) : HistAt K H h cs chs := by
  obtain ⟨dx, e, c, b, d, es, ts, q, _⟩ := q
  exact ⟨dx, e, c, b, d, es, ts, q⟩
/-- what may be a History: columns numbered by places, changes that can be done -/
structure HistOk (cs : List Col) (chs : List Ch) : Prop where
  pl : Placed cs
  g : Good cs cs.length
  f : Fits cs chs
  few : chs.length ≤ 40
theorem HistOk.born {cs : List Col} {chs : List Ch} (o : HistOk cs chs) : ((bornH cs chs).length : Int) = (atC cs chs).2 := by
  have := o.f.born o.pl o.g chs.length (Nat.le_refl _)
  rw [List.take_length] at this
  unfold bornH bornOf
  rw [edsTo_len]
  exact this
theorem HistOk.nums {cs : List Col} {chs : List Ch} (o : HistOk cs chs) : ∀ cs' ∈ edsTo cs chs (chs.length + 1), ∀ c ∈ cs', 0 ≤ c.num ∧ c.num < (bornH cs chs).length := by
  intro cs' hc' c hc
  obtain ⟨i, hi, rfl⟩ := List.mem_map.mp hc'
  have hi' : i ≤ chs.length := by have := List.mem_range.mp hi; omega
  have gd := o.f.good o.g i hi'
  have := (gd.ok c hc).2
  have e := grows (cs := cs) (chs := chs) hi'
  rw [List.take_length] at e
  rw [o.born]
  exact ⟨(gd.ok c hc).1.nu, by omega⟩
theorem HistOk.few6 {cs : List Col} {chs : List Ch} (o : HistOk cs chs) : ∀ cs' ∈ edsTo cs chs (chs.length + 1), cs'.length ≤ 1000 := by
  intro cs' hc'
  obtain ⟨i, hi, rfl⟩ := List.mem_map.mp hc'
  have hi' : i ≤ chs.length := by have := List.mem_range.mp hi; omega
  have := (o.f.good o.g i hi').six
  omega
theorem placed_numb (cs : List Col) : Placed (numb cs) := by
  intro i c h
  unfold numb at h
  rw [List.getElem?_mapIdx, Option.map_eq_some_iff] at h
  obtain ⟨c', _, e⟩ := h
  rw [← e]
def sp_Hist_init (K : PySem.W.Frag) : Sp := fun vs H Q _ => ∃ (h dx l t : Addr) (as ts : List Addr) (cs : List Col) (chs : List Ch), vs = [.ref h, .ref l, .ref t] ∧ H h = some (.ins (He.ga K "History") dx []) ∧ H l = some (.lst (as.map V.ref)) ∧ Cols K H as cs ∧ H t = some (.lst (ts.map V.ref)) ∧ Chs K H ts chs ∧
  (∀ c ∈ cs, ColOk c) ∧ HistOk (numb cs) chs ∧ ∀ (H' : Hp), HistN K H H' h (numb cs) chs → (∀ (b : Addr) (o : HO), b ≠ h → H b = some o → H' b = some o) → Q .non H'
def sp_Hist_initB (K : PySem.W.Frag) : Sp := fun vs H Q _ => ∃ (h dx l t : Addr) (as ts : List Addr) (cs : List Col) (chs : List Ch) (bb : Bool), vs = [.ref h, .ref l, .ref t] ∧ H h = some (.ins (He.ga K "History") dx []) ∧ H l = some (.lst (as.map V.ref)) ∧ Cols K H as cs ∧ SqB K bb H t (ts.map V.ref) ∧ Chs K H ts chs ∧
  (∀ c ∈ cs, ColOk c) ∧ HistOk (numb cs) chs ∧ ∀ (H' : Hp), HistN K H H' h (numb cs) chs → (∀ (b : Addr) (o : HO), b ≠ h → H b = some o → H' b = some o) → Q .non H'
theorem numb_names (cs : List Col) : (numb cs).map (·.name) = cs.map (·.name) := by
  unfold numb
  refine List.ext_getElem? fun i => ?_
  rw [List.getElem?_map, List.getElem?_mapIdx, List.getElem?_map]
  cases cs[i]? <;> rfl
theorem numb_len (cs : List Col) : (numb cs).length = cs.length := by unfold numb; rw [List.length_mapIdx]
/-- all but what stands at h is as it was -/
def Up (h : Addr) (H H' : Hp) : Prop := ∀ b o, b ≠ h → H b = some o → H' b = some o
theorem Cols.up {K : PySem.W.Frag} {H H' : Hp} {h C dx : Addr} {fs : List (Str × V)} (u : Up h H H') (hh : H h = some (.ins C dx fs)) (nf : fs.lookup ("name" : Str) = none) : ∀ {as : List Addr} {cs : List Col}, Cols K H as cs → Cols K H' as cs
  | _, _, .nil => .nil
  | _, _, .cons (a := a) (c := c) q t => .cons (by
      obtain ⟨dy, q⟩ := q
      refine ⟨dy, u _ _ (fun z => ?_) q⟩
      rw [z, hh] at q
      have e := (HO.ins.inj (Option.some.inj q)).2.2
      rw [e, colFs_name] at nf
      cases nf) (t.up u hh nf)
theorem Eds.up {K : PySem.W.Frag} {H H' : Hp} {h C dx : Addr} {fs : List (Str × V)} (u : Up h H H') (hh : H h = some (.ins C dx fs)) (nf : fs.lookup ("name" : Str) = none) : ∀ {es : List Addr} {eds : List (List Col)}, Eds K H es eds → Eds K H' es eds
  | _, _, .nil => .nil
  | _, _, .cons as q c t => .cons as (u _ _ (fun z => by rw [z, hh] at q; cases q) q) (c.up u hh nf) (t.up u hh nf)
theorem Chs.up {K : PySem.W.Frag} {H H' : Hp} {h C dx : Addr} {fs : List (Str × V)} (u : Up h H H') (hh : H h = some (.ins C dx fs)) : ∀ {as : List Addr} {cs : List Ch}, Chs K H as cs → Chs K H' as cs
  | _, _, .nil => .nil
  | _, _, .cons q t => .cons (by
      rcases q with (q | ⟨o, q⟩) | q
      · exact .inl (.inl (u _ _ (fun z => by rw [z, hh] at q; cases q) q))
      · exact .inl (.inr ⟨o, u _ _ (fun z => by rw [z, hh] at q; cases q) q⟩)
      · exact .inr q) (t.up u hh)
theorem lk_e2 {e c : Addr} : ([("_editions", .ref e), ("_changes", .ref c)] : List (Str × V)).lookup ("_editions" : Str) = some (.ref e) := by simp [List.lookup]
theorem lk_e3 {e c b : Addr} : ([("_editions", .ref e), ("_changes", .ref c), ("_births", .ref b)] : List (Str × V)).lookup ("_editions" : Str) = some (.ref e) := by simp [List.lookup]
theorem lk_b3 {e c b : Addr} : ([("_editions", .ref e), ("_changes", .ref c), ("_births", .ref b)] : List (Str × V)).lookup ("_births" : Str) = some (.ref b) := by
  have h1 : (("_births" : Str) == "_editions") = false := by decide +kernel
  have h2 : (("_births" : Str) == "_changes") = false := by decide +kernel
  simp [List.lookup, h1, h2]
theorem ok_Hist_initB (T : Tx K mg) : ∃ fd, FnOk P w K mg base CX0 11 (He.ma K (He.ga K "History") "__init__") fd ["self", "columns", "changes"] (sp_Hist_initB K) ∧
    FunD K "__init__" "History.__init__" (defArgs s_History___init__) (defBody s_History___init__) (defScope s_History___init__) (d_History___init__.dvs K) (d_History___init__.kws K) (He.ma K (He.ga K "History") "__init__") fd := by
  have C1 := (ok_numbered_columns (P := P) (w := w) (base := base) T).up (show 7 ≤ 10 by decide)
  have C2 := (ok_columns_of_editions (P := P) (w := w) (base := base) T).up (show 9 ≤ 10 by decide)
  have C3 := (ok_births (P := P) (w := w) (base := base) T).up (show 1 ≤ 10 by decide)
  have C4 := (ok_drops (P := P) (w := w) (base := base) T).up (show 3 ≤ 10 by decide)
  obtain ⟨fd, F⟩ := fd_History___init__ T
  refine ⟨fd, F.ok (CX := CX0) sc_History___init__ (fun vs H Q E h => ?_) (fun cdv A outer s H vs Q E hr h => ?_), F⟩
  · obtain ⟨h, dx, l, t, as, ts, cs, chs, bb, rfl, _⟩ := h
    rfl
  suffices hh : ∃ t, PSs (cxOf CX0 P w K mg base ["self", "columns", "changes"] "History.__init__" (defScope s_History___init__) (He.ma K (He.ga K "History") "__init__") cdv A outer s H E).nox (defBody s_History___init__) t ∧
      t { nx := fun _ H' => Q .non H', rt := Q } (start ["self", "columns", "changes"] vs) H by
    obtain ⟨t, h1, h2⟩ := hh
    exact ⟨t, h1.nox, h2⟩
  obtain ⟨h, dx, l, t, as, ts, cs, chs, bb, rfl, hh, hl, hc, ht, hch, hok, ho, k⟩ := h
  have cl := cl_History T
  refine ⟨_, pss_cons (ps_fld (pv 0) (pcall C2 hr (pa_cons (pcall C1 hr (pa_cons (pv 1) pa_nil)) (pa_cons (pv 2) pa_nil))) rfl)
    (pss_cons (ps_fld (pv 0) (pe_callTy call_list_of (by rfl) (fr_list T) (by decide +kernel) (pa_cons (pv 2) pa_nil)) rfl)
    (pss_cons (ps_fld (pv 0) (pcall C3 hr (pa_cons (pe_fld (pv 0) rfl) pa_nil)) rfl)
    (pss_one (ps_fld (pv 0) (pcall C4 hr (pa_cons (pe_fld (pv 0) rfl) (pa_cons (pe_callB call_len_seq (by rfl) (fr_len T) PySem.boot_len (pa_cons (pe_fld (pv 0) rfl) pa_nil)) pa_nil))) rfl)))), ?_⟩
  have one : 1 ≤ cs.length := by have := ho.g.one; rw [numb_len] at this; exact this
  have six : cs.length ≤ 6 := by have := ho.g.six; rw [numb_len] at this; exact this
  have nms : (cs.map (·.name)).Nodup := by have := ho.g.names; rw [numb_names] at this; exact this
  refine ⟨_, rfl, l, as, cs, rfl, hl, hc, one, six, nms, hok, fun l1 as1 H1 n1 s1 h1 c1 => ⟨_, rfl, l1, t, as1, ts, numb cs, chs, bb, rfl, h1, c1, ht.keep s1, hch.keep s1, ho.g, ho.f, ho.few, fun e es H2 n2 s2 he hE => ?_⟩⟩
  have s02 := s1.trans s2
  have hh2 := s02 _ _ hh
  have lk : ([] : List (Str × V)).lookup ("name" : Str) = none := rfl
  have eh : e ≠ h := fun z => by rw [z, hh2] at he; cases he
  refine ⟨_, rfl, h, _, dx, _, rfl, hh2, cl, na_History__editions T, (by show 0 < 1000; decide), ?_⟩
  have u3 : Up h H2 (upd H2 h (.ins (He.ga K "History") dx [("_editions", .ref e)])) := fun b o nb q => by rw [upd_ne nb]; exact q
  have hh3 : upd H2 h (.ins (He.ga K "History") dx [("_editions", .ref e)]) h = some (.ins (He.ga K "History") dx [("_editions", .ref e)]) := upd_same
  show tSeq _ _ _ _ (upd H2 h (.ins (He.ga K "History") dx [("_editions", .ref e)]))
  generalize upd H2 h (.ins (He.ga K "History") dx [("_editions", .ref e)]) = H3 at u3 hh3 ⊢
  have ht3 : SqB K bb H3 t (ts.map V.ref) := (ht.keep s02).up u3 hh2
  refine ⟨_, rfl, t, _, rfl, ht3.or, fun c nc => ?_⟩
  have hc4 : upd H3 c (.lst (ts.map V.ref)) c = some (.lst (ts.map V.ref)) := upd_same
  have u4 : Up h H2 (upd H3 c (.lst (ts.map V.ref))) := fun b o nb q => same_new nc _ _ (u3 b o nb q)
  have hh4 : upd H3 c (.lst (ts.map V.ref)) h = some (.ins (He.ga K "History") dx [("_editions", .ref e)]) := same_new nc _ _ hh3
  have ch : c ≠ h := fun z => by rw [z, hh3] at nc; cases nc
  generalize upd H3 c (.lst (ts.map V.ref)) = H4 at u4 hh4 hc4 ⊢
  refine ⟨_, rfl, h, _, dx, _, rfl, hh4, cl, na_History__changes T, (by show 1 < 1000; decide), ?_⟩
  rw [show putF ("_changes" : Str) (.ref c) [("_editions", .ref e)] = ([("_editions", .ref e), ("_changes", .ref c)] : List (Str × V)) from hist_put2 e c]
  have u5 : Up h H2 (upd H4 h (.ins (He.ga K "History") dx [("_editions", .ref e), ("_changes", .ref c)])) := fun b o nb q => by rw [upd_ne nb]; exact u4 b o nb q
  have hh5 : upd H4 h (.ins (He.ga K "History") dx [("_editions", .ref e), ("_changes", .ref c)]) h = some (.ins (He.ga K "History") dx [("_editions", .ref e), ("_changes", .ref c)]) := upd_same
  have hc5 : upd H4 h (.ins (He.ga K "History") dx [("_editions", .ref e), ("_changes", .ref c)]) c = some (.lst (ts.map V.ref)) := by rw [upd_ne ch]; exact hc4
  generalize upd H4 h (.ins (He.ga K "History") dx [("_editions", .ref e), ("_changes", .ref c)]) = H5 at u5 hh5 hc5 ⊢
  have hE5 : Eds K H5 es (edsTo (numb cs) chs (chs.length + 1)) := hE.up u5 hh2 lk
  have he5 := u5 _ _ eh he
  refine ⟨_, rfl, h, _, dx, _, _, rfl, hh5, cl, na_History__editions T, lk_e2, e, es, _, rfl, he5, hE5, by rw [edsTo_len]; have := ho.few; omega, ho.few6, fun b H6 n6 s6 hb6 => ?_⟩
  have u6 : Up h H2 H6 := fun b o nb q => s6 _ _ (u5 b o nb q)
  have hh6 := s6 _ _ hh5
  have hc6 := s6 _ _ hc5
  have bh : b ≠ h := fun z => by rw [z, hh5] at n6; cases n6
  refine ⟨_, rfl, h, _, dx, _, rfl, hh6, cl, na_History__births T, (by show 2 < 1000; decide), ?_⟩
  rw [show putF ("_births" : Str) (.ref b) [("_editions", .ref e), ("_changes", .ref c)] = ([("_editions", .ref e), ("_changes", .ref c), ("_births", .ref b)] : List (Str × V)) by rw [← hist_put2 e c]; exact hist_put3 e c b]
  have u7 : Up h H2 (upd H6 h (.ins (He.ga K "History") dx [("_editions", .ref e), ("_changes", .ref c), ("_births", .ref b)])) := fun b o nb q => by rw [upd_ne nb]; exact u6 b o nb q
  have hh7 : upd H6 h (.ins (He.ga K "History") dx [("_editions", .ref e), ("_changes", .ref c), ("_births", .ref b)]) h = some (.ins (He.ga K "History") dx [("_editions", .ref e), ("_changes", .ref c), ("_births", .ref b)]) := upd_same
  have hc7 : upd H6 h (.ins (He.ga K "History") dx [("_editions", .ref e), ("_changes", .ref c), ("_births", .ref b)]) c = some (.lst (ts.map V.ref)) := by rw [upd_ne ch]; exact hc6
  have hb7 : upd H6 h (.ins (He.ga K "History") dx [("_editions", .ref e), ("_changes", .ref c), ("_births", .ref b)]) b = some (.lst ((bornH (numb cs) chs).map V.int)) := by rw [upd_ne bh]; exact hb6
  generalize upd H6 h (.ins (He.ga K "History") dx [("_editions", .ref e), ("_changes", .ref c), ("_births", .ref b)]) = H7 at u7 hh7 hc7 hb7 ⊢
  have hE7 : Eds K H7 es (edsTo (numb cs) chs (chs.length + 1)) := hE.up u7 hh2 lk
  have he7 := u7 _ _ eh he
  have bl : (bornH (numb cs) chs).length ≤ 100000 := by
    have h1 := bornTo_len ho.few6 (edsTo (numb cs) chs (chs.length + 1)).length
    have h2 : (edsTo (numb cs) chs (chs.length + 1)).length ≤ 41 := by rw [edsTo_len]; have := ho.few; omega
    show (bornTo (edsTo (numb cs) chs (chs.length + 1)) _).length ≤ _
    omega
  refine ⟨_, rfl, h, _, dx, _, _, rfl, hh7, cl, na_History__editions T, lk_e3, _, rfl, h, _, dx, _, _, rfl, hh7, cl, na_History__births T, lk_b3, b, _, rfl, .inl (sqL_of hb7), e, es, _, (bornH (numb cs) chs).length, by rw [List.length_map]; rfl, he7, hE7, by rw [edsTo_len]; omega, by rw [edsTo_len]; have := ho.few; omega, bl, ho.nums, fun d H8 n8 s8 hd8 => ?_⟩
  have u8 : Up h H2 H8 := fun b o nb q => s8 _ _ (u7 b o nb q)
  have hh8 := s8 _ _ hh7
  have hc8 := s8 _ _ hc7
  have hb8 := s8 _ _ hb7
  have dh : d ≠ h := fun z => by rw [z, hh7] at n8; cases n8
  refine ⟨_, rfl, h, _, dx, _, rfl, hh8, cl, na_History__drops T, (by show 3 < 1000; decide), ?_⟩
  rw [show putF ("_drops" : Str) (.ref d) [("_editions", .ref e), ("_changes", .ref c), ("_births", .ref b)] = histFs e c b d by rw [← hist_put3 e c b]; exact hist_put4 e c b d]
  have u9 : Up h H2 (upd H8 h (.ins (He.ga K "History") dx (histFs e c b d))) := fun b o nb q => by rw [upd_ne nb]; exact u8 b o nb q
  have fb : H b = none := by
    cases hb0 : H b with
    | none => rfl
    | some o =>
      rw [u5 _ _ bh (s02 _ _ hb0)] at n6
      cases n6
  have fd0 : H d = none := by
    cases hd0 : H d with
    | none => rfl
    | some o =>
      rw [u7 _ _ dh (s02 _ _ hd0)] at n8
      cases n8
  refine k _ ⟨dx, e, c, b, d, es, ts, ⟨upd_same, u9 _ _ eh he, hE.up u9 hh2 lk, by rw [upd_ne ch]; exact hc8, (hch.keep s02).up u9 hh2, by rw [upd_ne bh]; exact hb8, by rw [upd_ne dh]; exact hd8⟩, fb, fd0⟩ fun b' o nb' q => u9 _ _ nb' (s02 _ _ q)
theorem ok_Hist_init (T : Tx K mg) : ∃ fd, FnOk P w K mg base CX0 11 (He.ma K (He.ga K "History") "__init__") fd ["self", "columns", "changes"] (sp_Hist_init K) ∧
    FunD K "__init__" "History.__init__" (defArgs s_History___init__) (defBody s_History___init__) (defScope s_History___init__) (d_History___init__.dvs K) (d_History___init__.kws K) (He.ma K (He.ga K "History") "__init__") fd := by
  obtain ⟨fd, G, F⟩ := ok_Hist_initB (P := P) (w := w) (base := base) T
  refine ⟨fd, G.imp fun vs H Q E h => ?_, F⟩
  obtain ⟨h, dx, l, t, as, ts, cs, chs, e, hh, hl, hc, ht, hch, hok, ho, k⟩ := h
  exact ⟨h, dx, l, t, as, ts, cs, chs, false, e, hh, hl, hc, sqL_of ht, hch, hok, ho, k⟩
/-! len(history) -/
theorem histNo {K : PySem.W.Frag} {H : Hp} {h : Addr} {cs : List Col} {chs : List Ch} (q : HistAt K H h cs chs) : ∃ dx fs, H h = some (.ins (He.ga K "History") dx fs) := by
  obtain ⟨dx, e, c, b, d, _, _, q, _⟩ := q
  exact ⟨dx, _, q⟩
def sp_Hist_len (K : PySem.W.Frag) : Sp := fun vs H Q _ => ∃ (h : Addr) (cs : List Col) (chs : List Ch), vs = [.ref h] ∧ HistAt K H h cs chs ∧ Q (.int (chs.length : Nat)) H
theorem ok_Hist_len (T : Tx K mg) : ∃ fd, FnOk P w K mg base CX0 1 (He.ma K (He.ga K "History") "__len__") fd ["self"] (sp_Hist_len K) ∧ Binds K fd ["self"] [] := by
  obtain ⟨fd, F⟩ := fd_History___len__ T
  refine ⟨fd, F.ok (CX := CX0) sc_History___len__ (fun vs H Q E h => ?_) (fun cdv A outer s H vs Q E hr h => ?_), F.bindsN fun _ _ _ _ _ _ us hl => match us, hl with | [_], _ => rfl⟩
  · obtain ⟨h, cs, chs, rfl, _⟩ := h
    rfl
  suffices hh : ∃ t, PSs (cxOf CX0 P w K mg base ["self"] "History.__len__" (defScope s_History___len__) (He.ma K (He.ga K "History") "__len__") cdv A outer s H E).nox (defBody s_History___len__) t ∧
      t { nx := fun _ H' => Q .non H', rt := Q } (start ["self"] vs) H by
    obtain ⟨t, h1, h2⟩ := hh
    exact ⟨t, h1.nox, h2⟩
  obtain ⟨h, cs, chs, rfl, ⟨dx, e, c, b, d, es, ts, hh, he, hE, hc, hC, hb, hd⟩, k⟩ := h
  refine ⟨_, pss_one (ps_ret (pe_callB call_len_seq (by rfl) (fr_len T) PySem.boot_len (pa_cons (pe_fld (pv 0) rfl) pa_nil))), ?_⟩
  refine ⟨_, rfl, h, _, dx, _, _, rfl, hh, cl_History T, na_History__changes T, histFs_changes, c, _, rfl, .inl (sqL_of hc), ?_⟩
  rw [List.length_map, hC.len]
  exact k
/-! is_edition -/
def isEd (n : Nat) : V → Bool
  | .int i => decide (0 ≤ i) && decide (i ≤ (n : Nat))
  | _ => false
def sp_is_edition (K : PySem.W.Frag) : Sp := fun vs H Q _ => ∃ (h : Addr) (cs : List Col) (chs : List Ch) (x : V) (t : String), vs = [.ref h, x] ∧ HistAt K H h cs chs ∧ chs.length ≤ 1000 ∧ TyX K H x (.type t) ∧ Q (.bl (isEd chs.length x)) H
theorem ok_is_edition (T : Tx K mg) : Callee P w K mg base CX0 3 "is_edition" ["history", "value"] [] (sp_is_edition K) := by
  have C1 := (ok_is_whole (P := P) (w := w) (base := base) T).up (show 1 ≤ 2 by decide)
  obtain ⟨fdL, FL, bL⟩ := ok_Hist_len (P := P) (w := w) (base := base) T
  refine mkCallee (fd_is_edition T) (mg_is_edition T) sc_is_edition (fun _ _ _ _ _ _ us hl => match us, hl with | [_, _], _ => rfl) (fun vs H Q E h => ?_) (fun cdv A outer s H vs Q E hr h => ?_)
  · obtain ⟨h, cs, chs, x, t, rfl, _⟩ := h
    rfl
  · obtain ⟨h, cs, chs, x, t, rfl, hh, few, ty, k⟩ := h
    obtain ⟨dx, fs, hi⟩ := histNo hh
    refine ⟨_, pss_one (ps_ret (pe_and (pcall C1 hr (pa_cons (pv 1) pa_nil)) (pe_one (pe_chain op_le op_le pe_int (pv 1) (pe_callB (call_lenOwn FL (me_History___len__ T) hr bL pass0) (by rfl) (fr_len T) PySem.boot_len (pa_cons (pv 0) pa_nil)))))), ?_⟩
    refine ⟨_, rfl, x, t, rfl, ty, _, rfl, ?_⟩
    cases x with
    | int i =>
      refine iteT ⟨_, rfl, _, _, rfl, rfl, _, rfl, ?_⟩
      have e : isEd chs.length (.int i) = (decide (0 ≤ i) && decide (i ≤ (chs.length : Nat))) := rfl
      rw [e] at k
      cases h1 : decide (0 ≤ i) with
      | false =>
        rw [h1] at k
        exact k
      | true =>
        rw [h1] at k
        exact ⟨_, rfl, h, dx, fs, rfl, hi, h, cs, chs, rfl, hh, _, rfl, ⟨by omega, by omega⟩, _, _, rfl, rfl, k⟩
    | _ => exact iteF k
/-! edition_of, of what is an edition, or None -/
def edOf (n : Nat) : V → Int
  | .int i => i
  | _ => n
def sp_edition_of (K : PySem.W.Frag) : Sp := fun vs H Q _ => ∃ (h : Addr) (cs : List Col) (chs : List Ch) (x : V), vs = [.ref h, x] ∧ HistAt K H h cs chs ∧ chs.length ≤ 1000 ∧ (x = .non ∨ isEd chs.length x = true) ∧ Q (.int (edOf chs.length x)) H
theorem ok_edition_of (T : Tx K mg) : Callee P w K mg base CX0 4 "edition_of" ["history", "edition"] [] (sp_edition_of K) := by
  have C1 := ok_is_edition (P := P) (w := w) (base := base) T
  obtain ⟨fdL, FL, bL⟩ := ok_Hist_len (P := P) (w := w) (base := base) T
  refine mkCallee (fd_edition_of T) (mg_edition_of T) sc_edition_of (fun _ _ _ _ _ _ us hl => match us, hl with | [_, _], _ => rfl) (fun vs H Q E h => ?_) (fun cdv A outer s H vs Q E hr h => ?_)
  · obtain ⟨h, cs, chs, x, rfl, _⟩ := h
    rfl
  · obtain ⟨h, cs, chs, x, rfl, hh, few, hx, k⟩ := h
    obtain ⟨dx, fs, hi⟩ := histNo hh
    refine ⟨_, pss_cons (ps_if (pt_cmpR op_isN (pv 1) pe_non (nomark _)) (pss_one (ps_ret (pe_callB (call_lenOwn FL (me_History___len__ T) (hr.mono (by decide)) bL pass0) (by rfl) (fr_len T) PySem.boot_len (pa_cons (pv 0) pa_nil)))) pss_nil)
      (pss_cons (ps_if (pt_not (pt_val (pcall C1 hr (pa_cons (pv 0) (pa_cons (pv 1) pa_nil))))) (pss_one ps_never) pss_nil) (pss_one (ps_ret (pv 1)))), ?_⟩
    rcases hx with rfl | hx
    · exact ⟨_, rfl, rfl, _, rfl, iteDT rfl ⟨_, rfl, h, dx, fs, rfl, hi, h, cs, chs, rfl, hh, _, rfl, ⟨by omega, by omega⟩, k⟩⟩
    · cases x with
      | int i =>
        refine ⟨_, rfl, rfl, _, rfl, iteD (fun z => by cases z) ⟨_, rfl, _, rfl, h, cs, chs, .int i, _, rfl, hh, few, .base (.int i), _, rfl, ?_⟩⟩
        rw [hx]
        exact iteF ⟨_, rfl, k⟩
      | _ => cases hx
/-! x[i] of an instance with an own __getitem__ -/
section
variable {X : Cx} {CX : CXT} {k : Nat} {f C : Addr} {fd : FuncData} {ps : List Str} {sp : Sp} {E : XK}
def rIxOwn (C : Addr) (sp : Sp) (E : XK) : R2 := fun x y H Q => ∃ (a dx : Addr) (fs : List (Str × V)), x = .ref a ∧ H a = some (.ins C dx fs) ∧ sp [x, y] H Q E
theorem pe_ixOwn {a b : Expr} {pos : Pos} {ta tb : TE} (F : FnOk X.prog X.w X.K X.mg X.base CX k f fd ps sp) (hm : Meth X.K C "__getitem__" f) (hf : PySem.W.fnIn X.K f = true) (hr : Room (k + 1) X.A) (hb : Binds X.K fd ps []) (hx : Passes CX X E) (ha : PE X a ta) (hb2 : PE X b tb)
    (hl : ∀ (x : Addr) (i : Value), subscripted b true (.ref x) i = runValue (.builtin "lifetime.subscript" ⟨[.ref x, i], []⟩)) : PE X (.Subscript a b pos) (tOp (rIxOwn C sp E) ta tb) := by
  refine ⟨fun pins s σ H Q I h => ?_⟩
  refine Subscript_ (binT ha hb2 I h fun v u s2 x y H2 I2 rx ry q => ?_)
  obtain ⟨c, dx, fs, ex, hc, q⟩ := q
  subst ex
  cases (show v = Value.ref c from rx)
  obtain ⟨mA, J, _⟩ := ins_get I2.hok hc
  obtain ⟨od, J, _⟩ := J.look
  obtain ⟨m, hF⟩ := I2.fr
  exact PySem.W.sub_K hF I2.ok.mod.kin J hm.at_ hf hm.fn (runA (us := [.ref c, u]) (vs := [.ref c, y]) F hr.in1 I2.env0.in1 hb hx I2 (.cons rfl (.cons ry .nil)) q) (hl c u)
end

/-! history[i], of an index of a change -/
theorem lref_getAt {as : List Addr} {j : Nat} {a : Addr} (h : as[j]? = some a) : atI (as.map V.ref) ((j : Nat) : Int) = some (.ref a) := by
  have hj := (List.getElem?_eq_some_iff.mp h).1
  unfold atI
  rw [ixN_ok (by omega) (by rw [List.length_map]; omega)]
  show (as.map V.ref)[j]? = _
  rw [List.getElem?_map, h]
  rfl
def sp_Hist_get (K : PySem.W.Frag) : Sp := fun vs H Q _ => ∃ (h : Addr) (cs : List Col) (chs : List Ch) (i : Nat), vs = [.ref h, .int (i : Nat)] ∧ HistAt K H h cs chs ∧ i < chs.length ∧ ∀ (t : Addr) (ch : Ch), chs[i]? = some ch → ChAt K H t ch → Q (.ref t) H
theorem ok_Hist_get (T : Tx K mg) : ∃ fd, FnOk P w K mg base CX0 2 (He.ma K (He.ga K "History") "__getitem__") fd ["self", "at"] (sp_Hist_get K) ∧ Binds K fd ["self", "at"] [] := by
  have C1 := ok_is_whole (P := P) (w := w) (base := base) T
  obtain ⟨fd, F⟩ := fd_History___getitem__ T
  refine ⟨fd, F.ok (CX := CX0) sc_History___getitem__ (fun vs H Q E h => ?_) (fun cdv A outer s H vs Q E hr h => ?_), F.bindsN fun _ _ _ _ _ _ us hl => match us, hl with | [_, _], _ => rfl⟩
  · obtain ⟨h, cs, chs, i, rfl, _⟩ := h
    rfl
  suffices hh : ∃ t, PSs (cxOf CX0 P w K mg base ["self", "at"] "History.__getitem__" (defScope s_History___getitem__) (He.ma K (He.ga K "History") "__getitem__") cdv A outer s H E).nox (defBody s_History___getitem__) t ∧
      t { nx := fun _ H' => Q .non H', rt := Q } (start ["self", "at"] vs) H by
    obtain ⟨t, h1, h2⟩ := hh
    exact ⟨t, h1.nox, h2⟩
  obtain ⟨h, cs, chs, i, rfl, ⟨dx, e, c, b, d, es, ts, hh, he, hE, hc, hC, hb, hd⟩, hi, k⟩ := h
  have cl := cl_History T
  refine ⟨_, pss_cons (ps_if (PW.pt (pw_or (pt_not (pt_val (pcall C1 hr (pa_cons (pv 1) pa_nil)))) (pw_or1 (pt_not (pt_chain op_le op_lt pe_int (pv 1) (pe_callB call_len (by rfl) (fr_len T) PySem.boot_len (pa_cons (pe_fld (pv 0) rfl) pa_nil))))))) (pss_one ps_never) pss_nil)
    (pss_one (ps_ret (pe_ix ix_list (pe_fld (pv 0) rfl) (pv 1) (fun _ _ => rfl)))), ?_⟩
  have hti : i < ts.length := by rw [hC.len]; exact hi
  obtain ⟨ch, hch, hat⟩ := hC.at_ (List.getElem?_eq_getElem hti)
  refine ⟨_, rfl, .int (i : Nat), _, rfl, .base (.int _), _, rfl, iteF ?_⟩
  refine ⟨_, rfl, _, _, rfl, rfl, _, rfl, ?_⟩
  rw [decide_eq_true (show (0 : Int) ≤ ((i : Nat) : Int) by omega)]
  refine iteT ⟨_, rfl, h, _, dx, _, _, rfl, hh, cl, na_History__changes T, histFs_changes, _, chs.length, rfl, .inl ⟨_, sqL_of hc, by rw [List.length_map, hC.len]⟩, _, _, rfl, rfl, _, rfl, ?_⟩
  rw [decide_eq_true (show ((i : Nat) : Int) < ((chs.length : Nat) : Int) by omega)]
  refine iteF (nxt ⟨_, rfl, h, _, dx, _, _, rfl, hh, cl, na_History__changes T, histFs_changes, _, rfl, c, _, ((i : Nat) : Int), _, rfl, rfl, sqL_of hc, lref_getAt (List.getElem?_eq_getElem hti), k _ ch hch hat⟩)
/-! history.columns(edition) -/
theorem isEd_ix {n : Nat} {x : V} (h : x = .non ∨ isEd n x = true) : 0 ≤ edOf n x ∧ edOf n x ≤ (n : Nat) := by
  rcases h with rfl | h
  · exact ⟨by show (0 : Int) ≤ (n : Nat); omega, Int.le_refl _⟩
  · cases x with
    | int i =>
      have h : (decide (0 ≤ i) && decide (i ≤ (n : Nat))) = true := h
      rw [Bool.and_eq_true] at h
      exact ⟨of_decide_eq_true h.1, of_decide_eq_true h.2⟩
    | _ => cases h
def colsAt (cs : List Col) (chs : List Ch) (x : V) : List Col := (atC cs (chs.take (edOf chs.length x).toNat)).1
def sp_Hist_columns (K : PySem.W.Frag) : Sp := fun vs H Q _ => ∃ (h : Addr) (cs : List Col) (chs : List Ch) (x : V), vs = [.ref h, x] ∧ HistAt K H h cs chs ∧ chs.length ≤ 1000 ∧ (x = .non ∨ isEd chs.length x = true) ∧
  ∀ (l : Addr) (as : List Addr) (H' : Hp), H l = none → Same H H' → H' l = some (.lst (as.map V.ref)) → Cols K H' as (colsAt cs chs x) → Q (.ref l) H'
theorem ok_Hist_columns (T : Tx K mg) : ∃ fd, FnOk P w K mg base CX0 5 (He.ma K (He.ga K "History") "columns") fd ["self", "edition"] (sp_Hist_columns K) ∧ Binds K fd ["self", "edition"] [] ∧ ∃ ds, Vals [V.non] ds ∧ Binds K fd ["self", "edition"] ds := by
  have C1 := ok_edition_of (P := P) (w := w) (base := base) T
  obtain ⟨fd, F⟩ := fd_History_columns T
  refine ⟨fd, F.ok (CX := CX0) sc_History_columns (fun vs H Q E h => ?_) (fun cdv A outer s H vs Q E hr h => ?_), ?_, ?_⟩
  · obtain ⟨h, cs, chs, x, rfl, _⟩ := h
    rfl
  · suffices hh : ∃ t, PSs (cxOf CX0 P w K mg base ["self", "edition"] "History.columns" (defScope s_History_columns) (He.ma K (He.ga K "History") "columns") cdv A outer s H E).nox (defBody s_History_columns) t ∧
        t { nx := fun _ H' => Q .non H', rt := Q } (start ["self", "edition"] vs) H by
      obtain ⟨t, h1, h2⟩ := hh
      exact ⟨t, h1.nox, h2⟩
    obtain ⟨h, cs, chs, x, rfl, hq, few, hx, k⟩ := h
    obtain ⟨dx, e, c, b, d, es, ts, hh, he, hE, hc, hC, hb, hd⟩ := id hq
    have bd := isEd_ix hx
    have hlen : es.length = chs.length + 1 := by rw [hE.len, edsTo_len]
    have hi : (edOf chs.length x).toNat < es.length := by omega
    obtain ⟨cs1, as1, hcs1, hea, hc1⟩ := hE.at_ (List.getElem?_eq_getElem hi)
    rw [edsTo_get (by omega)] at hcs1
    obtain rfl := Option.some.inj hcs1
    refine ⟨_, pss_one (ps_ret (pe_callTy call_list_of (by rfl) (fr_list T) (by decide +kernel) (pa_cons (pe_ix ix_list (pe_fld (pv 0) rfl) (pcall C1 hr (pa_cons (pv 0) (pa_cons (pv 1) pa_nil))) (fun _ _ => rfl)) pa_nil))), ?_⟩
    refine ⟨_, rfl, h, _, dx, _, _, rfl, hh, cl_History T, na_History__editions T, histFs_editions, _, rfl, _, rfl, h, cs, chs, x, rfl, hq, few, hx, e, es.map V.ref, edOf chs.length x, .ref es[(edOf chs.length x).toNat], rfl, rfl, sqL_of he, ?_, _, _, rfl, .inl (sqL_of hea), fun l nl => ?_⟩
    · unfold atI
      rw [ixN_ok bd.1 (by rw [List.length_map]; omega)]
      show (es.map V.ref)[(edOf chs.length x).toNat]? = _
      rw [List.getElem?_map, List.getElem?_eq_getElem hi]
      rfl
    · exact k l as1 _ nl (same_new nl) upd_same (hc1.keep (same_new nl))
  · have h := F.binds1 (ps := ["self", "edition"]) 2 1 (by intro z; cases z) rfl (fun TT kV doc pm an cdv ct us its h1 h2 => ?_)
    · obtain ⟨ds, v, b⟩ := h
      cases ds with
      | nil => exact b
      | cons _ _ => cases v
    · match us, h1, its, h2 with
      | [u0, u1], _, [i0], _ => exact ⟨_, rfl, rfl⟩
  · exact F.binds1 (ps := ["self", "edition"]) 1 0 (by intro z; cases z) rfl (fun TT kV doc pm an cdv ct us its h1 h2 => by
      match us, h1, its, h2 with
      | [u0], _, [i0], _ => exact ⟨_, rfl, rfl⟩)
/-! History.column, of a name that is there -/
def sp_Hist_column (K : PySem.W.Frag) : Sp := fun vs H Q _ => ∃ (h : Addr) (cs : List Col) (chs : List Ch) (x : V) (c : Col), vs = [.ref h, .str c.name, x] ∧ HistAt K H h cs chs ∧ chs.length ≤ 1000 ∧ (x = .non ∨ isEd chs.length x = true) ∧ c ∈ colsAt cs chs x ∧ ((colsAt cs chs x).map (·.name)).Nodup ∧
  ∀ a, ColA K H a c → Q (.ref a) H
theorem ok_Hist_column (T : Tx K mg) : ∃ fd, FnOk P w K mg base CX0 5 (He.ma K (He.ga K "History") "column") fd ["self", "name", "edition"] (sp_Hist_column K) ∧ (∃ g, KBn K fd ["self", "name", "edition"] 2 ["edition"] g (fun vs zs => vs ++ zs)) ∧ ∃ ds, Vals [V.non] ds ∧ Binds K fd ["self", "name", "edition"] ds := by
  have C1 := ok_edition_of (P := P) (w := w) (base := base) T
  have C2 := (ok_column_named (P := P) (w := w) (base := base) T).up (show 1 ≤ 4 by decide)
  obtain ⟨fd, F⟩ := fd_History_column T
  refine ⟨fd, F.ok (CX := CX0) sc_History_column (fun vs H Q E h => ?_) (fun cdv A outer s H vs Q E hr h => ?_), ?_, ?_⟩
  · obtain ⟨h, cs, chs, x, c, rfl, _⟩ := h
    rfl
  · suffices hh : ∃ t, PSs (cxOf CX0 P w K mg base ["self", "name", "edition", "found"] "History.column" (defScope s_History_column) (He.ma K (He.ga K "History") "column") cdv A outer s H E).nox (defBody s_History_column) t ∧
        t { nx := fun _ H' => Q .non H', rt := Q } (start ["self", "name", "edition", "found"] vs) H by
      obtain ⟨t, h1, h2⟩ := hh
      exact ⟨t, h1.nox, h2⟩
    obtain ⟨h, cs, chs, x, c0, rfl, hq, few, hx, hcm, hnd, k⟩ := h
    have nd := sc_History_column.nd
    obtain ⟨dx, e, c, b, d, es, ts, hh, he, hE, hc, hC, hb, hd⟩ := id hq
    have bd := isEd_ix hx
    have hlen : es.length = chs.length + 1 := by rw [hE.len, edsTo_len]
    have hi : (edOf chs.length x).toNat < es.length := by omega
    obtain ⟨cs1, as1, hcs1, hea, hc1⟩ := hE.at_ (List.getElem?_eq_getElem hi)
    rw [edsTo_get (by omega)] at hcs1
    obtain rfl := Option.some.inj hcs1
    refine ⟨_, (pss_cons (ps_set (i := 3) nd rfl (Or.inl rfl) (pcall C2 hr (pa_cons (pe_ix ix_list (pe_fld (pv 0) rfl) (pcall C1 hr (pa_cons (pv 0) (pa_cons (pv 2) pa_nil))) (fun _ _ => rfl)) (pa_cons (pv 1) pa_nil))))
        (pss_cons (ps_if (pt_cmpR op_isN (pv 3) pe_non (nomark _)) (pss_one ps_never) pss_nil)
        (pss_one (ps_ret (pv 3))))), ?_⟩
    have ha0 : atI (es.map V.ref) (edOf chs.length x) = some (.ref es[(edOf chs.length x).toNat]) := by
      unfold atI
      rw [ixN_ok bd.1 (by rw [List.length_map]; omega)]
      show (es.map V.ref)[(edOf chs.length x).toNat]? = _
      rw [List.getElem?_map, List.getElem?_eq_getElem hi]
      rfl
    have hfu := find_uniq (cs := colsAt cs chs x) hnd hcm rfl
    refine q_asgX ⟨_, rfl, h, _, dx, _, _, rfl, hh, cl_History T, na_History__editions T, histFs_editions, _, rfl, _, rfl, h, cs, chs, x, rfl, hq, few, hx, e, es.map V.ref, edOf chs.length x, .ref es[(edOf chs.length x).toNat], rfl, rfl, sqL_of he, ha0, _, rfl, _, as1, colsAt cs chs x, c0.name, rfl, .inl (sqL_of hea), hc1, fun v hv => ?_⟩
    rcases hv with ⟨_, hno⟩ | ⟨j, a, c', rfl, ha, hcj, hfi⟩
    · rw [hfu] at hno
      cases hno
    obtain rfl : c0 = c' := Option.some.inj (hfu.symm.trans hfi)
    obtain ⟨c', q1, q2⟩ := hc1.at_ ha
    obtain rfl : c0 = c' := Option.some.inj (hcj.symm.trans q1)
    refine ⟨_, rfl, rfl, _, rfl, iteD (fun z => by cases z) (nxt ⟨_, rfl, k a q2⟩)⟩
  · have h := F.kbinds0 (ps := ["self", "name", "edition"]) 2 ["edition"] [] (fun us mv ws => us ++ ws) (by intro z; cases z) (by intro q hq; cases hq) (fun r1 _ r4 => r1.append r4) (fun D doc pm an cdv ct us mv ws h1 h2 h3 => ?_)
    · obtain ⟨mv, h⟩ := h
      exact ⟨_, h⟩
    · match us, h1, mv, h2, ws, h3 with
      | [u0, u1], _, [], _, [w0], _ => exact rfl
  · exact F.binds0 (ps := ["self", "name", "edition"]) 2 (by intro z; cases z) rfl (fun D doc pm an cdv ct us ks h1 h2 => by
      match us, h1, ks, h2 with
      | [u0, u1], _, [i0], _ => exact ⟨_, _, _, _, _, _, rfl, rfl, rfl⟩)
/-! a History as the receiver of a method; whole numbers of values -/
theorem histFs_no {e c b d : Addr} {m : Str} (h1 : (m == "_editions") = false) (h2 : (m == "_changes") = false) (h3 : (m == "_births") = false) (h4 : (m == "_drops") = false) : (histFs e c b d).lookup m = none := by
  unfold histFs
  simp [List.lookup, h1, h2, h3, h4]
theorem histM {K : PySem.W.Frag} {H : Hp} {h : Addr} {cs : List Col} {chs : List Ch} (q : HistAt K H h cs chs) : ∃ dx fs, H h = some (.ins (He.ga K "History") dx fs) ∧ fs.lookup ("columns" : Str) = none := by
  obtain ⟨dx, e, c, b, d, es, ts, hh, _⟩ := q
  exact ⟨dx, _, hh, histFs_no (by decide +kernel) (by decide +kernel) (by decide +kernel) (by decide +kernel)⟩
theorem histMx (m : Str) (d : ((m == "_editions") || ((m == "_changes") || ((m == "_births") || (m == "_drops")))) = false) {K : PySem.W.Frag} {H : Hp} {h : Addr} {cs : List Col} {chs : List Ch} (q : HistAt K H h cs chs) : ∃ dx fs, H h = some (.ins (He.ga K "History") dx fs) ∧ fs.lookup m = none := by
  obtain ⟨dx, e, c, b, d', es, ts, hh, _⟩ := q
  rw [Bool.or_eq_false_iff, Bool.or_eq_false_iff, Bool.or_eq_false_iff] at d
  exact ⟨dx, _, hh, histFs_no d.1 d.2.1 d.2.2.1 d.2.2.2⟩
theorem isEd_nat' {n m : Nat} (h : m ≤ n) : isEd n (.int (m : Nat)) = true := by
  show (decide ((0 : Int) ≤ (m : Nat)) && decide (((m : Nat) : Int) ≤ (n : Nat))) = true
  rw [decide_eq_true (by omega), decide_eq_true (by omega)]
  rfl
theorem ix_int {xs : List V} {n : Int} {v : V} (h0 : 0 ≤ n) (h : xs[n.toNat]? = some v) : atI xs n = some v := by
  have hl := (List.getElem?_eq_some_iff.mp h).1
  unfold atI
  rw [ixN_ok h0 (by omega)]
  exact h

/-! history.numbers() -/
def sp_Hist_numbers (K : PySem.W.Frag) : Sp := fun vs H Q _ => ∃ (h : Addr) (cs : List Col) (chs : List Ch), vs = [.ref h] ∧ HistAt K H h cs chs ∧ HistOk cs chs ∧ Q (.int (atC cs chs).2) H
theorem ok_Hist_numbers (T : Tx K mg) : ∃ fd, FnOk P w K mg base CX0 1 (He.ma K (He.ga K "History") "numbers") fd ["self"] (sp_Hist_numbers K) ∧ Binds K fd ["self"] [] := by
  refine mkMeth (fd_History_numbers T) sc_History_numbers (fun _ _ _ _ _ _ us hl => match us, hl with | [_], _ => rfl) (fun vs H Q E h => ?_) (fun cdv A outer s H vs Q E hr h => ?_)
  · obtain ⟨h, cs, chs, rfl, _⟩ := h
    rfl
  obtain ⟨h, cs, chs, rfl, ⟨dx, e, c, b, d, es, ts, hh, he, hE, hc, hC, hb, hd⟩, o, k⟩ := h
  refine ⟨_, pss_one (ps_ret (pe_callB call_len_seq (by rfl) (fr_len T) PySem.boot_len (pa_cons (pe_fld (pv 0) rfl) pa_nil))), ?_⟩
  refine ⟨_, rfl, h, _, dx, _, _, rfl, hh, cl_History T, na_History__births T, histFs_births, b, _, rfl, .inl (sqL_of hb), ?_⟩
  rw [List.length_map, o.born]
  exact k
/-! is_given, of a whole number -/
def sp_is_given (K : PySem.W.Frag) : Sp := fun vs H Q _ => ∃ (h : Addr) (cs : List Col) (chs : List Ch) (n : Int), vs = [.ref h, .int n] ∧ HistAt K H h cs chs ∧ HistOk cs chs ∧ Q (.bl (decide (0 ≤ n) && decide (n < (atC cs chs).2))) H
theorem ok_is_given (T : Tx K mg) : Callee P w K mg base CX0 2 "is_given" ["history", "value"] [] (sp_is_given K) := by
  have C1 := ok_is_whole (P := P) (w := w) (base := base) T
  obtain ⟨fdN, FN, bN⟩ := ok_Hist_numbers (P := P) (w := w) (base := base) T
  refine mkCallee (fd_is_given T) (mg_is_given T) sc_is_given (fun _ _ _ _ _ _ us hl => match us, hl with | [_, _], _ => rfl) (fun vs H Q E h => ?_) (fun cdv A outer s H vs Q E hr h => ?_)
  · obtain ⟨h, cs, chs, n, rfl, _⟩ := h
    rfl
  · obtain ⟨h, cs, chs, n, rfl, hh, o, k⟩ := h
    obtain ⟨dx, fs, hi, no⟩ := histMx "numbers" (by decide +kernel) hh
    refine ⟨_, pss_one (ps_ret (pe_and (pcall C1 hr (pa_cons (pv 1) pa_nil)) (pe_one (pe_chain op_le op_lt pe_int (pv 1) (pe_meth0 (pv 0) (cl_History T) (me_History_numbers T) FN hr bN .nil pass0))))), ?_⟩
    refine ⟨_, rfl, .int n, "int", rfl, .base (.int n), _, rfl, iteT ⟨_, rfl, _, _, rfl, rfl, _, rfl, ?_⟩⟩
    cases h1 : decide (0 ≤ n) with
    | false =>
      rw [h1] at k
      exact k
    | true =>
      rw [h1] at k
      exact ⟨_, rfl, h, dx, fs, rfl, hi, no, h, cs, chs, rfl, hh, o, _, _, rfl, rfl, k⟩
/-! heaps: all but one place; lists and dicts apart -/
/-- all but what stands at p is as it was -/
def But (p : Addr) (H H' : Hp) : Prop := ∀ b o, b ≠ p → H b = some o → H' b = some o
theorem But.refl (p : Addr) (H : Hp) : But p H H := fun _ _ _ e => e
theorem But.trans {p : Addr} {H H1 H2 : Hp} (a : But p H H1) (b : But p H1 H2) : But p H H2 := fun c o h e => b c o h (a c o h e)
theorem But.of {p : Addr} {H H' : Hp} (s : Same H H') : But p H H' := fun b o _ e => s b o e
theorem But.mut {p : Addr} {H : Hp} {o : HO} : But p H (upd H p o) := fun b u h e => by
  rw [upd_ne h]
  exact e
/-- nothing that stood ahead of p is touched -/
theorem But.same {p : Addr} {H0 H H' : Hp} (b : But p H H') (s : Same H0 H) (n : H0 p = none) : Same H0 H' := fun c o e => b c o (ne_of_none e n) (s c o e)
theorem npool0 {H : Hp} {p l : Addr} {o : HO} (h : H p = some o) (n : H l = none) : l ≠ p := fun e => by
  rw [e, h] at n
  cases n
theorem KeepNL.ofBut {H H' : Hp} {p : Addr} {zs : List V} (h : H p = some (.lst zs)) (b : But p H H') : KeepNL H H' := fun c o n e => b c o (fun q => by rw [q, h] at e; exact n zs (Option.some.inj e).symm) e
/-- all that is neither a list nor a dict is as it was -/
def KeepT (H H' : Hp) : Prop := ∀ b o, (∀ zs, o ≠ HO.lst zs) → (∀ kvs, o ≠ HO.dK kvs) → H b = some o → H' b = some o
theorem KeepT.of {H H' : Hp} (s : Same H H') : KeepT H H' := fun b o _ _ e => s b o e
theorem KeepT.trans {H H1 H2 : Hp} (a : KeepT H H1) (b : KeepT H1 H2) : KeepT H H2 := fun c o n m e => b c o n m (a c o n m e)
theorem KeepT.lst {H : Hp} {D : Addr} {zs : List V} {o : HO} (h : H D = some (.lst zs)) : KeepT H (upd H D o) := fun b o' n _ e => by
  rw [upd_ne (fun q => by rw [q, h] at e; exact n zs (Option.some.inj e).symm)]
  exact e
theorem KeepT.dct {H : Hp} {D : Addr} {kvs : List (Key × V)} {o : HO} (h : H D = some (.dK kvs)) : KeepT H (upd H D o) := fun b o' _ n e => by
  rw [upd_ne (fun q => by rw [q, h] at e; exact n kvs (Option.some.inj e).symm)]
  exact e
theorem KeepT.but {H H' : Hp} {p : Addr} {zs : List V} (h : H p = some (.lst zs)) (b : But p H H') : KeepT H H' := fun c o n _ e => b c o (fun q => by rw [q, h] at e; exact n zs (Option.some.inj e).symm) e
theorem sqT_keepT {K : PySem.W.Frag} {H H' : Hp} {a : Addr} {xs : List V} (s : KeepT H H') (h : SqT K H a xs) : SqT K H' a xs := by
  rcases h with (h | ⟨o, h⟩) | h
  · exact .inl (.inl (s _ _ (fun _ z => by cases z) (fun _ z => by cases z) h))
  · exact .inl (.inr ⟨o, s _ _ (fun _ z => by cases z) (fun _ z => by cases z) h⟩)
  · exact .inr h
theorem sqT_keepNL {K : PySem.W.Frag} {H H' : Hp} {a : Addr} {xs : List V} (s : KeepNL H H') (h : SqT K H a xs) : SqT K H' a xs := by
  rcases h with (h | ⟨o, h⟩) | h
  · exact .inl (.inl (s _ _ (fun _ z => by cases z) h))
  · exact .inl (.inr ⟨o, s _ _ (fun _ z => by cases z) h⟩)
  · exact .inr h
theorem pl_e1 {σ : L2.St} {H : Hp} {X : TE} {r : List V → Hp → VK → Prop} {Q : VK} (h : X σ H fun v H1 => r [v] H1 Q) : tCB r (tCons X tNil) σ H Q := h
theorem pl_op {σ : L2.St} {H : Hp} {ta tb : TE} {r : V → V → Hp → VK → Prop} {Q : VK} (h : ta σ H fun x H1 => tb σ H1 fun y H2 => r x y H2 Q) : tOp r ta tb σ H Q := h
theorem at_zero {xs : List V} {v : V} (h : xs[0]? = some v) : atI xs 0 = some v := by
  have hj := (List.getElem?_eq_some_iff.mp h).1
  unfold atI
  rw [ixN_ok (by omega) (by omega)]
  exact h
theorem refs_no {as : List Addr} {a b : Int} : ¬ as.map V.ref = [.int a, .int b] := fun e => by
  cases as with
  | nil => cases e
  | cons x xs => cases (List.cons.inj e).1
theorem lref_at {as : List Addr} {j : Nat} {a : Addr} (h : as[j]? = some a) : atI (as.map V.ref) ((j : Nat) : Int) = some (.ref a) := by
  have hj := (List.getElem?_eq_some_iff.mp h).1
  unfold atI
  rw [ixN_ok (by omega) (by rw [List.length_map]; omega)]
  show (as.map V.ref)[j]? = _
  rw [List.getElem?_map, h]
  rfl

/-! Histories that stay, histories that go on -/
theorem numb_placed {cs : List Col} (p : Placed cs) : numb cs = cs := by
  unfold numb
  refine List.ext_getElem? fun i => ?_
  rw [List.getElem?_mapIdx]
  cases e : cs[i]? with
  | none => rfl
  | some c =>
    have := p i c e
    cases c
    simp only at this
    subst this
    rfl
theorem Cols.keepNL {K : PySem.W.Frag} {H H' : Hp} (s : KeepNL H H') : ∀ {as : List Addr} {cs : List Col}, Cols K H as cs → Cols K H' as cs
  | _, _, .nil => .nil
  | _, _, .cons h t => .cons (by
      obtain ⟨dx, q⟩ := h
      exact ⟨dx, s _ _ (fun _ z => by cases z) q⟩) (t.keepNL s)
theorem Chs.keepNL {K : PySem.W.Frag} {H H' : Hp} (s : KeepNL H H') : ∀ {as : List Addr} {cs : List Ch}, Chs K H as cs → Chs K H' as cs
  | _, _, .nil => .nil
  | _, _, .cons h t => .cons (by
      rcases h with (q | ⟨o, q⟩) | q
      · exact .inl (.inl (s _ _ (fun _ z => by cases z) q))
      · exact .inl (.inr ⟨o, s _ _ (fun _ z => by cases z) q⟩)
      · exact .inr q) (t.keepNL s)
theorem Eds.keepP {K : PySem.W.Frag} {H H' : Hp} {p : Addr} {y0 y1 : Int} (hp : H p = some (.lst [.int y0, .int y1])) (bt : But p H H') : ∀ {es : List Addr} {eds : List (List Col)}, Eds K H es eds → Eds K H' es eds
  | _, _, .nil => .nil
  | _, _, .cons as h c t => .cons as (bt _ _ (fun e => by rw [e, hp] at h; exact refs_no (HO.lst.inj (Option.some.inj h)).symm) h) (c.keepNL (KeepNL.ofBut hp bt)) (t.keepP hp bt)
/-- draws leave a History alone that was made behind the pool -/
theorem HistN.but {K : PySem.W.Frag} {H0 H H' : Hp} {h p : Addr} {cs : List Col} {chs : List Ch} {o : HO} {y0 y1 : Int} (q : HistN K H0 H h cs chs) (h0 : H0 p = some o) (hp : H p = some (.lst [.int y0, .int y1])) (bt : But p H H') : HistN K H0 H' h cs chs := by
  obtain ⟨dx, e, c, b, d, es, ts, ⟨q1, q2, q3, q4, q5, q6, q7⟩, qb, qd⟩ := q
  have kn := KeepNL.ofBut hp bt
  refine ⟨dx, e, c, b, d, es, ts, ⟨kn _ _ (fun _ z => by cases z) q1, bt _ _ (fun z => ?_) q2, q3.keepP hp bt, bt _ _ (fun z => ?_) q4, q5.keepNL kn, bt _ _ (fun z => ?_) q6, bt _ _ (fun z => ?_) q7⟩, qb, qd⟩
  · rw [z, hp] at q2
    exact refs_no (HO.lst.inj (Option.some.inj q2)).symm
  · rw [z, hp] at q4
    exact refs_no (HO.lst.inj (Option.some.inj q4)).symm
  · rw [z, h0] at qb
    cases qb
  · rw [z, h0] at qd
    cases qd
theorem Chs.keepT {K : PySem.W.Frag} {H H' : Hp} (s : KeepT H H') : ∀ {as : List Addr} {cs : List Ch}, Chs K H as cs → Chs K H' as cs
  | _, _, .nil => .nil
  | _, _, .cons h t => .cons (sqT_keepT s h) (t.keepT s)
theorem Chs.app {K : PySem.W.Frag} {H : Hp} : ∀ {as bs : List Addr} {cs ds : List Ch}, Chs K H as cs → Chs K H bs ds → Chs K H (as ++ bs) (cs ++ ds)
  | _, _, _, _, .nil, h => h
  | _, _, _, _, .cons h t, q => .cons h (t.app q)
theorem edsTo_app {cs : List Col} {chs : List Ch} {ch : Ch} : edsTo cs (chs ++ [ch]) ((chs ++ [ch]).length + 1) = edsTo cs chs (chs.length + 1) ++ [behind (atC cs chs).1 ch (atC cs chs).2] := by
  have e : (chs ++ [ch]).length = chs.length + 1 := by rw [List.length_append]; rfl
  rw [e, edsTo_succ]
  refine congr (congrArg _ ?_) ?_
  · unfold edsTo
    refine List.map_congr_left fun i hi => ?_
    rw [List.mem_range] at hi
    rw [List.take_append_of_le_length (by omega)]
  · rw [List.take_of_length_le (by omega)]
    show [(List.foldl stepC (cs, (cs.length : Int)) (chs ++ [ch])).1] = _
    rw [List.foldl_append]
    rfl
theorem atC_app {cs : List Col} {chs : List Ch} {ch : Ch} : (atC cs (chs ++ [ch])).2 = numThen ch (atC cs chs).2 := by
  show (List.foldl stepC (cs, (cs.length : Int)) (chs ++ [ch])).2 = _
  rw [List.foldl_append]
  rfl
theorem Fits.app {cs : List Col} {chs : List Ch} {ch : Ch} (f : Fits cs chs) (h1 : ch.fits = true) (h2 : hindV (atC cs chs).1 ch = .non) : Fits cs (chs ++ [ch]) := by
  intro i c hc
  by_cases hi : i < chs.length
  · rw [List.getElem?_append_left hi] at hc
    rw [List.take_append_of_le_length (by omega)]
    exact f i c hc
  · have e : i = chs.length := by
      have := (List.getElem?_eq_some_iff.mp hc).1
      rw [List.length_append] at this
      have q : [ch].length = 1 := rfl
      omega
    subst e
    rw [List.getElem?_append_right (Nat.le_refl _), Nat.sub_self] at hc
    obtain rfl := Option.some.inj hc
    rw [List.take_append_of_le_length (Nat.le_refl _), List.take_length]
    exact ⟨h1, h2⟩
def Asc (cs : List Col) : Prop := (cs.map (·.num)).Pairwise (· < ·)
theorem sorted_eq : ∀ {xs ys : List Int}, ys.Perm xs → ys.Pairwise (· ≤ ·) → xs.Pairwise (· < ·) → ys = xs
  | [], ys, p, _, _ => p.eq_nil
  | x :: xs, [], p, _, _ => by have := p.length_eq; simp at this
  | x :: xs, y :: ys, p, s, a => by
    rw [List.pairwise_cons] at s a
    have h1 : y ∈ x :: xs := p.mem_iff.mp List.mem_cons_self
    have h2 : x ∈ y :: ys := p.mem_iff.mpr List.mem_cons_self
    have l1 : y ≤ x := by
      rcases List.mem_cons.mp h2 with e | h
      · omega
      · exact s.1 x h
    have l2 : x ≤ y := by
      rcases List.mem_cons.mp h1 with e | h
      · omega
      · have := a.1 y h
        omega
    obtain rfl : y = x := by omega
    rw [sorted_eq p.cons_inv s.2 a.2]
theorem asc_first {cs : List Col} (p : Placed cs) : Asc cs := by
  unfold Asc
  rw [List.pairwise_map, List.pairwise_iff_getElem]
  intro i j hi hj hij
  have h1 := p i cs[i] (List.getElem?_eq_getElem hi)
  have h2 := p j cs[j] (List.getElem?_eq_getElem hj)
  omega
theorem asc_map {cs : List Col} {f : Col → Col} (a : Asc cs) (h : ∀ c ∈ cs, (f c).num = c.num) : Asc (cs.map f) := by
  have e : (cs.map f).map (·.num) = cs.map (·.num) := by
    rw [List.map_map]
    exact List.map_congr_left h
  unfold Asc
  rw [e]
  exact a
theorem asc_step {cs : List Col} {n : Int} {ch : Ch} (g : Good cs n) (a : Asc cs) : Asc (behind cs ch n) := by
  have hc : ∀ c : Col, (chgC c ch).num = c.num := fun c => by cases ch <;> rfl
  have hm : ∀ c ∈ cs, (if c.name = ch.name then chgC c ch else c).num = c.num := fun c _ => by
    split
    · exact hc c
    · rfl
  cases ch with
  | add nm gr d =>
    have a' : (cs.map (·.num)).Pairwise (· < ·) := a
    show ((cs ++ [(⟨nm, gr, d, n⟩ : Col)]).map (·.num)).Pairwise (· < ·)
    rw [List.map_append, List.pairwise_append]
    refine ⟨a', by simp, fun x hx y hy => ?_⟩
    obtain ⟨c, hc1, rfl⟩ := List.mem_map.mp hx
    rw [List.map_cons, List.map_nil, List.mem_singleton] at hy
    rw [hy]
    exact (g.ok c hc1).2
  | drop nm =>
    have a' : (cs.map (·.num)).Pairwise (· < ·) := a
    exact a'.sublist (List.filter_sublist.map _)
  | rename _ _ => exact asc_map a hm
  | dflt _ _ => exact asc_map a hm
  | great _ _ _ => exact asc_map a hm
  | fill _ _ => exact asc_map a hm
theorem asc_at {cs : List Col} {chs : List Ch} (o : HistOk cs chs) : ∀ i, i ≤ chs.length → Asc (atC cs (chs.take i)).1
  | 0, _ => asc_first o.pl
  | i + 1, h => by
    have e : chs[i]? = some chs[i] := List.getElem?_eq_getElem (by omega)
    rw [atC_snoc e]
    exact asc_step (o.f.good o.g i (by omega)) (asc_at o i (by omega))
theorem atC_le {cs : List Col} {chs : List Ch} : ∀ i, i ≤ chs.length → (atC cs (chs.take i)).2 ≤ (cs.length : Int) + i
  | 0, _ => by show (cs.length : Int) ≤ _; omega
  | i + 1, h => by
    have e : chs[i]? = some chs[i] := List.getElem?_eq_getElem (by omega)
    have ih := atC_le (cs := cs) (chs := chs) i (by omega)
    rw [atC_snoc e]
    show numThen chs[i] (atC cs (chs.take i)).2 ≤ _
    by_cases k : chs[i].kind = "add"
    · rw [kind_add k]
      omega
    · rw [kind_noadd k]
      omega

/-! numbers that ascend are unlike -/
theorem asc_lt {cm : List Col} (a : Asc cm) {i j : Nat} {c d : Col} (hi : cm[i]? = some c) (hj : cm[j]? = some d) (h : i < j) : c.num < d.num := by
  unfold Asc at a
  rw [List.pairwise_iff_getElem] at a
  obtain ⟨li, e1⟩ := List.getElem?_eq_some_iff.mp hi
  obtain ⟨lj, e2⟩ := List.getElem?_eq_some_iff.mp hj
  have := a i j (by rw [List.length_map]; exact li) (by rw [List.length_map]; exact lj) h
  rw [List.getElem_map, List.getElem_map, e1, e2] at this
  exact this
theorem asc_uniq {cm : List Col} (a : Asc cm) {i j : Nat} {c d : Col} (hi : cm[i]? = some c) (hj : cm[j]? = some d) (h : c.num = d.num) : i = j := by
  rcases Nat.lt_trichotomy i j with q | q | q
  · have := asc_lt a hi hj q
    omega
  · exact q
  · have := asc_lt a hj hi q
    omega

/-! rows of the columns -/
theorem any_no {κ : Type} [DecidableEq κ] {acc : List (κ × V)} {k : κ} (h : k ∉ acc.map (·.1)) : (acc.any fun kv => decide (kv.1 = k)) = false := by
  rw [Bool.eq_false_iff]
  intro q
  rw [List.any_eq_true] at q
  obtain ⟨kv, hm, e⟩ := q
  exact h (List.mem_map.mpr ⟨kv, hm, of_decide_eq_true e⟩)
theorem merge_new : ∀ (kvs acc : List (Key × V)), ((acc ++ kvs).map (·.1)).Nodup → mergeK acc kvs = acc ++ kvs
  | [], acc, _ => by rw [List.append_nil]; rfl
  | kv :: kvs, acc, nd => by
    have h1 : kv.1 ∉ acc.map (·.1) := fun hm => by
      rw [List.map_append, List.nodup_append] at nd
      exact nd.2.2 _ hm _ (List.mem_map.mpr ⟨kv, List.mem_cons_self, rfl⟩) rfl
    have e : putK acc kv.1 kv.2 = acc ++ [kv] := by
      unfold putK
      rw [any_no h1, if_neg (by decide)]
    show mergeK (putK acc kv.1 kv.2) kvs = _
    rw [e, merge_new kvs (acc ++ [kv]) (by rw [List.append_assoc]; exact nd), List.append_assoc]
    rfl
theorem paired_of {R : Addr → Key × V → Prop} : ∀ {ts : List Addr} {kvs : List (Key × V)}, ts.length = kvs.length → (∀ (j : Nat) t kv, ts[j]? = some t → kvs[j]? = some kv → R t kv) → Paired R ts kvs
  | [], [], _, _ => .nil
  | [], _ :: _, h, _ => by cases h
  | _ :: _, [], h, _ => by cases h
  | t :: ts, kv :: kvs, h, f => .cons (f 0 t kv rfl rfl) (paired_of (Nat.succ.inj h) fun j t' kv' h1 h2 => f (j + 1) t' kv' (by simpa using h1) (by simpa using h2))
/-- a law's row of the columns cs -/
def RowD (cs : List Col) (kvs : List (Key × V)) : Prop := kvs.length = cs.length ∧ ∀ (j : Nat) (c : Col), cs[j]? = some c → ∃ v, kvs[j]? = some (Sum.inr c.name, v) ∧ isIn c.top v = true
theorem RowD.keys {cs : List Col} {kvs : List (Key × V)} (r : RowD cs kvs) : kvs.map (·.1) = (cs.map (·.name)).map Sum.inr := by
  refine List.ext_getElem? fun j => ?_
  rw [List.getElem?_map, List.getElem?_map, List.getElem?_map]
  cases e : cs[j]? with
  | none =>
    have : kvs[j]? = none := List.getElem?_eq_none (by have := List.getElem?_eq_none_iff.mp e; rw [r.1]; exact this)
    rw [this]
    rfl
  | some c =>
    obtain ⟨v, h1, _⟩ := r.2 j c e
    rw [h1]
    rfl
theorem nodup_inr {ns : List Str} (h : ns.Nodup) : (ns.map (Sum.inr : Str → Key)).Nodup := by
  unfold List.Nodup at *
  rw [List.pairwise_map]
  exact h.imp fun e q => e (Sum.inr.inj q)
theorem valV_at {k : Key} {v : V} : ∀ {kvs : List (Key × V)} {j : Nat}, (kvs.map (·.1)).Nodup → kvs[j]? = some (k, v) → valV kvs k = some v
  | [], _, _, h => by simp at h
  | kv :: kvs, 0, _, h => by
    obtain rfl : kv = (k, v) := by simpa using h
    exact valV_pos rfl
  | kv :: kvs, j + 1, nd, h => by
    rw [List.map_cons, List.nodup_cons] at nd
    have h' : kvs[j]? = some (k, v) := by simpa using h
    rw [valV_neg (fun e => nd.1 (List.mem_map.mpr ⟨(k, v), List.mem_of_getElem? h', e.symm⟩))]
    exact valV_at nd.2 h'

/-! the row behind a change, as data -/
/-! changed_row, of a row of the columns and a change that can be done to them -/
/-- what a column gives to the row behind -/
def stepR (ch : Ch) (c : Col) (v : V) (acc : List (Key × V)) : List (Key × V) := match ch with
  | .drop n => if c.name = n then acc else putK acc (Sum.inr c.name) v
  | .rename n m => if c.name = n then putK acc (Sum.inr m) v else putK acc (Sum.inr c.name) v
  | _ => putK acc (Sum.inr c.name) v
/-- the row behind, column by column; none where a value is barred -/
def rowGo (ch : Ch) : List Col → List V → List (Key × V) → Option (List (Key × V))
  | c :: cs, v :: vs, acc => if isMis (chgV c.name ch v) = true then none else rowGo ch cs vs (stepR ch c (chgV c.name ch v) acc)
  | _, _, acc => some acc
def endR (ch : Ch) (acc : List (Key × V)) : List (Key × V) := match ch with
  | .add n _ d => putK acc (Sum.inr n) d
  | _ => acc
def rowThen (cs : List Col) (ch : Ch) (kvs : List (Key × V)) : Option (List (Key × V)) := (rowGo ch cs (kvs.map (·.2)) []).map (endR ch)
/-! the row behind is a row of the columns behind -/
inductive RowP : List Col → List (Key × V) → Prop
  | nil : RowP [] []
  | cons {c : Col} {cs : List Col} {v : V} {kvs : List (Key × V)} : isIn c.top v = true → RowP cs kvs → RowP (c :: cs) ((Sum.inr c.name, v) :: kvs)
theorem RowP.of : ∀ {cs : List Col} {kvs : List (Key × V)}, RowD cs kvs → RowP cs kvs
  | [], [], _ => .nil
  | [], _ :: _, r => by cases r.1
  | _ :: _, [], r => by cases r.1
  | c :: cs, kv :: kvs, r => by
    obtain ⟨v, h1, h2⟩ := r.2 0 c rfl
    obtain rfl : kv = (Sum.inr c.name, v) := Option.some.inj h1
    exact .cons h2 (RowP.of ⟨Nat.succ.inj r.1, fun j c' hc => by
      obtain ⟨v', h3, h4⟩ := r.2 (j + 1) c' (by simpa using hc)
      exact ⟨v', by simpa using h3, h4⟩⟩)
theorem RowP.row : ∀ {cs : List Col} {kvs : List (Key × V)}, RowP cs kvs → RowD cs kvs
  | _, _, .nil => ⟨rfl, fun j c h => by simp at h⟩
  | _, _, .cons (v := v) h t => by
    have ih := t.row
    refine ⟨congrArg Nat.succ ih.1, fun j c' hc => ?_⟩
    cases j with
    | zero =>
      obtain rfl := Option.some.inj hc
      exact ⟨v, rfl, h⟩
    | succ j =>
      obtain ⟨v', h1, h2⟩ := ih.2 j c' (by simpa using hc)
      exact ⟨v', by simpa using h1, h2⟩
theorem RowP.app : ∀ {cs ds : List Col} {kvs lvs : List (Key × V)}, RowP cs kvs → RowP ds lvs → RowP (cs ++ ds) (kvs ++ lvs)
  | _, _, _, _, .nil, h => h
  | _, _, _, _, .cons h t, q => .cons h (t.app q)
/-- what becomes of one column -/
def colR (ch : Ch) (c : Col) : List Col := match ch with
  | .add _ _ _ => [c]
  | .drop n => if c.name = n then [] else [c]
  | ch => [if c.name = ch.name then chgC c ch else c]
def newR (ch : Ch) (num : Int) : List Col := match ch with
  | .add n g d => [⟨n, g, d, num⟩]
  | _ => []
theorem flat_one {f : Col → Col} : ∀ cs : List Col, cs.flatMap (fun c => [f c]) = cs.map f
  | [] => rfl
  | c :: cs => by rw [List.flatMap_cons, flat_one cs]; rfl
theorem flat_drop {n : Str} : ∀ cs : List Col, cs.flatMap (fun c => if c.name = n then [] else [c]) = cs.filter (fun c => !decide (c.name = n))
  | [] => rfl
  | c :: cs => by
    rw [List.flatMap_cons, flat_drop cs, List.filter_cons]
    by_cases h : c.name = n
    · rw [if_pos h, if_neg (by rw [decide_eq_true h]; decide)]
      rfl
    · rw [if_neg h, if_pos (by rw [decide_eq_false h]; rfl)]
      rfl
theorem behind_flat (cs : List Col) (ch : Ch) (num : Int) : behind cs ch num = cs.flatMap (colR ch) ++ newR ch num := by
  cases ch with
  | add n g d =>
    show cs ++ _ = cs.flatMap (fun c => [c]) ++ _
    rw [flat_one (f := fun c => c), List.map_id']
    rfl
  | drop n =>
    show cs.filter _ = cs.flatMap (fun c => if c.name = n then [] else [c]) ++ []
    rw [flat_drop, List.append_nil]
  | rename n m => exact (by show cs.map _ = cs.flatMap (fun c => [_]) ++ []; rw [flat_one, List.append_nil])
  | dflt n v => exact (by show cs.map _ = cs.flatMap (fun c => [_]) ++ []; rw [flat_one, List.append_nil])
  | great n g way => exact (by show cs.map _ = cs.flatMap (fun c => [_]) ++ []; rw [flat_one, List.append_nil])
  | fill n i => exact (by show cs.map _ = cs.flatMap (fun c => [_]) ++ []; rw [flat_one, List.append_nil])
def giveR (ch : Ch) (c : Col) (w : V) : List (Key × V) := (colR ch c).map fun c' => (Sum.inr c'.name, w)
theorem step_give (ch : Ch) (c : Col) (w : V) (acc : List (Key × V)) : stepR ch c w acc = mergeK acc (giveR ch c w) := by
  cases ch with
  | add n g d => rfl
  | drop n =>
    show (if c.name = n then acc else putK acc (Sum.inr c.name) w) = mergeK acc ((if c.name = n then [] else [c]).map _)
    by_cases h : c.name = n
    · rw [if_pos h, if_pos h]
      rfl
    · rw [if_neg h, if_neg h]
      rfl
  | rename n m =>
    show (if c.name = n then putK acc (Sum.inr m) w else putK acc (Sum.inr c.name) w) = mergeK acc ([if c.name = n then ({ c with name := m } : Col) else c].map _)
    by_cases h : c.name = n
    · rw [if_pos h, if_pos h]
      rfl
    · rw [if_neg h, if_neg h]
      rfl
  | dflt n v =>
    show putK acc (Sum.inr c.name) w = mergeK acc ([if c.name = n then chgC c (.dflt n v) else c].map _)
    by_cases h : c.name = n
    · rw [if_pos h]
      rfl
    · rw [if_neg h]
      rfl
  | great n g way =>
    show putK acc (Sum.inr c.name) w = mergeK acc ([if c.name = n then chgC c (.great n g way) else c].map _)
    by_cases h : c.name = n
    · rw [if_pos h]
      rfl
    · rw [if_neg h]
      rfl
  | fill n i =>
    show putK acc (Sum.inr c.name) w = mergeK acc ([if c.name = n then chgC c (.fill n i) else c].map _)
    by_cases h : c.name = n
    · rw [if_pos h]
      rfl
    · rw [if_neg h]
      rfl
theorem give_row {ch : Ch} {c : Col} {w : V} : ∀ {ds : List Col}, (∀ c' ∈ ds, isIn c'.top w = true) → RowP ds (ds.map fun c' => (Sum.inr c'.name, w))
  | [], _ => .nil
  | d :: ds, h => .cons (h d List.mem_cons_self) (give_row (ch := ch) (c := c) fun c' hc => h c' (List.mem_cons_of_mem _ hc))
theorem go_row {ch : Ch} : ∀ {cs : List Col} {kvs : List (Key × V)}, RowP cs kvs → (∀ c ∈ cs, ∀ v, isIn c.top v = true → isMis (chgV c.name ch v) = false → ∀ c' ∈ colR ch c, isIn c'.top (chgV c.name ch v) = true) →
    ∀ acc acc', rowGo ch cs (kvs.map (·.2)) acc = some acc' → ∃ more, RowP (cs.flatMap (colR ch)) more ∧ acc' = mergeK acc more
  | _, _, .nil, _, acc, acc', h => ⟨[], .nil, (Option.some.inj h).symm⟩
  | _, _, .cons (c := c) (cs := cs) (v := v) (kvs := kvs) hv t, k, acc, acc', h => by
    have h : (if isMis (chgV c.name ch v) = true then none else rowGo ch cs (kvs.map (·.2)) (stepR ch c (chgV c.name ch v) acc)) = some acc' := h
    cases hm : isMis (chgV c.name ch v) with
    | true =>
      rw [hm, if_pos rfl] at h
      cases h
    | false =>
      rw [hm, if_neg (by decide)] at h
      obtain ⟨more, h1, h2⟩ := go_row t (fun c' hc => k c' (List.mem_cons_of_mem _ hc)) _ _ h
      refine ⟨giveR ch c (chgV c.name ch v) ++ more, ?_, ?_⟩
      · rw [List.flatMap_cons]
        exact (give_row (ch := ch) (c := c) (k c List.mem_cons_self v hv hm)).app h1
      · rw [h2, step_give]
        show List.foldl _ (List.foldl _ acc _) more = List.foldl _ acc _
        rw [List.foldl_append]
theorem chg_in {cs : List Col} {ch : Ch} {c : Col} {v : V} (nms : (cs.map (·.name)).Nodup) (f : ch.fits = true) (hz : hindV cs ch = .non) (hc : c ∈ cs) (h : isIn c.top v = true) (m : isMis (chgV c.name ch v) = false) : ∀ c' ∈ colR ch c, isIn c'.top (chgV c.name ch v) = true := by
  have whole : ∀ {j g : Int}, isIn g (.int j) = true ↔ 0 ≤ j ∧ j ≤ g := fun {j g} => by
    show (decide (0 ≤ j) && decide (j ≤ g)) = true ↔ _
    rw [Bool.and_eq_true, decide_eq_true_iff, decide_eq_true_iff]
  intro c' hc'
  by_cases hn : c.name = ch.name
  · have hfind : cs.find? (isN ch.name) = some c := find_uniq nms hc hn
    unfold chgV at m ⊢
    rw [if_pos hn.symm] at m ⊢
    cases ch with
    | add n g d =>
      rw [List.mem_singleton.mp hc']
      exact h
    | drop n =>
      have : c' ∈ (if c.name = n then [] else [c]) := hc'
      rw [if_pos (show c.name = n from hn)] at this
      cases this
    | rename n k =>
      have e : c' = (if c.name = (Ch.rename n k).name then chgC c (.rename n k) else c) := List.mem_singleton.mp hc'
      rw [if_pos hn] at e
      rw [e]
      exact h
    | dflt n x =>
      have e : c' = (if c.name = (Ch.dflt n x).name then chgC c (.dflt n x) else c) := List.mem_singleton.mp hc'
      rw [if_pos hn] at e
      rw [e]
      exact h
    | great n g way =>
      have e : c' = (if c.name = (Ch.great n g way).name then chgC c (.great n g way) else c) := List.mem_singleton.mp hc'
      rw [if_pos hn] at e
      rw [e]
      have f : (isNm (.str n) && (isGr (.int g) && isWy way)) = true := f
      rw [Bool.and_eq_true, Bool.and_eq_true] at f
      have hg : 1 ≤ g := of_decide_eq_true (Bool.and_eq_true_iff.mp f.2.1).1
      show isIn g _ = true
      cases v with
      | non => rfl
      | int j =>
        have hj := whole.mp h
        have m : isMis (if g < j then abv g way else .int j) = false := m
        show isIn g (if g < j then abv g way else .int j) = true
        by_cases q : g < j
        · rw [if_pos q] at m ⊢
          unfold abv at m ⊢
          split
          · exact whole.mpr ⟨by omega, Int.le_refl _⟩
          · rename_i q1
            rw [if_neg q1] at m
            split
            · rfl
            · rename_i q2
              rw [if_neg q2] at m
              exact absurd m (by decide +kernel)
        · rw [if_neg q]
          exact whole.mpr ⟨hj.1, by omega⟩
      | _ => cases h
    | fill n i =>
      have e : c' = (if c.name = (Ch.fill n i).name then chgC c (.fill n i) else c) := List.mem_singleton.mp hc'
      rw [if_pos hn] at e
      rw [e]
      have hf : cs.find? (isN n) = some c := hfind
      have hz : hindV cs (.fill n i) = .non := hz
      simp only [hindV, hf] at hz
      show isIn c.top _ = true
      cases v with
      | non =>
        show isIn c.top (.int i) = true
        by_cases q : isIn c.top (.int i) = true
        · exact q
        · rw [if_neg q] at hz
          cases hz
      | int j => exact h
      | _ => cases h
  · unfold chgV
    rw [if_neg (fun e => hn e.symm)]
    have e : c' = c := by
      cases ch with
      | add n g d => exact List.mem_singleton.mp hc'
      | drop n =>
        have : c' ∈ (if c.name = n then [] else [c]) := hc'
        rw [if_neg (show ¬ c.name = n from hn)] at this
        exact List.mem_singleton.mp this
      | rename n k =>
        have e : c' = (if c.name = (Ch.rename n k).name then chgC c (.rename n k) else c) := List.mem_singleton.mp hc'
        rw [if_neg hn] at e
        exact e
      | dflt n x =>
        have e : c' = (if c.name = (Ch.dflt n x).name then chgC c (.dflt n x) else c) := List.mem_singleton.mp hc'
        rw [if_neg hn] at e
        exact e
      | great n g way =>
        have e : c' = (if c.name = (Ch.great n g way).name then chgC c (.great n g way) else c) := List.mem_singleton.mp hc'
        rw [if_neg hn] at e
        exact e
      | fill n i =>
        have e : c' = (if c.name = (Ch.fill n i).name then chgC c (.fill n i) else c) := List.mem_singleton.mp hc'
        rw [if_neg hn] at e
        exact e
    rw [e]
    exact h
def lastR (ch : Ch) : List (Key × V) := match ch with
  | .add n _ d => [(Sum.inr n, d)]
  | _ => []
/-- a row that a change does not bar is a row of the columns behind -/
theorem rowThen_row {cs : List Col} {ch : Ch} {num : Int} {kvs kvs' : List (Key × V)} (g : Good cs num) (f : ch.fits = true) (hz : hindV cs ch = .non) (r : RowD cs kvs) (h : rowThen cs ch kvs = some kvs') : RowD (behind cs ch num) kvs' := by
  unfold rowThen at h
  cases e : rowGo ch cs (kvs.map (·.2)) [] with
  | none =>
    rw [e] at h
    cases h
  | some acc =>
    rw [e] at h
    obtain rfl := Option.some.inj h
    obtain ⟨more, h1, rfl⟩ := go_row (RowP.of r) (fun c hc v hv hm => chg_in g.names f hz hc hv hm) [] acc e
    have h2 : RowP (behind cs ch num) (more ++ lastR ch) := by
      rw [behind_flat]
      refine h1.app ?_
      cases ch with
      | add n gr d =>
        refine .cons ?_ .nil
        have hz : addHind cs n gr d = .non := hz
        unfold addHind at hz
        split at hz
        · cases hz
        · split at hz
          · cases hz
          · split at hz
            · assumption
            · cases hz
      | _ => exact .nil
    have e2 : endR ch (mergeK [] more) = mergeK [] (more ++ lastR ch) := by
      cases ch with
      | add n gr d =>
        show putK (mergeK [] more) (Sum.inr n) d = List.foldl _ [] (more ++ [(Sum.inr n, d)])
        rw [List.foldl_append]
        rfl
      | _ => exact (by show mergeK [] more = mergeK [] (more ++ []); rw [List.append_nil])
    show RowD _ (endR ch (mergeK [] more))
    rw [e2]
    have e3 := merge_new (more ++ lastR ch) [] (by rw [List.nil_append, h2.row.keys]; exact nodup_inr (g.step f hz).names)
    rw [List.nil_append] at e3
    rw [e3]
    exact h2.row
theorem ty_chg {K : PySem.W.Frag} {n : Str} {ch : Ch} {v : V} (h : valOk v = true) : ∃ t, ∀ H : Hp, TyX K H (chgV n ch v) (.type t) := by
  have hs := chg_scal (n := n) (c := ch) h
  cases e : chgV n ch v with
  | non => exact ⟨_, fun _ => .base .non⟩
  | int i => exact ⟨_, fun _ => .base (.int i)⟩
  | str z => exact ⟨_, fun _ => .base (.str z)⟩
  | bl b => exact ⟨_, fun _ => .base (.bl b)⟩
  | flt x => exact ⟨_, fun _ => .base (.flt x)⟩
  | byt b => exact ⟨_, fun _ => .byt b⟩
  | ref a => rw [e] at hs; cases hs
  | ty t => rw [e] at hs; cases hs
theorem step_len (ch : Ch) (c : Col) (v : V) (acc : List (Key × V)) : (stepR ch c v acc).length ≤ acc.length + 1 := by
  have h : ∀ k : Key, (putK acc k v).length ≤ acc.length + 1 := fun k => by
    unfold putK
    split
    · rw [List.length_map]
      omega
    · rw [List.length_append]
      exact Nat.le_refl _
  unfold stepR
  repeat (first | exact h _ | exact Nat.le_succ _ | split)
theorem go_at {ch : Ch} {cs : List Col} {vs : List V} {i : Nat} {c : Col} {v : V} {acc : List (Key × V)} (hc : cs[i]? = some c) (hv : vs[i]? = some v) : rowGo ch (cs.drop i) (vs.drop i) acc = if isMis (chgV c.name ch v) = true then none else rowGo ch (cs.drop (i + 1)) (vs.drop (i + 1)) (stepR ch c (chgV c.name ch v) acc) := by
  obtain ⟨hi, e1⟩ := List.getElem?_eq_some_iff.mp hc
  obtain ⟨hj, e2⟩ := List.getElem?_eq_some_iff.mp hv
  rw [List.drop_eq_getElem_cons hi, List.drop_eq_getElem_cons hj, e1, e2]
  rfl

/-- values of the columns, by their numbers -/
def FitE (cs : List Col) (es : List (Int × V)) : Prop := es.length = cs.length ∧ ∀ (j : Nat) (c : Col), cs[j]? = some c → ∃ v, es[j]? = some (c.num, v) ∧ isIn c.top v = true

/-! a row followed, as data -/
/-! trail: a stored row, edition by edition -/
/-- what a plain table has that was written so -/
def rowE (cs : List Col) (es : List (Int × V)) : List (Key × V) := cs.mapIdx fun j c => (Sum.inr c.name, match es[j]? with
  | some e => e.2
  | none => V.non)
theorem rowE_len {cs : List Col} {es : List (Int × V)} : (rowE cs es).length = cs.length := List.length_mapIdx
theorem rowE_at {cs : List Col} {es : List (Int × V)} (f : FitE cs es) {j : Nat} {c : Col} (h : cs[j]? = some c) : ∃ v, (rowE cs es)[j]? = some (Sum.inr c.name, v) ∧ es[j]? = some (c.num, v) ∧ isIn c.top v = true := by
  obtain ⟨v, h1, h2⟩ := f.2 j c h
  refine ⟨v, ?_, h1, h2⟩
  unfold rowE
  rw [List.getElem?_mapIdx, h]
  show some (Sum.inr c.name, match es[j]? with | some e => e.2 | none => V.non) = _
  rw [h1]
theorem rowE_row {cs : List Col} {es : List (Int × V)} (f : FitE cs es) : RowD cs (rowE cs es) := ⟨rowE_len, fun j c h => by
  obtain ⟨v, h1, _, h2⟩ := rowE_at f h
  exact ⟨v, h1, h2⟩⟩
/-- the row behind j changes more, if nothing bars it -/
def folTo (cs : List Col) (chs : List Ch) (i : Nat) (kvs : List (Key × V)) : Nat → Option (List (Key × V))
  | 0 => some kvs
  | j + 1 => match folTo cs chs i kvs j, chs[i + j]? with
    | some r, some ch => rowThen (atC cs (chs.take (i + j))).1 ch r
    | _, _ => none
theorem folTo_succ {cs : List Col} {chs : List Ch} {i j : Nat} {kvs r : List (Key × V)} {ch : Ch} (h1 : folTo cs chs i kvs j = some r) (h2 : chs[i + j]? = some ch) : folTo cs chs i kvs (j + 1) = rowThen (atC cs (chs.take (i + j))).1 ch r := by
  show (match folTo cs chs i kvs j, chs[i + j]? with
    | some r, some ch => rowThen (atC cs (chs.take (i + j))).1 ch r
    | _, _ => none) = _
  rw [h1, h2]
theorem folTo_row {cs : List Col} {chs : List Ch} {i : Nat} {kvs : List (Key × V)} (o : HistOk cs chs) (r0 : RowD (atC cs (chs.take i)).1 kvs) : ∀ j, i + j ≤ chs.length → ∀ r, folTo cs chs i kvs j = some r → RowD (atC cs (chs.take (i + j))).1 r
  | 0, _, r, e => by
    obtain rfl := Option.some.inj e
    exact r0
  | j + 1, h, r, e => by
    cases h1 : folTo cs chs i kvs j with
    | none =>
      have : folTo cs chs i kvs (j + 1) = none := by
        show (match folTo cs chs i kvs j, chs[i + j]? with
          | some r, some ch => rowThen (atC cs (chs.take (i + j))).1 ch r
          | _, _ => none) = _
        rw [h1]
      rw [this] at e
      cases e
    | some r1 =>
      have h2 : chs[i + j]? = some chs[i + j] := List.getElem?_eq_getElem (by omega)
      rw [folTo_succ h1 h2] at e
      obtain ⟨ft, hz⟩ := o.f (i + j) _ h2
      have := rowThen_row (o.f.good o.g (i + j) (by omega)) ft hz (folTo_row o r0 j (by omega) r1 h1) e
      rw [show i + (j + 1) = i + j + 1 from rfl, atC_snoc h2]
      exact this
/-- the rows stand at the addresses, one behind the other -/
def Fol (cs : List Col) (chs : List Ch) (i : Nat) (kvs : List (Key × V)) (H : Hp) (ds : List Addr) : Prop := ∀ (t : Nat) (d : Addr), ds[t]? = some d → ∃ r, folTo cs chs i kvs t = some r ∧ H d = some (.dK r)
theorem Fol.keep {cs : List Col} {chs : List Ch} {i : Nat} {kvs : List (Key × V)} {H H' : Hp} {ds : List Addr} (s : Same H H') (f : Fol cs chs i kvs H ds) : Fol cs chs i kvs H' ds := fun t d h => by
  obtain ⟨r, h1, h2⟩ := f t d h
  exact ⟨r, h1, s _ _ h2⟩

/-! rows that are put together of two, number by number -/
/-- the last part of a change -/
def lastV : Ch → V
  | .add _ _ d => d
  | .drop n => .str n
  | .rename _ m => .str m
  | .dflt _ v => v
  | .great _ _ way => .str way
  | .fill _ i => .int i
theorem last_at (ch : Ch) : atI ch.toV (-1) = some (lastV ch) := by cases ch <;> rfl
theorem last_scal {ch : Ch} (f : ch.fits = true) : scal (lastV ch) (.str "refuse") = true := by
  cases ch with
  | add n g d =>
    have h : isVal d = true := (Bool.and_eq_true_iff.mp (Bool.and_eq_true_iff.mp f).2).2
    cases d with
    | non => rfl
    | int _ => rfl
    | _ => cases h
  | dflt n d =>
    have h : isVal d = true := (Bool.and_eq_true_iff.mp f).2
    cases d with
    | non => rfl
    | int _ => rfl
    | _ => cases h
  | _ => rfl
def noRef (ch : Ch) : Bool := !decide (lastV ch = .str "refuse")
theorem noRef_free {ch : Ch} {n : Str} {g : Int} {v : V} (f : ch.fits = true) (nr : noRef ch = true) (h : isIn g v = true) : isMis (chgV n ch v) = false := by
  have hv : isMis v = false := by
    cases v with
    | str _ => cases h
    | _ => rfl
  unfold chgV
  split
  · cases ch with
    | great m g' way =>
      cases v with
      | int j =>
        show isMis (if g' < j then abv g' way else .int j) = false
        split
        · have nr : (!decide (V.str way = .str "refuse")) = true := nr
          have hw : isWy way = true := (Bool.and_eq_true_iff.mp (Bool.and_eq_true_iff.mp f).2).2
          unfold abv
          split
          · rfl
          · split
            · rfl
            · rename_i h1 h2
              exfalso
              unfold isWy at hw
              rw [decide_eq_false h1, decide_eq_false h2, Bool.false_or, Bool.false_or] at hw
              rw [of_decide_eq_true hw, decide_eq_true rfl] at nr
              cases nr
        · rfl
      | non => rfl
      | _ => cases h
    | fill m i =>
      cases v with
      | non => rfl
      | int _ => rfl
      | _ => cases h
    | _ => exact hv
  · exact hv
/-- what the columns give to the row behind -/
def giveL (ch : Ch) : List Col → List V → List (Key × V)
  | c :: cs, v :: vs => giveR ch c (chgV c.name ch v) ++ giveL ch cs vs
  | _, _ => []
theorem go_give {ch : Ch} : ∀ {cs : List Col} {vs : List V} {acc acc' : List (Key × V)}, rowGo ch cs vs acc = some acc' → acc' = mergeK acc (giveL ch cs vs)
  | c :: cs, v :: vs, acc, acc', h => by
    have h : (if isMis (chgV c.name ch v) = true then none else rowGo ch cs vs (stepR ch c (chgV c.name ch v) acc)) = some acc' := h
    cases hm : isMis (chgV c.name ch v) with
    | true =>
      rw [hm, if_pos rfl] at h
      cases h
    | false =>
      rw [hm, if_neg (by decide)] at h
      rw [go_give h, step_give]
      show List.foldl _ (List.foldl _ acc _) _ = List.foldl _ acc (giveR ch c (chgV c.name ch v) ++ giveL ch cs vs)
      rw [List.foldl_append]
  | [], vs, acc, acc', h => by
    have h : some acc = some acc' := by cases vs <;> exact h
    exact (Option.some.inj h).symm
  | _ :: _, [], acc, acc', h => (Option.some.inj (show some acc = some acc' from h)).symm
theorem go_free {ch : Ch} : ∀ {cs : List Col} {vs : List V} {acc : List (Key × V)}, (∀ (i : Nat) c v, cs[i]? = some c → vs[i]? = some v → isMis (chgV c.name ch v) = false) → ∃ acc', rowGo ch cs vs acc = some acc'
  | c :: cs, v :: vs, acc, h => by
    obtain ⟨acc', q⟩ := go_free (ch := ch) (cs := cs) (vs := vs) (acc := stepR ch c (chgV c.name ch v) acc) fun i c' v' h1 h2 => h (i + 1) c' v' (by simpa using h1) (by simpa using h2)
    refine ⟨acc', ?_⟩
    show (if isMis (chgV c.name ch v) = true then none else rowGo ch cs vs (stepR ch c (chgV c.name ch v) acc)) = some acc'
    rw [h 0 c v rfl rfl, if_neg (by decide)]
    exact q
  | [], vs, acc, _ => ⟨acc, by cases vs <;> rfl⟩
  | _ :: _, [], acc, _ => ⟨acc, rfl⟩
theorem give_keys {ch : Ch} : ∀ {cs : List Col} {vs : List V}, vs.length = cs.length → (giveL ch cs vs).map (·.1) = (cs.flatMap (colR ch)).map fun c => (Sum.inr c.name : Key)
  | [], [], _ => rfl
  | [], _ :: _, h => by cases h
  | _ :: _, [], h => by cases h
  | c :: cs, v :: vs, h => by
    show (giveR ch c (chgV c.name ch v) ++ giveL ch cs vs).map (·.1) = _
    rw [List.map_append, give_keys (Nat.succ.inj h), List.flatMap_cons, List.map_append]
    congr 1
    unfold giveR
    rw [List.map_map]
    rfl
theorem rowThen_give {cs : List Col} {ch : Ch} {num : Int} {kvs kvs' : List (Key × V)} (g : Good cs num) (f : ch.fits = true) (hz : hindV cs ch = .non) (r : RowD cs kvs) (h : rowThen cs ch kvs = some kvs') : kvs' = giveL ch cs (kvs.map (·.2)) ++ lastR ch := by
  unfold rowThen at h
  cases e : rowGo ch cs (kvs.map (·.2)) [] with
  | none =>
    rw [e] at h
    cases h
  | some acc =>
    rw [e] at h
    obtain rfl := Option.some.inj h
    have e1 := go_give e
    subst e1
    have e2 : endR ch (mergeK [] (giveL ch cs (kvs.map (·.2)))) = mergeK [] (giveL ch cs (kvs.map (·.2)) ++ lastR ch) := by
      cases ch with
      | add n gr d =>
        show putK (mergeK [] _) (Sum.inr n) d = List.foldl _ [] (_ ++ [(Sum.inr n, d)])
        rw [List.foldl_append]
        rfl
      | _ => exact (by show mergeK [] _ = mergeK [] (_ ++ []); rw [List.append_nil])
    rw [e2]
    have hk : (giveL ch cs (kvs.map (·.2)) ++ lastR ch).map (·.1) = ((behind cs ch num).map (·.name)).map (Sum.inr : Str → Key) := by
      rw [List.map_append, give_keys (by rw [List.length_map, r.1]), behind_flat, List.map_append, List.map_append, List.map_map]
      congr 1
      cases ch <;> rfl
    have e3 := merge_new (giveL ch cs (kvs.map (·.2)) ++ lastR ch) [] (by rw [List.nil_append, hk]; exact nodup_inr (g.step f hz).names)
    rw [List.nil_append] at e3
    exact e3
/-- which of two rows a number is of; none: a number of neither -/
def MixO (pick : Int → Option Bool) (n : Int) (v1 v2 vm : V) : Prop := match pick n with
  | none => v2 = v1 ∧ vm = v1
  | some false => vm = v1
  | some true => vm = v2
theorem MixO.map {pick : Int → Option Bool} {n : Int} {v1 v2 vm : V} (f : V → V) (h : MixO pick n v1 v2 vm) : MixO pick n (f v1) (f v2) (f vm) := by
  unfold MixO at h ⊢
  cases e : pick n with
  | none =>
    rw [e] at h
    exact ⟨congrArg f h.1, congrArg f h.2⟩
  | some b =>
    rw [e] at h
    cases b
    · exact congrArg f h
    · exact congrArg f h
inductive MixV (pick : Int → Option Bool) : List Col → List (Key × V) → List (Key × V) → List (Key × V) → Prop
  | nil : MixV pick [] [] [] []
  | cons {c : Col} {cs : List Col} {r1 r2 rm : List (Key × V)} {v1 v2 vm : V} : MixO pick c.num v1 v2 vm → MixV pick cs r1 r2 rm → MixV pick (c :: cs) ((Sum.inr c.name, v1) :: r1) ((Sum.inr c.name, v2) :: r2) ((Sum.inr c.name, vm) :: rm)
theorem MixV.app {pick : Int → Option Bool} : ∀ {cs ds : List Col} {r1 r2 rm s1 s2 sm : List (Key × V)}, MixV pick cs r1 r2 rm → MixV pick ds s1 s2 sm → MixV pick (cs ++ ds) (r1 ++ s1) (r2 ++ s2) (rm ++ sm)
  | _, _, _, _, _, _, _, _, .nil, h => h
  | _, _, _, _, _, _, _, _, .cons h t, q => .cons h (t.app q)
theorem mix_same {pick : Int → Option Bool} {n : Int} {w1 w2 wm : V} (h : MixO pick n w1 w2 wm) : ∀ {ds : List Col}, (∀ c ∈ ds, c.num = n) → MixV pick ds (ds.map fun c => (Sum.inr c.name, w1)) (ds.map fun c => (Sum.inr c.name, w2)) (ds.map fun c => (Sum.inr c.name, wm))
  | [], _ => .nil
  | d :: ds, k => .cons (by rw [k d List.mem_cons_self]; exact h) (mix_same h fun c hc => k c (List.mem_cons_of_mem _ hc))
theorem colR_num {ch : Ch} {c : Col} : ∀ c' ∈ colR ch c, c'.num = c.num := by
  intro c' h
  have one : ∀ d : Col, d.num = c.num → c' ∈ [d] → c'.num = c.num := fun d e q => by rw [List.mem_singleton.mp q]; exact e
  have hn : ∀ c2 : Ch, (if c.name = c2.name then chgC c c2 else c).num = c.num := fun c2 => by
    split
    · cases c2 <;> rfl
    · rfl
  cases ch with
  | add n g d => exact one c rfl h
  | drop n =>
    have h : c' ∈ (if c.name = n then [] else [c]) := h
    split at h
    · cases h
    · exact one c rfl h
  | rename n m => exact one _ (hn _) h
  | dflt n v => exact one _ (hn _) h
  | great n g way => exact one _ (hn _) h
  | fill n i => exact one _ (hn _) h
theorem mix_give {pick : Int → Option Bool} {ch : Ch} : ∀ {cs : List Col} {r1 r2 rm : List (Key × V)}, MixV pick cs r1 r2 rm → MixV pick (cs.flatMap (colR ch)) (giveL ch cs (r1.map (·.2))) (giveL ch cs (r2.map (·.2))) (giveL ch cs (rm.map (·.2)))
  | _, _, _, _, .nil => .nil
  | _, _, _, _, .cons (c := c) h t => by
    rw [List.flatMap_cons]
    exact (mix_same (h.map (chgV c.name ch)) colR_num).app (mix_give t)
theorem mix_step {pick : Int → Option Bool} {cs : List Col} {ch : Ch} {num : Int} {r1 r2 rm s1 s2 sm : List (Key × V)} (g : Good cs num) (f : ch.fits = true) (hz : hindV cs ch = .non) (d1 : RowD cs r1) (d2 : RowD cs r2) (dm : RowD cs rm) (new : pick num = none) (M : MixV pick cs r1 r2 rm)
    (h1 : rowThen cs ch r1 = some s1) (h2 : rowThen cs ch r2 = some s2) (hm : rowThen cs ch rm = some sm) : MixV pick (behind cs ch num) s1 s2 sm := by
  rw [rowThen_give g f hz d1 h1, rowThen_give g f hz d2 h2, rowThen_give g f hz dm hm, behind_flat]
  refine (mix_give M).app ?_
  cases ch with
  | add n gr d =>
    refine .cons ?_ .nil
    show MixO pick num d d d
    unfold MixO
    rw [new]
    exact ⟨rfl, rfl⟩
  | _ => exact .nil
theorem MixV.at_ {pick : Int → Option Bool} : ∀ {cs : List Col} {r1 r2 rm : List (Key × V)} {j : Nat} {c : Col}, MixV pick cs r1 r2 rm → cs[j]? = some c → ∃ v1 v2 vm, r1[j]? = some (Sum.inr c.name, v1) ∧ r2[j]? = some (Sum.inr c.name, v2) ∧ rm[j]? = some (Sum.inr c.name, vm) ∧ MixO pick c.num v1 v2 vm
  | _, _, _, _, _, _, .nil, h => by simp at h
  | _, _, _, _, 0, c, .cons h t, e => by
    obtain rfl := Option.some.inj e
    exact ⟨_, _, _, rfl, rfl, rfl, h⟩
  | _, _, _, _, j + 1, c, .cons h t, e => by
    obtain ⟨v1, v2, vm, h1, h2, h3, h4⟩ := MixV.at_ (j := j) t (by simpa using e)
    exact ⟨v1, v2, vm, by simpa using h1, by simpa using h2, by simpa using h3, h4⟩
theorem MixV.of {pick : Int → Option Bool} : ∀ {cs : List Col} {r1 r2 rm : List (Key × V)}, r1.length = cs.length → r2.length = cs.length → rm.length = cs.length →
    (∀ (j : Nat) (c : Col), cs[j]? = some c → ∃ v1 v2 vm, r1[j]? = some (Sum.inr c.name, v1) ∧ r2[j]? = some (Sum.inr c.name, v2) ∧ rm[j]? = some (Sum.inr c.name, vm) ∧ MixO pick c.num v1 v2 vm) → MixV pick cs r1 r2 rm
  | [], [], [], [], _, _, _, _ => .nil
  | [], _ :: _, _, _, h, _, _, _ => by cases h
  | [], [], _ :: _, _, _, h, _, _ => by cases h
  | [], [], [], _ :: _, _, _, h, _ => by cases h
  | _ :: _, [], _, _, h, _, _, _ => by cases h
  | _ :: _, _ :: _, [], _, _, h, _, _ => by cases h
  | _ :: _, _ :: _, _ :: _, [], _, _, h, _ => by cases h
  | c :: cs, a :: r1, b :: r2, m :: rm, l1, l2, l3, f => by
    obtain ⟨v1, v2, vm, h1, h2, h3, h4⟩ := f 0 c rfl
    obtain rfl := Option.some.inj h1
    obtain rfl := Option.some.inj h2
    obtain rfl := Option.some.inj h3
    exact .cons h4 (MixV.of (Nat.succ.inj l1) (Nat.succ.inj l2) (Nat.succ.inj l3) fun j c' hc => by
      obtain ⟨w1, w2, wm, k1, k2, k3, k4⟩ := f (j + 1) c' (by simpa using hc)
      exact ⟨w1, w2, wm, by simpa using k1, by simpa using k2, by simpa using k3, k4⟩)
theorem atC_up {cs : List Col} {chs : List Ch} {i : Nat} : ∀ t, i + t ≤ chs.length → (atC cs (chs.take i)).2 ≤ (atC cs (chs.take (i + t))).2
  | 0, _ => Int.le_refl _
  | t + 1, h => by
    have e : chs[i + t]? = some chs[i + t] := List.getElem?_eq_getElem (by omega)
    have ih := atC_up (cs := cs) (chs := chs) (i := i) t (by omega)
    rw [show i + (t + 1) = i + t + 1 from rfl, atC_snoc e]
    show _ ≤ numThen chs[i + t] (atC cs (chs.take (i + t))).2
    by_cases k : chs[i + t].kind = "add"
    · rw [kind_add k]
      omega
    · rw [kind_noadd k]
      exact ih
/-- three rows followed: none is barred, and the third stays put together of the two -/
theorem mix_fol {cs : List Col} {chs : List Ch} {i : Nat} {k1 k2 km : List (Key × V)} {pick : Int → Option Bool} (o : HistOk cs chs) (nr : ∀ ch ∈ chs, noRef ch = true) (d1 : RowD (atC cs (chs.take i)).1 k1) (d2 : RowD (atC cs (chs.take i)).1 k2) (dm : RowD (atC cs (chs.take i)).1 km)
    (M : MixV pick (atC cs (chs.take i)).1 k1 k2 km) (new : ∀ n, (atC cs (chs.take i)).2 ≤ n → pick n = none) : ∀ t, i + t ≤ chs.length → ∃ r1 r2 rm, folTo cs chs i k1 t = some r1 ∧ folTo cs chs i k2 t = some r2 ∧ folTo cs chs i km t = some rm ∧ MixV pick (atC cs (chs.take (i + t))).1 r1 r2 rm
  | 0, _ => ⟨k1, k2, km, rfl, rfl, rfl, M⟩
  | t + 1, h => by
    obtain ⟨r1, r2, rm, e1, e2, em, M'⟩ := mix_fol o nr d1 d2 dm M new t (by omega)
    have hc : chs[i + t]? = some chs[i + t] := List.getElem?_eq_getElem (by omega)
    obtain ⟨ft, hz⟩ := o.f (i + t) _ hc
    have g := o.f.good o.g (i + t) (by omega)
    have q1 := folTo_row o d1 t (by omega) r1 e1
    have q2 := folTo_row o d2 t (by omega) r2 e2
    have qm := folTo_row o dm t (by omega) rm em
    have free : ∀ r, RowD (atC cs (chs.take (i + t))).1 r → ∃ s, rowThen (atC cs (chs.take (i + t))).1 chs[i + t] r = some s := fun r q => by
      obtain ⟨acc, e⟩ := go_free (ch := chs[i + t]) (cs := (atC cs (chs.take (i + t))).1) (vs := r.map (·.2)) (acc := []) fun j c v h1 h2 => by
        obtain ⟨v', h3, h4⟩ := q.2 j c h1
        rw [List.getElem?_map, h3] at h2
        obtain rfl : v' = v := Option.some.inj h2
        exact noRef_free ft (nr _ (List.mem_of_getElem? hc)) h4
      exact ⟨_, by unfold rowThen; rw [e]; rfl⟩
    obtain ⟨s1, f1⟩ := free r1 q1
    obtain ⟨s2, f2⟩ := free r2 q2
    obtain ⟨sm, fm⟩ := free rm qm
    refine ⟨s1, s2, sm, by rw [folTo_succ e1 hc]; exact f1, by rw [folTo_succ e2 hc]; exact f2, by rw [folTo_succ em hc]; exact fm, ?_⟩
    rw [show i + (t + 1) = i + t + 1 from rfl, atC_snoc hc]
    exact mix_step g ft hz q1 q2 qm (new _ (atC_up t (by omega))) M' f1 f2 fm

/-! columns by their numbers, through the editions; what becomes of a value under a number -/
abbrev colsE (cs : List Col) (chs : List Ch) (i : Nat) : List Col := (atC cs (chs.take i)).1
abbrev numE (cs : List Col) (chs : List Ch) (i : Nat) : Int := (atC cs (chs.take i)).2
/-- the column with the number n at an edition -/
abbrev colE (cs : List Col) (chs : List Ch) (i : Nat) (n : Int) : Option Col := (colsE cs chs i).find? (isK n)
theorem findK_mem {cs : List Col} {n : Int} {c : Col} (h : cs.find? (isK n) = some c) : c ∈ cs ∧ c.num = n := by
  have h2 := List.find?_some h
  exact ⟨List.mem_of_find?_eq_some h, of_decide_eq_true (show decide (c.num = n) = true from h2)⟩
theorem findK_none {cs : List Col} {n : Int} (h : cs.find? (isK n) = none) : ∀ c ∈ cs, c.num ≠ n := fun c hc e => by
  have := List.find?_eq_none.mp h c hc
  exact this (decide_eq_true e)
theorem asc_find {cs : List Col} {c : Col} (a : Asc cs) (hc : c ∈ cs) : cs.find? (isK c.num) = some c := by
  cases h : cs.find? (isK c.num) with
  | none => exact absurd rfl (findK_none h c hc)
  | some d =>
    obtain ⟨h1, h2⟩ := findK_mem h
    obtain ⟨i, hi⟩ := List.mem_iff_getElem?.mp hc
    obtain ⟨j, hj⟩ := List.mem_iff_getElem?.mp h1
    obtain rfl := asc_uniq a hj hi h2
    rw [← hj, hi]
theorem mem_behind {cs : List Col} {ch : Ch} {num : Int} {c' : Col} : c' ∈ behind cs ch num ↔ (∃ c ∈ cs, c' ∈ colR ch c) ∨ c' ∈ newR ch num := by
  rw [behind_flat, List.mem_append, List.mem_flatMap]
theorem newR_num {ch : Ch} {num : Int} {c : Col} (h : c ∈ newR ch num) : c.num = num := by
  cases ch with
  | add n g d =>
    rw [List.mem_singleton.mp h]
  | _ => cases h
section
variable {cs : List Col} {chs : List Ch}
theorem colsE_succ {i : Nat} {ch : Ch} (h : chs[i]? = some ch) : colsE cs chs (i + 1) = behind (colsE cs chs i) ch (numE cs chs i) := by
  show (atC cs (chs.take (i + 1))).1 = _
  rw [atC_snoc h]
  rfl
theorem numE_succ {i : Nat} {ch : Ch} (h : chs[i]? = some ch) : numE cs chs (i + 1) = numThen ch (numE cs chs i) := by
  show (atC cs (chs.take (i + 1))).2 = _
  rw [atC_snoc h]
  rfl
theorem numE_mono {i j : Nat} (h : i ≤ j) : numE cs chs i ≤ numE cs chs j := grows h
/-- an elder number there behind a change was there ahead of it -/
theorem there_ahead {i : Nat} {n : Int} {c' : Col} (o : HistOk cs chs) {ch : Ch} (hc : chs[i]? = some ch) (h : colE cs chs (i + 1) n = some c') (hn : n < numE cs chs i) : ∃ c, colE cs chs i n = some c ∧ c' ∈ colR ch c := by
  obtain ⟨h1, h2⟩ := findK_mem h
  have h1 : c' ∈ behind (colsE cs chs i) ch (numE cs chs i) := by rw [← colsE_succ hc]; exact h1
  rcases mem_behind.mp h1 with ⟨c, h3, h4⟩ | h3
  · have e := colR_num c' h4
    refine ⟨c, ?_, h4⟩
    have hil := (List.getElem?_eq_some_iff.mp hc).1
    have := asc_find (asc_at o i (by omega)) h3
    rw [← e, h2] at this
    exact this
  · have := newR_num h3
    omega
theorem gone_on {i : Nat} {n : Int} (o : HistOk cs chs) {ch : Ch} (hc : chs[i]? = some ch) (h : colE cs chs i n = none) (hn : n < numE cs chs i) : colE cs chs (i + 1) n = none := by
  cases e : colE cs chs (i + 1) n with
  | none => rfl
  | some c' =>
    obtain ⟨c, h1, _⟩ := there_ahead o hc e hn
    rw [h] at h1
    cases h1
theorem gone_stays {i : Nat} {n : Int} (o : HistOk cs chs) (h : colE cs chs i n = none) (hn : n < numE cs chs i) : ∀ k, i + k ≤ chs.length → colE cs chs (i + k) n = none
  | 0, _ => h
  | k + 1, hk => by
    have hc : chs[i + k]? = some chs[i + k] := List.getElem?_eq_getElem (by omega)
    exact gone_on o hc (gone_stays o h hn k (by omega)) (Int.lt_of_lt_of_le hn (numE_mono (Nat.le_add_right i k)))
/-- one step of a value under a number -/
def stepN (cl : List Col) (ch : Ch) (n : Int) (v : V) : V := if isMis v = true then v else match cl.find? (isK n) with
  | some c => chgV c.name ch v
  | none => v
/-- what a value under a number becomes by the changes behind an edition, so many of them; MISSING where it is barred -/
def ledT (cs : List Col) (chs : List Ch) (n : Int) (s : Nat) (v : V) : Nat → V
  | 0 => v
  | k + 1 => match chs[s + k]? with
    | some ch => stepN (colsE cs chs (s + k)) ch n (ledT cs chs n s v k)
    | none => ledT cs chs n s v k
theorem ledT_succ {n : Int} {s k : Nat} {v : V} {ch : Ch} (h : chs[s + k]? = some ch) : ledT cs chs n s v (k + 1) = stepN (colsE cs chs (s + k)) ch n (ledT cs chs n s v k) := by
  show (match chs[s + k]? with
    | some ch => stepN (colsE cs chs (s + k)) ch n (ledT cs chs n s v k)
    | none => ledT cs chs n s v k) = _
  rw [h]
theorem stepN_mis {cl : List Col} {ch : Ch} {n : Int} {v : V} (h : isMis v = true) : stepN cl ch n v = v := if_pos h
theorem ledT_mis {n : Int} {s k : Nat} {v : V} (h : isMis (ledT cs chs n s v k) = true) : ∀ j, ledT cs chs n s v (k + j) = ledT cs chs n s v k
  | 0 => rfl
  | j + 1 => by
    show (match chs[s + (k + j)]? with
      | some ch => stepN (colsE cs chs (s + (k + j))) ch n (ledT cs chs n s v (k + j))
      | none => ledT cs chs n s v (k + j)) = _
    rw [ledT_mis h j]
    split
    · exact stepN_mis h
    · rfl
theorem ledT_gone {n : Int} {s k : Nat} {v : V} (o : HistOk cs chs) (h : colE cs chs (s + k) n = none) (hn : n < numE cs chs (s + k)) : ∀ j, s + k + j ≤ chs.length → ledT cs chs n s v (k + j) = ledT cs chs n s v k
  | 0, _ => rfl
  | j + 1, hj => by
    have hc : chs[s + (k + j)]? = some chs[s + (k + j)] := List.getElem?_eq_getElem (by omega)
    rw [show k + (j + 1) = (k + j) + 1 from rfl, ledT_succ hc, ledT_gone o h hn j (by omega)]
    have g := gone_stays o h hn j (by omega)
    rw [Nat.add_assoc] at g
    unfold stepN
    split
    · rfl
    · have g : (colsE cs chs (s + (k + j))).find? (isK n) = none := g
      rw [g]
theorem chg_val {n : Str} {ch : Ch} {v : V} (f : ch.fits = true) (h : isVal v = true) (hm : isMis (chgV n ch v) = false) : isVal (chgV n ch v) = true := by
  unfold chgV at hm ⊢
  split at hm
  · rename_i hn
    rw [if_pos hn]
    cases ch with
    | fill m i =>
      have f : (isNm (.str m) && decide (0 ≤ i)) = true := f
      cases v with
      | non => exact (Bool.and_eq_true_iff.mp f).2
      | _ => exact h
    | great m g way =>
      cases v with
      | int j =>
        have f : (isNm (.str m) && (isGr (.int g) && isWy way)) = true := f
        have hg := (Bool.and_eq_true_iff.mp (Bool.and_eq_true_iff.mp f).2).1
        have hg : (decide (1 ≤ g) && decide (g ≤ 99)) = true := hg
        have hg1 := of_decide_eq_true (Bool.and_eq_true_iff.mp hg).1
        show isVal (if g < j then abv g way else .int j) = true
        have hm : isMis (if g < j then abv g way else .int j) = false := hm
        split at hm
        · rename_i hj
          rw [if_pos hj]
          unfold abv at hm ⊢
          split at hm
          · rename_i hw
            rw [if_pos hw]
            exact decide_eq_true (by omega)
          · rename_i hw
            rw [if_neg hw]
            split at hm
            · rename_i hw2
              rw [if_pos hw2]
              rfl
            · rename_i hw2
              exact absurd hm (by decide)
        · rename_i hj
          rw [if_neg hj]
          exact h
      | _ => exact h
    | _ => exact h
  · rename_i hn
    rw [if_neg hn]
    exact h
theorem isVal_mis {v : V} (h : isVal v = true) : isMis v = false := by
  cases v with
  | str _ => cases h
  | _ => rfl
theorem isVal_ok {v : V} (h : isVal v = true) : valOk v = true := by
  cases v with
  | non => rfl
  | int _ => rfl
  | _ => cases h
theorem isVal_in {t : Int} {v : V} (h : isIn t v = true) : isVal v = true := by
  cases v with
  | non => rfl
  | int i => exact (Bool.and_eq_true_iff.mp (show (decide (0 ≤ i) && decide (i ≤ t)) = true from h)).1
  | _ => cases h
theorem stepN_val {cl : List Col} {ch : Ch} {n : Int} {v : V} (f : ch.fits = true) (h : isVal v = true) (hm : isMis (stepN cl ch n v) = false) : isVal (stepN cl ch n v) = true := by
  unfold stepN at hm ⊢
  rw [if_neg (by rw [isVal_mis h]; decide)] at hm ⊢
  cases e : cl.find? (isK n) with
  | none => exact h
  | some c =>
    rw [e] at hm
    exact chg_val f h hm
theorem ledT_mono {n : Int} {s k : Nat} {v : V} (h : isMis (ledT cs chs n s v (k + 1)) = false) : isMis (ledT cs chs n s v k) = false := by
  cases e : isMis (ledT cs chs n s v k) with
  | false => rfl
  | true =>
    rw [ledT_mis e 1, e] at h
    cases h
theorem ledT_val {n : Int} {s : Nat} {v : V} (o : HistOk cs chs) (h : isVal v = true) : ∀ k, isMis (ledT cs chs n s v k) = false → isVal (ledT cs chs n s v k) = true
  | 0, _ => h
  | k + 1, hm => by
    have ih := ledT_val o h k (ledT_mono hm)
    cases e : chs[s + k]? with
    | none =>
      have : ledT cs chs n s v (k + 1) = ledT cs chs n s v k := by
        show (match chs[s + k]? with
          | some ch => stepN (colsE cs chs (s + k)) ch n (ledT cs chs n s v k)
          | none => ledT cs chs n s v k) = _
        rw [e]
      rw [this]
      exact ih
    | some ch =>
      rw [ledT_succ e] at hm ⊢
      exact stepN_val (o.f _ _ e).1 ih hm
end

/-! births and drops: what the lists of a History tell -/
section
variable {cs : List Col} {chs : List Ch}
theorem bornStep_mem (i : Nat) : ∀ (cs : List Col) (b : List Int) (x : Int), x ∈ cs.foldl (bornStep i) b → x ∈ b ∨ x = (i : Int)
  | [], b, x, h => .inl h
  | c :: cs, b, x, h => by
    rcases bornStep_mem i cs _ x h with h | h
    · unfold bornStep at h
      split at h
      · rcases List.mem_append.mp h with h | h
        · exact .inl h
        · exact .inr (List.mem_singleton.mp h)
      · exact .inl h
    · exact .inr h
/-- the edition at which a number is first there -/
def BornIs (cs : List Col) (chs : List Ch) (n : Int) (b : Nat) : Prop := n < numE cs chs b ∧ ∀ i, i < b → numE cs chs i ≤ n
theorem BornIs.uniq {n : Int} {b b' : Nat} (h : BornIs cs chs n b) (h' : BornIs cs chs n b') : b = b' := by
  rcases Nat.lt_trichotomy b b' with q | q | q
  · have := h'.2 b q
    have := h.1
    omega
  · exact q
  · have := h.2 b' q
    have := h'.1
    omega
theorem born_to (o : HistOk cs chs) : ∀ i, i ≤ chs.length → ∀ n : Int, 0 ≤ n → n < numE cs chs i → ∃ b : Nat, (bornTo (edsTo cs chs (chs.length + 1)) (i + 1))[n.toNat]? = some ((b : Nat) : Int) ∧ b ≤ i ∧ BornIs cs chs n b
  | 0, _, n, h0, h1 => by
    have hl := o.f.born o.pl o.g 0 (Nat.zero_le _)
    have hn : n.toNat < (bornTo (edsTo cs chs (chs.length + 1)) (0 + 1)).length := by
      have h1 : n < (atC cs (chs.take 0)).2 := h1
      omega
    have hg := List.getElem?_eq_getElem hn
    have hm := List.mem_of_getElem? hg
    have e0 : bornTo (edsTo cs chs (chs.length + 1)) (0 + 1) = (List.getD (edsTo cs chs (chs.length + 1)) 0 []).foldl (bornStep 0) [] := rfl
    have hz : (bornTo (edsTo cs chs (chs.length + 1)) (0 + 1))[n.toNat] = ((0 : Nat) : Int) := by
      rcases bornStep_mem 0 _ [] _ (by rw [← e0]; exact hm) with h | h
      · cases h
      · exact h
    rw [hz] at hg
    exact ⟨0, hg, Nat.le_refl _, h1, fun i hi => by omega⟩
  | i + 1, hi, n, h0, h1 => by
    obtain ⟨ch, e⟩ : ∃ ch, chs[i]? = some ch := ⟨_, List.getElem?_eq_getElem (by omega)⟩
    have gd := o.f.good o.g i (by omega)
    have gd2 := gd.step (o.f i _ e).1 (o.f i _ e).2
    have hl : ((bornTo (edsTo cs chs (chs.length + 1)) (i + 1)).length : Int) = numE cs chs i := o.f.born o.pl o.g i (by omega)
    have eb : bornTo (edsTo cs chs (chs.length + 1)) (i + 1 + 1) = (behind (atC cs (chs.take i)).1 ch (atC cs (chs.take i)).2).foldl (bornStep (i + 1)) (bornTo (edsTo cs chs (chs.length + 1)) (i + 1)) := by
      show (List.getD (edsTo cs chs (chs.length + 1)) (i + 1) []).foldl (bornStep (i + 1)) _ = _
      rw [List.getD_eq_getElem?_getD, edsTo_get (by omega), atC_snoc e]
      rfl
    rw [numE_succ e] at h1
    by_cases hn : n < numE cs chs i
    · obtain ⟨b, h2, h3, h4⟩ := born_to o i (by omega) n h0 hn
      refine ⟨b, ?_, by omega, h4⟩
      have hlt := (List.getElem?_eq_some_iff.mp h2).1
      rw [eb]
      -- what was told stays
      have pre : ∀ (cl : List Col) (bb : List Int), n.toNat < bb.length → (cl.foldl (bornStep (i + 1)) bb)[n.toNat]? = bb[n.toNat]? := fun cl => by
        induction cl with
        | nil => exact fun bb _ => rfl
        | cons c cl ih =>
          intro bb hb
          show (cl.foldl (bornStep (i + 1)) (bornStep (i + 1) bb c))[n.toNat]? = _
          by_cases q : c.num = bb.length
          · rw [bornStep_pos q, ih _ (by rw [List.length_append]; omega), List.getElem?_append_left hb]
          · rw [bornStep_neg q]
            exact ih bb hb
      rw [pre _ _ hlt]
      exact h2
    · -- the number is new
      have ka : ch.kind = "add" := by
        cases hk : decide (ch.kind = "add") with
        | true => exact of_decide_eq_true hk
        | false =>
          rw [kind_noadd (of_decide_eq_false hk)] at h1
          exact absurd h1 hn
      rw [kind_add ka] at h1
      have en : n = numE cs chs i := by omega
      cases ch with
      | add nm gr d =>
        have hs : (atC cs (chs.take i)).1.foldl (bornStep (i + 1)) (bornTo (edsTo cs chs (chs.length + 1)) (i + 1)) = bornTo (edsTo cs chs (chs.length + 1)) (i + 1) := bornSame fun c hc => by rw [hl]; exact (gd.ok c hc).2
        rw [show behind (atC cs (chs.take i)).1 (.add nm gr d) (atC cs (chs.take i)).2 = (atC cs (chs.take i)).1 ++ [⟨nm, gr, d, (atC cs (chs.take i)).2⟩] from rfl, List.foldl_append, hs, List.foldl_cons, List.foldl_nil, bornStep_pos (show (atC cs (chs.take i)).2 = _ from hl.symm)] at eb
        refine ⟨i + 1, ?_, Nat.le_refl _, ?_, fun j hj => ?_⟩
        · have hl' : n.toNat = (bornTo (edsTo cs chs (chs.length + 1)) (i + 1)).length := by omega
          rw [eb, hl', List.getElem?_append_right (Nat.le_refl _), Nat.sub_self]
          rfl
        · rw [numE_succ e]
          show n < numE cs chs i + 1
          omega
        · rw [en]
          exact numE_mono (by omega)
      | drop _ => exact absurd (show ("drop" : Str) = "add" from ka) (by decide +kernel)
      | rename _ _ => exact absurd (show ("rename" : Str) = "add" from ka) (by decide +kernel)
      | dflt _ _ => exact absurd (show ("default" : Str) = "add" from ka) (by decide +kernel)
      | great _ _ _ => exact absurd (show ("greatest" : Str) = "add" from ka) (by decide +kernel)
      | fill _ _ => exact absurd (show ("fill" : Str) = "add" from ka) (by decide +kernel)
theorem numE_all : numE cs chs chs.length = (atC cs chs).2 := by
  show (atC cs (chs.take chs.length)).2 = _
  rw [List.take_length]
theorem born_at (o : HistOk cs chs) {n : Int} (h0 : 0 ≤ n) (h1 : n < (atC cs chs).2) : ∃ b : Nat, (bornH cs chs)[n.toNat]? = some ((b : Nat) : Int) ∧ b ≤ chs.length ∧ BornIs cs chs n b := by
  obtain ⟨b, h2, h3, h4⟩ := born_to o chs.length (Nat.le_refl _) n h0 (by rw [numE_all]; exact h1)
  refine ⟨b, ?_, h3, h4⟩
  unfold bornH bornOf
  rw [edsTo_len]
  exact h2
/-- a number is there at its birth -/
theorem born_there (o : HistOk cs chs) {n : Int} {b : Nat} (h0 : 0 ≤ n) (hb : b ≤ chs.length) (h : BornIs cs chs n b) : ∃ c, colE cs chs b n = some c := by
  cases b with
  | zero =>
    have h1 : n < (cs.length : Int) := h.1
    have hlt : n.toNat < cs.length := by omega
    have hg : cs[n.toNat]? = some (cs[n.toNat]'hlt) := List.getElem?_eq_getElem hlt
    have hp := o.pl _ _ hg
    refine ⟨cs[n.toNat]'hlt, ?_⟩
    have := asc_find (asc_at o 0 (Nat.zero_le _)) (List.mem_of_getElem? hg)
    rw [hp, show ((n.toNat : Nat) : Int) = n by omega] at this
    exact this
  | succ i =>
    obtain ⟨ch, e⟩ : ∃ ch, chs[i]? = some ch := ⟨_, List.getElem?_eq_getElem (by omega)⟩
    have h1 := h.1
    have h2 := h.2 i (Nat.lt_succ_self i)
    rw [numE_succ e] at h1
    cases ch with
    | add nm gr d =>
      have h1 : n < numE cs chs i + 1 := h1
      have en : n = numE cs chs i := by omega
      refine ⟨⟨nm, gr, d, numE cs chs i⟩, ?_⟩
      have hm : (⟨nm, gr, d, numE cs chs i⟩ : Col) ∈ colsE cs chs (i + 1) := by
        rw [colsE_succ e]
        exact List.mem_append_right _ (List.mem_singleton.mpr rfl)
      have := asc_find (asc_at o (i + 1) hb) hm
      show (colsE cs chs (i + 1)).find? (isK n) = _
      rw [en]
      exact this
    | _ => exact absurd h1 (by show ¬ n < numE cs chs i; omega)
/-- what stands in the list of drops for the number n behind so many editions -/
def DropIs (cs : List Col) (chs : List Ch) (n : Int) (i : Nat) (v : V) : Prop := (v = .non ∧ ∀ j, j < i → ¬ (∃ c, colE cs chs j n = some c) ∨ ∃ c, colE cs chs (j + 1) n = some c) ∨
  ∃ d : Nat, v = .int (d : Nat) ∧ 1 ≤ d ∧ d ≤ i ∧ (∃ c, colE cs chs (d - 1) n = some c) ∧ colE cs chs d n = none
theorem dropFold {next : List Col} {i : Nat} {n : Int} (h0 : 0 ≤ n) : ∀ (cl : List Col) (d : List V), (∀ c ∈ cl, 0 ≤ c.num) → n.toNat < d.length → (cl.foldl (dropStep next i) d)[n.toNat]? = if (∃ c ∈ cl, c.num = n) ∧ next.find? (isK n) = none then some (.int (i : Nat)) else d[n.toNat]?
  | [], d, _, _ => by
    rw [if_neg]
    · rfl
    · rintro ⟨⟨c, h, _⟩, _⟩
      cases h
  | c :: cl, d, hp, hl => by
    show (cl.foldl (dropStep next i) (dropStep next i d c))[n.toNat]? = _
    have hl2 : n.toNat < (dropStep next i d c).length := by
      unfold dropStep
      split
      · rw [List.length_set]; exact hl
      · exact hl
    rw [dropFold h0 cl _ (fun c' hc' => hp c' (List.mem_cons_of_mem _ hc')) hl2]
    have hc0 := hp c List.mem_cons_self
    by_cases h1 : (∃ c ∈ cl, c.num = n) ∧ next.find? (isK n) = none
    · rw [if_pos h1, if_pos ⟨by obtain ⟨⟨c', h2, h3⟩, _⟩ := h1; exact ⟨c', List.mem_cons_of_mem _ h2, h3⟩, h1.2⟩]
    · rw [if_neg h1]
      by_cases h2 : c.num = n
      · by_cases h3 : next.find? (isK n) = none
        · rw [if_pos ⟨⟨c, List.mem_cons_self, h2⟩, h3⟩]
          have hg : gone next c = true := by
            unfold gone
            rw [h2, h3]
            rfl
          unfold dropStep
          rw [if_pos hg, h2, List.getElem?_set_self hl]
        · rw [if_neg fun q => h3 q.2]
          have hg : ¬ gone next c = true := by
            unfold gone
            rw [h2]
            intro q
            exact h3 (Option.isNone_iff_eq_none.mp q)
          unfold dropStep
          rw [if_neg hg]
      · have : ¬ ((∃ c' ∈ c :: cl, c'.num = n) ∧ next.find? (isK n) = none) := by
          rintro ⟨⟨c', h3, h4⟩, h5⟩
          rcases List.mem_cons.mp h3 with rfl | h3
          · exact h2 h4
          · exact h1 ⟨⟨c', h3, h4⟩, h5⟩
        rw [if_neg this]
        unfold dropStep
        split
        · rw [List.getElem?_set_ne (by omega)]
        · rfl
theorem drop_to (o : HistOk cs chs) {n : Int} {m : Nat} (h0 : 0 ≤ n) (hm : n.toNat < m) : ∀ i, i ≤ chs.length → ∃ v, (dropTo (edsTo cs chs (chs.length + 1)) m i)[n.toNat]? = some v ∧ DropIs cs chs n i v
  | 0, _ => ⟨.non, by show (List.replicate m V.non)[n.toNat]? = _; rw [List.getElem?_replicate, if_pos hm], .inl ⟨rfl, fun j hj => by omega⟩⟩
  | i + 1, hi => by
    obtain ⟨v, h1, h2⟩ := drop_to o h0 hm i (by omega)
    have e : dropTo (edsTo cs chs (chs.length + 1)) m (i + 1) = (colsE cs chs i).foldl (dropStep (colsE cs chs (i + 1)) (i + 1)) (dropTo (edsTo cs chs (chs.length + 1)) m i) := by
      show (List.getD (edsTo cs chs (chs.length + 1)) i []).foldl (dropStep (List.getD (edsTo cs chs (chs.length + 1)) (i + 1) []) (i + 1)) _ = _
      rw [List.getD_eq_getElem?_getD, List.getD_eq_getElem?_getD, edsTo_get (by omega), edsTo_get (by omega)]
      rfl
    have gd := o.f.good o.g i (by omega)
    have f := dropFold (next := colsE cs chs (i + 1)) (i := i + 1) h0 (colsE cs chs i) (dropTo (edsTo cs chs (chs.length + 1)) m i) (fun c hc => (gd.ok c hc).1.nu) (by rw [dropTo_len]; exact hm)
    rw [e, f]
    split
    · rename_i q
      obtain ⟨⟨c, h3, h4⟩, h5⟩ := q
      refine ⟨_, rfl, .inr ⟨i + 1, rfl, by omega, Nat.le_refl _, ⟨c, ?_⟩, h5⟩⟩
      have := asc_find (asc_at o i (by omega)) h3
      rw [h4] at this
      exact this
    · rename_i q
      refine ⟨v, h1, ?_⟩
      rcases h2 with ⟨h3, h4⟩ | ⟨d, h3, h4, h5, h6⟩
      · refine .inl ⟨h3, fun j hj => ?_⟩
        by_cases hji : j < i
        · exact h4 j hji
        · obtain rfl : j = i := by omega
          cases hc : colE cs chs (j + 1) n with
          | some c => exact .inr ⟨c, rfl⟩
          | none =>
            refine .inl fun ⟨c, hc'⟩ => ?_
            obtain ⟨k1, k2⟩ := findK_mem hc'
            exact q ⟨⟨c, k1, k2⟩, hc⟩
      · exact .inr ⟨d, h3, h4, by omega, h6⟩
theorem drop_at (o : HistOk cs chs) {n : Int} (h0 : 0 ≤ n) (h1 : n < (atC cs chs).2) : ∃ v, (dropOf (edsTo cs chs (chs.length + 1)) (bornH cs chs).length)[n.toNat]? = some v ∧ DropIs cs chs n chs.length v := by
  have := o.born
  obtain ⟨v, h2, h3⟩ := drop_to o (m := (bornH cs chs).length) h0 (by omega) chs.length (Nat.le_refl _)
  refine ⟨v, ?_, h3⟩
  unfold dropOf
  rw [edsTo_len]
  exact h2
/-- the column with the number was dropped not behind an edition -/
def goneB (cs : List Col) (chs : List Ch) (n : Int) (e : Nat) : Bool := decide (n < numE cs chs e) && (colE cs chs e n).isNone
theorem DropIs.gone {n : Int} {v : V} (o : HistOk cs chs) (h0 : 0 ≤ n) (h1 : n < (atC cs chs).2) (h : DropIs cs chs n chs.length v) {e : Nat} (he : e ≤ chs.length) : goneB cs chs n e = match v with
    | .int d => decide (d ≤ (e : Nat))
    | _ => false := by
  obtain ⟨b, _, hb1, hb2⟩ := born_at o h0 h1
  rcases h with ⟨rfl, h2⟩ | ⟨d, rfl, h3, h4, h5, h6⟩
  · show goneB cs chs n e = false
    unfold goneB
    by_cases hn : n < numE cs chs e
    · have hbe : b ≤ e := by
        rcases Nat.lt_or_ge e b with q | q
        · have := hb2.2 e q
          omega
        · exact q
      have up : ∀ k, b + k ≤ chs.length → ∃ c, colE cs chs (b + k) n = some c := fun k => by
        induction k with
        | zero => exact fun _ => born_there o h0 hb1 hb2
        | succ k ih =>
          intro hk
          rcases h2 (b + k) (by omega) with q | q
          · exact absurd (ih (by omega)) q
          · exact q
      obtain ⟨c, hc⟩ := up (e - b) (by omega)
      rw [show b + (e - b) = e by omega] at hc
      rw [hc]
      exact Bool.and_false _
    · rw [decide_eq_false hn]
      rfl
  · show goneB cs chs n e = decide (((d : Nat) : Int) ≤ (e : Nat))
    obtain ⟨c, hc⟩ := h5
    have hn1 : n < numE cs chs (d - 1) := by
      obtain ⟨k1, k2⟩ := findK_mem hc
      have := ((o.f.good o.g (d - 1) (by omega)).ok c k1).2
      rw [← k2]
      exact this
    unfold goneB
    by_cases hde : d ≤ e
    · have hn : n < numE cs chs e := Int.lt_of_lt_of_le hn1 (numE_mono (by omega))
      have hg := gone_stays o h6 (Int.lt_of_lt_of_le hn1 (numE_mono (by omega))) (e - d) (by omega)
      rw [show d + (e - d) = e by omega] at hg
      rw [decide_eq_true hn, hg, decide_eq_true (by omega)]
      rfl
    · rw [decide_eq_false (by omega : ¬ ((d : Nat) : Int) ≤ (e : Nat))]
      by_cases hn : n < numE cs chs e
      · cases hg : colE cs chs e n with
        | some c => exact Bool.and_false _
        | none =>
          have hg2 := gone_stays o hg hn (d - 1 - e) (by omega)
          rw [show e + (d - 1 - e) = d - 1 by omega, hc] at hg2
          cases hg2
      · rw [decide_eq_false hn]
        rfl
end

/-! stored rows as data -/
/-- pairs of a number and a value, at the addresses -/
inductive Ents (K : PySem.W.Frag) (H : Hp) : List Addr → List (Int × V) → Prop
  | nil : Ents K H [] []
  | cons {a : Addr} {as : List Addr} {e : Int × V} {es : List (Int × V)} : SqT K H a [.int e.1, e.2] → Ents K H as es → Ents K H (a :: as) (e :: es)
theorem Ents.keep {K : PySem.W.Frag} {H H' : Hp} (s : Same H H') : ∀ {as : List Addr} {es : List (Int × V)}, Ents K H as es → Ents K H' as es
  | _, _, .nil => .nil
  | _, _, .cons h t => .cons (same_tup s h) (t.keep s)
theorem Ents.len {K : PySem.W.Frag} {H : Hp} : ∀ {as : List Addr} {es : List (Int × V)}, Ents K H as es → as.length = es.length
  | _, _, .nil => rfl
  | _, _, .cons _ t => congrArg Nat.succ t.len
theorem Ents.at_ {K : PySem.W.Frag} {H : Hp} : ∀ {as : List Addr} {es : List (Int × V)} {i : Nat} {a : Addr}, Ents K H as es → as[i]? = some a → ∃ e, es[i]? = some e ∧ SqT K H a [.int e.1, e.2]
  | _, _, _, _, .nil, e => by simp at e
  | _, _, 0, _, .cons h t, e => by
    simp at e
    subst e
    exact ⟨_, rfl, h⟩
  | _, _, i + 1, a, .cons h t, e => by
    obtain ⟨c, h1, h2⟩ := Ents.at_ (i := i) (a := a) t (by simpa using e)
    exact ⟨c, by simpa using h1, h2⟩
/-- a stored row stands at r -/
def StAt (K : PySem.W.Frag) (H : Hp) (r : Addr) (at_ : Int) (es : List (Int × V)) : Prop := ∃ (q : Addr) (as : List Addr), SqT K H r [.int at_, .ref q] ∧ SqT K H q (as.map V.ref) ∧ Ents K H as es
theorem StAt.keep {K : PySem.W.Frag} {H H' : Hp} {r : Addr} {e : Int} {es : List (Int × V)} (s : Same H H') (h : StAt K H r e es) : StAt K H' r e es := by
  obtain ⟨q, as, h1, h2, h3⟩ := h
  exact ⟨q, as, same_tup s h1, same_tup s h2, h3.keep s⟩
def isE (n : Int) (e : Int × V) : Bool := decide (e.1 = n)
def stV (es : List (Int × V)) (n : Int) : V := match es.find? (isE n) with
  | some e => e.2
  | none => .str "missing"

/-! rows put together, column by column -/
theorem put_new {acc : List (Key × V)} {k : Key} {v : V} (h : k ∉ acc.map (·.1)) : putK acc k v = acc ++ [(k, v)] := by
  unfold putK
  rw [any_no h, if_neg (by decide)]
theorem RowD.nil : RowD [] [] := ⟨rfl, fun j c h => by simp at h⟩
theorem RowD.more {cs : List Col} {kvs : List (Key × V)} {i : Nat} {c : Col} {v : V} (r : RowD (cs.take i) kvs) (hc : cs[i]? = some c) (nd : (cs.map (·.name)).Nodup) (hv : isIn c.top v = true) : putK kvs (Sum.inr c.name) v = kvs ++ [(Sum.inr c.name, v)] ∧ RowD (cs.take (i + 1)) (kvs ++ [(Sum.inr c.name, v)]) := by
  have hil := (List.getElem?_eq_some_iff.mp hc).1
  have hkl : kvs.length = i := by
    rw [r.1, List.length_take]
    omega
  have e : cs.take (i + 1) = cs.take i ++ [c] := by
    rw [List.take_add_one, hc]
    rfl
  refine ⟨put_new ?_, ?_, ?_⟩
  · rw [r.keys]
    intro hm
    obtain ⟨n, hn, q⟩ := List.mem_map.mp hm
    obtain rfl := Sum.inr.inj q
    have nd2 : ((cs.take (i + 1)).map (·.name)).Nodup := by
      rw [List.map_take]
      exact nd.sublist (List.take_sublist _ _)
    rw [e, List.map_append, List.nodup_append] at nd2
    exact nd2.2.2 _ hn _ (List.mem_singleton.mpr rfl) rfl
  · rw [List.length_append, hkl, e, List.length_append, List.length_take]
    show i + 1 = _ + 1
    omega
  · intro j c' hj
    rw [e] at hj
    by_cases hl : j < i
    · rw [List.getElem?_append_left (by rw [List.length_take]; omega)] at hj
      obtain ⟨v', h1, h2⟩ := r.2 j c' hj
      exact ⟨v', by rw [List.getElem?_append_left (by omega)]; exact h1, h2⟩
    · have hle := (List.getElem?_eq_some_iff.mp hj).1
      rw [List.length_append, List.length_take] at hle
      have hle : j < min i cs.length + 1 := hle
      obtain rfl : j = i := by omega
      rw [List.getElem?_append_right (by rw [List.length_take]; omega), List.length_take] at hj
      rw [show j - min j cs.length = 0 by omega] at hj
      obtain rfl := Option.some.inj hj
      exact ⟨v, by rw [List.getElem?_append_right (by omega), hkl, Nat.sub_self]; rfl, hv⟩
theorem gr_of {c : Col} (h : ColOk c) : 1 ≤ c.top ∧ c.top ≤ 99 := by
  have q : (decide (1 ≤ c.top) && decide (c.top ≤ 99)) = true := h.gr
  rw [Bool.and_eq_true] at q
  exact ⟨of_decide_eq_true q.1, of_decide_eq_true q.2⟩

/-! a row of the columns, by a value for each -/
def rowF (f : Col → V) (cs : List Col) : List (Key × V) := cs.map fun c => (Sum.inr c.name, f c)
theorem rowF_at {f : Col → V} {cs : List Col} {j : Nat} {c : Col} (h : cs[j]? = some c) : (rowF f cs)[j]? = some (Sum.inr c.name, f c) := by
  unfold rowF
  rw [List.getElem?_map, h]
  rfl
theorem rowF_len {f : Col → V} {cs : List Col} : (rowF f cs).length = cs.length := List.length_map ..
theorem rowF_keys {f : Col → V} {cs : List Col} : (rowF f cs).map (·.1) = (cs.map (·.name)).map Sum.inr := by
  unfold rowF
  rw [List.map_map, List.map_map]
  rfl
theorem rowF_take {f : Col → V} {cs : List Col} {j : Nat} {c : Col} (nd : (cs.map (·.name)).Nodup) (h : cs[j]? = some c) : putK (rowF f (cs.take j)) (Sum.inr c.name) (f c) = rowF f (cs.take (j + 1)) := by
  have e : cs.take (j + 1) = cs.take j ++ [c] := by
    rw [List.take_add_one, h]
    rfl
  have e2 : rowF f (cs.take (j + 1)) = rowF f (cs.take j) ++ [(Sum.inr c.name, f c)] := by
    rw [e]
    unfold rowF
    rw [List.map_append]
    rfl
  rw [e2, put_new]
  rw [rowF_keys]
  intro hm
  obtain ⟨n, hn, q⟩ := List.mem_map.mp hm
  obtain rfl := Sum.inr.inj q
  have nd2 : ((cs.take (j + 1)).map (·.name)).Nodup := by
    rw [List.map_take]
    exact nd.sublist (List.take_sublist _ _)
  rw [e, List.map_append, List.nodup_append] at nd2
  exact nd2.2.2 _ hn _ (List.mem_singleton.mpr rfl) rfl

/-! stored rows that stand with their tuple known -/
def entsOf (cs : List Col) (kvs : List (Key × V)) : List (Int × V) := cs.mapIdx fun j c => (c.num, match kvs[j]? with
  | some kv => kv.2
  | none => .non)
theorem entsOf_len {cs : List Col} {kvs : List (Key × V)} : (entsOf cs kvs).length = cs.length := List.length_mapIdx
theorem entsOf_at {cs : List Col} {kvs : List (Key × V)} (r : RowD cs kvs) {j : Nat} {c : Col} (h : cs[j]? = some c) : ∃ v, (entsOf cs kvs)[j]? = some (c.num, v) ∧ kvs[j]? = some (Sum.inr c.name, v) ∧ isIn c.top v = true := by
  obtain ⟨v, h1, h2⟩ := r.2 j c h
  refine ⟨v, ?_, h1, h2⟩
  unfold entsOf
  rw [List.getElem?_mapIdx, h]
  show some (c.num, match kvs[j]? with | some kv => kv.2 | none => V.non) = _
  rw [h1]
theorem RowD.fit {cs : List Col} {kvs : List (Key × V)} (r : RowD cs kvs) : FitE cs (entsOf cs kvs) := ⟨entsOf_len, fun j c h => by
  obtain ⟨v, h1, _, h2⟩ := entsOf_at r h
  exact ⟨v, h1, h2⟩⟩
theorem Ents.of_vs {K : PySem.W.Frag} {H : Hp} : ∀ {ys : List V} {es : List (Int × V)}, ys.length = es.length → (∀ (i : Nat) (y : V), ys[i]? = some y → ∃ t e, y = .ref t ∧ es[i]? = some e ∧ SqT K H t [.int e.1, e.2]) → ∃ as, ys = as.map V.ref ∧ Ents K H as es
  | [], [], _, _ => ⟨[], rfl, .nil⟩
  | [], _ :: _, h, _ => by cases h
  | _ :: _, [], h, _ => by cases h
  | y :: ys, e :: es, h, f => by
    obtain ⟨t, e', rfl, q, ht⟩ := f 0 y rfl
    obtain rfl : e = e' := Option.some.inj q
    obtain ⟨as, rfl, hh⟩ := Ents.of_vs (ys := ys) (es := es) (Nat.succ.inj h) fun i y' h1 => f (i + 1) y' (by simpa using h1)
    exact ⟨t :: as, rfl, .cons ht hh⟩
def keyE (e : Int × V) : Key × V := (Sum.inl e.1, e.2)
theorem keyE_nodup {cs : List Col} {kvs : List (Key × V)} (a : Asc cs) : (((entsOf cs kvs).map keyE).map (·.1)).Nodup := by
  have e : ((entsOf cs kvs).map keyE).map (·.1) = (cs.map (·.num)).map (Sum.inl : Int → Key) := by
    rw [List.map_map, List.map_map]
    refine List.ext_getElem? fun j => ?_
    rw [List.getElem?_map, List.getElem?_map]
    unfold entsOf
    rw [List.getElem?_mapIdx]
    cases cs[j]? <;> rfl
  rw [e]
  unfold List.Nodup
  rw [List.pairwise_map]
  exact List.Pairwise.imp (fun h q => by have := Sum.inl.inj q; omega) a
/-- a stored row at r, its inner tuple's object known -/
def StF (K : PySem.W.Frag) (H : Hp) (r : Addr) (ed : Int) (es : List (Int × V)) : Prop := ∃ (q : Addr) (as : List Addr) (o : Obj), SqT K H r [.int ed, .ref q] ∧ H q = some (.frz o (.tup (as.map V.ref))) ∧ o.dict = none ∧ Ents K H as es
theorem StF.st {K : PySem.W.Frag} {H : Hp} {r : Addr} {ed : Int} {es : List (Int × V)} (h : StF K H r ed es) : StAt K H r ed es := by
  obtain ⟨q, as, o, h1, h2, _, h4⟩ := h
  exact ⟨q, as, h1, .inl (.inr ⟨o, h2⟩), h4⟩
theorem StF.keep {K : PySem.W.Frag} {H H' : Hp} {r : Addr} {ed : Int} {es : List (Int × V)} (s : Same H H') (h : StF K H r ed es) : StF K H' r ed es := by
  obtain ⟨q, as, o, h1, h2, h3, h4⟩ := h
  exact ⟨q, as, o, same_tup s h1, s _ _ h2, h3, h4.keep s⟩
theorem ty_in {K : PySem.W.Frag} {g : Int} {v : V} (h : isIn g v = true) : ∃ t, ∀ H : Hp, TyX K H v (.type t) := by
  cases v with
  | non => exact ⟨_, fun _ => .base .non⟩
  | int i => exact ⟨_, fun _ => .base (.int i)⟩
  | _ => cases h
theorem cols_few {cs : List Col} {chs : List Ch} (o : HistOk cs chs) (u : V) : (colsAt cs chs u).length ≤ 1000 := by
  unfold colsAt
  by_cases h : (edOf chs.length u).toNat ≤ chs.length
  · have := (o.f.good o.g _ h).six
    omega
  · have e : chs.take (edOf chs.length u).toNat = chs.take chs.length := by rw [List.take_of_length_le (by omega), List.take_length]
    rw [e]
    have := (o.f.good o.g chs.length (Nat.le_refl _)).six
    omega
/-- the law's stored row is one -/
theorem scal_refl {g : Int} {v : V} (h : isIn g v = true) : scal v v = true := by
  cases v with
  | non => rfl
  | int i => rfl
  | _ => cases h
/-- what is stored under a number, as a law looks it up -/
theorem stV_head (es : List (Int × V)) (n : Int) : (((es.filter (isE n)).map (·.2)) ++ [V.str "missing"])[0]? = some (stV es n) := by
  have e : (es.filter (isE n))[0]? = es.find? (isE n) := by rw [← List.head?_eq_getElem?, List.head?_filter]
  unfold stV
  cases hf : es.filter (isE n) with
  | nil =>
    rw [hf] at e
    rw [← e]
    rfl
  | cons x xs =>
    rw [hf] at e
    rw [← e]
    rfl
theorem scal_st {cs : List Col} {es : List (Int × V)} (f : FitE cs es) (n : Int) : scal (stV es n) (stV es n) = true := by
  unfold stV
  cases hf : es.find? (isE n) with
  | none => rfl
  | some e =>
    obtain ⟨j, hj⟩ := List.mem_iff_getElem?.mp (List.mem_of_find?_eq_some hf)
    have hjl := (List.getElem?_eq_some_iff.mp hj).1
    obtain ⟨v, h1, h2⟩ := f.2 j (cs[j]'(by rw [← f.1]; exact hjl)) (List.getElem?_eq_getElem _)
    obtain rfl := Option.some.inj (h1.symm.trans hj)
    exact scal_refl h2
theorem Ents.keepT {K : PySem.W.Frag} {H H' : Hp} (s : KeepT H H') : ∀ {as : List Addr} {es : List (Int × V)}, Ents K H as es → Ents K H' as es
  | _, _, .nil => .nil
  | _, _, .cons h t => .cons (sqT_keepT s h) (t.keepT s)
theorem StF.keepT {K : PySem.W.Frag} {H H' : Hp} {r : Addr} {ed : Int} {es : List (Int × V)} (s : KeepT H H') (h : StF K H r ed es) : StF K H' r ed es := by
  obtain ⟨q, as, o, h1, h2, h3, h4⟩ := h
  exact ⟨q, as, o, sqT_keepT s h1, s _ _ (fun _ z => by cases z) (fun _ z => by cases z) h2, h3, h4.keepT s⟩
theorem Ents.of_at {K : PySem.W.Frag} {H : Hp} : ∀ {as : List Addr} {es : List (Int × V)}, as.length = es.length → (∀ (i : Nat) a e, as[i]? = some a → es[i]? = some e → SqT K H a [.int e.1, e.2]) → Ents K H as es
  | [], [], _, _ => .nil
  | [], _ :: _, h, _ => by cases h
  | _ :: _, [], h, _ => by cases h
  | a :: as, e :: es, h, f => .cons (f 0 a e rfl rfl) (Ents.of_at (Nat.succ.inj h) fun i a' e' h1 h2 => f (i + 1) a' e' (by simpa using h1) (by simpa using h2))

/-! stored rows that stand; what is barred stays so -/
theorem folTo_none {cs : List Col} {chs : List Ch} {i : Nat} {kvs : List (Key × V)} {m : Nat} (h : folTo cs chs i kvs m = none) : ∀ k, folTo cs chs i kvs (m + k) = none
  | 0 => h
  | k + 1 => by
    show (match folTo cs chs i kvs (m + k), chs[i + (m + k)]? with
      | some r, some ch => rowThen (atC cs (chs.take (i + (m + k)))).1 ch r
      | _, _ => none) = _
    rw [folTo_none h k]
theorem folTo_le {cs : List Col} {chs : List Ch} {i : Nat} {kvs : List (Key × V)} {m n : Nat} (h : folTo cs chs i kvs m = none) (hmn : m ≤ n) : folTo cs chs i kvs n = none := by
  have := folTo_none h (n - m)
  rwa [show m + (n - m) = n by omega] at this
/-- a stored row of edition i stands at r -/
structure RowAt (K : PySem.W.Frag) (H : Hp) (cs : List Col) (chs : List Ch) (r : Addr) (i : Nat) (es : List (Int × V)) : Prop where
  sf : StF K H r (i : Nat) es
  fit : FitE (atC cs (chs.take i)).1 es
  le : i ≤ chs.length
theorem RowAt.st {K : PySem.W.Frag} {H : Hp} {cs : List Col} {chs : List Ch} {r : Addr} {i : Nat} {es : List (Int × V)} (h : RowAt K H cs chs r i es) : StAt K H r (i : Nat) es := h.sf.st
theorem RowAt.keep {K : PySem.W.Frag} {H H' : Hp} {cs : List Col} {chs : List Ch} {r : Addr} {i : Nat} {es : List (Int × V)} (s : Same H H') (h : RowAt K H cs chs r i es) : RowAt K H' cs chs r i es := ⟨h.sf.keep s, h.fit, h.le⟩

/-! a row followed, number by number -/
section
variable {cs : List Col} {chs : List Ch}
def bornN (cs : List Col) (chs : List Ch) (n : Int) : Nat := match (bornH cs chs)[n.toNat]? with
  | some b => b.toNat
  | none => 0
theorem bornN_spec (o : HistOk cs chs) {n : Int} (h0 : 0 ≤ n) (h1 : n < (atC cs chs).2) : (bornH cs chs)[n.toNat]? = some ((bornN cs chs n : Nat) : Int) ∧ bornN cs chs n ≤ chs.length ∧ BornIs cs chs n (bornN cs chs n) := by
  obtain ⟨b, h2, h3, h4⟩ := born_at o h0 h1
  have e : bornN cs chs n = b := by
    unfold bornN
    rw [h2]
    exact Int.toNat_natCast b
  rw [e]
  exact ⟨h2, h3, h4⟩
/-- the default with which a number was there first -/
def dfltB (cs : List Col) (chs : List Ch) (n : Int) : V := match colE cs chs (bornN cs chs n) n with
  | some c => c.dflt
  | none => .non
/-- what a row of the edition i has under the number n behind t changes -/
def valAt (cs : List Col) (chs : List Ch) (i : Nat) (es : List (Int × V)) (n : Int) (t : Nat) : V := if n < numE cs chs i then ledT cs chs n i (stV es n) t else ledT cs chs n (bornN cs chs n) (dfltB cs chs n) (i + t - bornN cs chs n)
theorem born_le (o : HistOk cs chs) {n : Int} {e : Nat} (h0 : 0 ≤ n) (he : e ≤ chs.length) (h : n < numE cs chs e) : bornN cs chs n ≤ e := by
  have h1 : n < (atC cs chs).2 := by rw [← numE_all]; exact Int.lt_of_lt_of_le h (numE_mono he)
  obtain ⟨_, _, h2⟩ := bornN_spec o h0 h1
  rcases Nat.lt_or_ge e (bornN cs chs n) with q | q
  · have := h2.2 e q
    omega
  · exact q
theorem valAt_succ (o : HistOk cs chs) {i t : Nat} {es : List (Int × V)} {n : Int} {ch : Ch} (h0 : 0 ≤ n) (hc : chs[i + t]? = some ch) (hn : n < numE cs chs (i + t)) : valAt cs chs i es n (t + 1) = stepN (colsE cs chs (i + t)) ch n (valAt cs chs i es n t) := by
  have hil := (List.getElem?_eq_some_iff.mp hc).1
  unfold valAt
  split
  · exact ledT_succ hc
  · have hb := born_le o h0 (by omega) hn
    have e : bornN cs chs n + (i + t - bornN cs chs n) = i + t := by omega
    rw [show i + (t + 1) - bornN cs chs n = (i + t - bornN cs chs n) + 1 by omega, ledT_succ (by rw [e]; exact hc), e]
theorem go_barred {ch : Ch} : ∀ {cs : List Col} {vs : List V} {acc : List (Key × V)} {i : Nat} {c : Col} {v : V}, cs[i]? = some c → vs[i]? = some v → isMis (chgV c.name ch v) = true → rowGo ch cs vs acc = none
  | [], _, _, _, _, _, h, _, _ => by simp at h
  | _ :: _, [], _, _, _, _, _, h, _ => by simp at h
  | c :: cs, v :: vs, acc, i, c', v', h1, h2, h3 => by
    show (if isMis (chgV c.name ch v) = true then none else rowGo ch cs vs (stepR ch c (chgV c.name ch v) acc)) = none
    cases hm : isMis (chgV c.name ch v) with
    | true => rw [if_pos rfl]
    | false =>
      rw [if_neg (by decide)]
      match i, h1, h2 with
      | 0, h1, h2 =>
        obtain rfl := Option.some.inj h1
        obtain rfl := Option.some.inj h2
        rw [hm] at h3
        cases h3
      | i + 1, h1, h2 => exact go_barred (i := i) (by simpa using h1) (by simpa using h2) h3
theorem give_rowF {ch : Ch} {f f' : Col → V} : ∀ {cs : List Col}, (∀ c ∈ cs, ∀ c' ∈ colR ch c, f' c' = chgV c.name ch (f c)) → giveL ch cs (cs.map f) = rowF f' (cs.flatMap (colR ch))
  | [], _ => rfl
  | c :: cs, h => by
    show giveR ch c (chgV c.name ch (f c)) ++ giveL ch cs (cs.map f) = _
    rw [give_rowF fun d hd => h d (List.mem_cons_of_mem _ hd), List.flatMap_cons]
    unfold rowF giveR
    rw [List.map_append]
    congr 1
    exact List.map_congr_left fun c' hc' => by rw [h c List.mem_cons_self c' hc']
/-- the number n is one that the row of the edition i speaks of -/
def Rel (cs : List Col) (chs : List Ch) (i : Nat) (n : Int) (t : Nat) : Prop := 0 ≤ n ∧ n < numE cs chs (i + t) ∧ (numE cs chs i ≤ n ∨ ∃ c, colE cs chs i n = some c)
theorem st_fit {cl : List Col} {es : List (Int × V)} (f : FitE cl es) (a : Asc cl) {j : Nat} {c : Col} (h : cl[j]? = some c) : ∃ v, es[j]? = some (c.num, v) ∧ stV es c.num = v ∧ isIn c.top v = true := by
  obtain ⟨v, h1, h2⟩ := f.2 j c h
  refine ⟨v, h1, ?_, h2⟩
  unfold stV
  cases e : es.find? (isE c.num) with
  | none =>
    have := List.find?_eq_none.mp e _ (List.mem_of_getElem? h1)
    exact absurd (decide_eq_true rfl) this
  | some p =>
    have h3 := List.find?_some e
    have h3 : p.1 = c.num := of_decide_eq_true h3
    obtain ⟨k, hk⟩ := List.mem_iff_getElem?.mp (List.mem_of_find?_eq_some e)
    have hkl := (List.getElem?_eq_some_iff.mp hk).1
    rw [f.1] at hkl
    obtain ⟨v', h4, _⟩ := f.2 k _ (List.getElem?_eq_getElem hkl)
    have e1 := Option.some.inj (hk.symm.trans h4)
    have e2 : cl[k].num = c.num := by rw [← h3, e1]
    obtain rfl := asc_uniq a (List.getElem?_eq_getElem hkl) h e2
    have e3 := Option.some.inj (hk.symm.trans h1)
    rw [e3]
theorem rowE_led (o : HistOk cs chs) {i : Nat} {es : List (Int × V)} (hi : i ≤ chs.length) (f : FitE (colsE cs chs i) es) : rowE (colsE cs chs i) es = rowF (fun c => valAt cs chs i es c.num 0) (colsE cs chs i) := by
  have a := asc_at o i hi
  have g := o.f.good o.g i hi
  refine List.ext_getElem? fun j => ?_
  cases hc : (colsE cs chs i)[j]? with
  | none =>
    have hl := List.getElem?_eq_none_iff.mp hc
    rw [List.getElem?_eq_none (by rw [rowE_len]; exact hl), List.getElem?_eq_none (by rw [rowF_len]; exact hl)]
  | some c =>
    obtain ⟨v, h1, h2, _⟩ := rowE_at f hc
    obtain ⟨v', h3, h4, _⟩ := st_fit f a hc
    rw [h1, rowF_at hc]
    have hn := (g.ok c (List.mem_of_getElem? hc)).2
    obtain rfl : v = v' := congrArg Prod.snd (Option.some.inj (h2.symm.trans h3))
    unfold valAt
    rw [if_pos hn, ← h4]
    rfl
theorem row_led (o : HistOk cs chs) {i : Nat} {es : List (Int × V)} (hi : i ≤ chs.length) (f : FitE (colsE cs chs i) es) : ∀ t, i + t ≤ chs.length →
    (folTo cs chs i (rowE (colsE cs chs i) es) t = some (rowF (fun c => valAt cs chs i es c.num t) (colsE cs chs (i + t))) ∧ ∀ n, Rel cs chs i n t → isMis (valAt cs chs i es n t) = false) ∨
    (folTo cs chs i (rowE (colsE cs chs i) es) t = none ∧ ∃ n, Rel cs chs i n t ∧ isMis (valAt cs chs i es n t) = true)
  | 0, _ => by
    have a := asc_at o i hi
    refine .inl ⟨congrArg some (rowE_led o hi f), fun n hn => ?_⟩
    obtain ⟨h0, h1, h2⟩ := hn
    have h1 : n < numE cs chs i := h1
    rcases h2 with h2 | ⟨c, hc⟩
    · omega
    · obtain ⟨k1, k2⟩ := findK_mem hc
      obtain ⟨j, hj⟩ := List.mem_iff_getElem?.mp k1
      obtain ⟨v, _, h4, h5⟩ := st_fit f a hj
      have e : valAt cs chs i es n 0 = v := by
        unfold valAt
        rw [if_pos h1, ← h4, k2]
        rfl
      rw [e]
      exact isVal_mis (isVal_in h5)
  | t + 1, ht => by
    have hc : chs[i + t]? = some chs[i + t] := List.getElem?_eq_getElem (by omega)
    generalize chs[i + t] = ch at hc
    obtain ⟨ft, hz⟩ := o.f (i + t) _ hc
    have g := o.f.good o.g (i + t) (by omega)
    have hmono : numE cs chs (i + t) ≤ numE cs chs (i + (t + 1)) := numE_mono (by omega)
    rcases row_led o hi f t (by omega) with ⟨h1, h2⟩ | ⟨h1, n, h2, h3⟩
    · have hrow := folTo_row o (rowE_row f) t (by omega) _ h1
      have hfs := folTo_succ h1 hc
      rw [hfs]
      have relc : ∀ c ∈ colsE cs chs (i + t), Rel cs chs i c.num t := fun c hcm => by
        refine ⟨(g.ok c hcm).1.nu, (g.ok c hcm).2, ?_⟩
        rcases Int.lt_or_le c.num (numE cs chs i) with q | q
        · refine .inr ?_
          cases e : colE cs chs i c.num with
          | some d => exact ⟨d, rfl⟩
          | none =>
            have := gone_stays o e q t (by omega)
            have h9 : colE cs chs (i + t) c.num = some c := asc_find (asc_at o (i + t) (by omega)) hcm
            rw [h9] at this
            cases this
        · exact .inl q
      have hmap : (rowF (fun c => valAt cs chs i es c.num t) (colsE cs chs (i + t))).map (·.2) = (colsE cs chs (i + t)).map (fun c => valAt cs chs i es c.num t) := by
        unfold rowF
        rw [List.map_map]
        rfl
      have stepc : ∀ c ∈ colsE cs chs (i + t), valAt cs chs i es c.num (t + 1) = chgV c.name ch (valAt cs chs i es c.num t) := fun c hcm => by
        obtain ⟨r0, r1, r2⟩ := relc c hcm
        rw [valAt_succ o r0 hc r1]
        unfold stepN
        rw [if_neg (by rw [h2 _ (relc c hcm)]; decide)]
        have h9 : (colsE cs chs (i + t)).find? (isK c.num) = some c := asc_find (asc_at o (i + t) (by omega)) hcm
        rw [h9]
      by_cases hb : ∃ c ∈ colsE cs chs (i + t), isMis (chgV c.name ch (valAt cs chs i es c.num t)) = true
      · obtain ⟨c, hcm, hm⟩ := hb
        refine .inr ⟨?_, c.num, ?_, by rw [stepc c hcm]; exact hm⟩
        · unfold rowThen
          obtain ⟨j, hj⟩ := List.mem_iff_getElem?.mp hcm
          rw [hmap, go_barred (i := j) (c := c) (v := valAt cs chs i es c.num t) hj (by rw [List.getElem?_map, hj]; rfl) hm]
          rfl
        · obtain ⟨r0, r1, r2⟩ := relc c hcm
          exact ⟨r0, by omega, r2⟩
      · have free : ∀ c ∈ colsE cs chs (i + t), isMis (chgV c.name ch (valAt cs chs i es c.num t)) = false := fun c hcm => by
          cases hm : isMis (chgV c.name ch (valAt cs chs i es c.num t)) with
          | false => rfl
          | true => exact absurd ⟨c, hcm, hm⟩ hb
        obtain ⟨acc, hgo⟩ := go_free (ch := ch) (cs := colsE cs chs (i + t)) (vs := (colsE cs chs (i + t)).map (fun c => valAt cs chs i es c.num t)) (acc := []) fun j c v q1 q2 => by
          rw [List.getElem?_map, q1] at q2
          obtain rfl := Option.some.inj q2
          exact free c (List.mem_of_getElem? q1)
        have hthen : rowThen (colsE cs chs (i + t)) ch (rowF (fun c => valAt cs chs i es c.num t) (colsE cs chs (i + t))) = some (endR ch acc) := by
          unfold rowThen
          rw [hmap, hgo]
          rfl
        have hgive := rowThen_give g ft hz hrow hthen
        -- a new number
        have newv : ∀ c ∈ newR ch (numE cs chs (i + t)), lastR ch = [(Sum.inr c.name, c.dflt)] ∧ valAt cs chs i es c.num (t + 1) = c.dflt ∧ isVal c.dflt = true := fun c hcn => by
          cases ch with
          | add nm gr d =>
            have e := List.mem_singleton.mp hcn
            subst e
            have f2 : isVal d = true := (Bool.and_eq_true_iff.mp (Bool.and_eq_true_iff.mp (show (isNm (.str nm) && (isGr (.int gr) && isVal d)) = true from ft)).2).2
            refine ⟨rfl, ?_, f2⟩
            show valAt cs chs i es (numE cs chs (i + t)) (t + 1) = d
            have hn0 := g.nn
            have hin : ¬ numE cs chs (i + t) < numE cs chs i := by
              have := numE_mono (cs := cs) (chs := chs) (show i ≤ i + t by omega)
              omega
            have e1 : numE cs chs (i + t + 1) = numE cs chs (i + t) + 1 := numE_succ hc
            have bi : BornIs cs chs (numE cs chs (i + t)) (i + t + 1) := ⟨by omega, fun j hj => numE_mono (by omega)⟩
            have hall : numE cs chs (i + t) < (atC cs chs).2 := by
              have := numE_mono (cs := cs) (chs := chs) (show i + t + 1 ≤ chs.length by omega)
              rw [numE_all] at this
              omega
            have eb : bornN cs chs (numE cs chs (i + t)) = i + t + 1 := (bornN_spec o hn0 hall).2.2.uniq bi
            have hm : (⟨nm, gr, d, numE cs chs (i + t)⟩ : Col) ∈ colsE cs chs (i + t + 1) := by
              rw [colsE_succ hc]
              exact List.mem_append_right _ (List.mem_singleton.mpr rfl)
            have hf : colE cs chs (i + t + 1) (numE cs chs (i + t)) = some ⟨nm, gr, d, numE cs chs (i + t)⟩ := asc_find (asc_at o (i + t + 1) (by omega)) hm
            unfold valAt
            rw [if_neg hin, eb, show i + (t + 1) - (i + t + 1) = 0 by omega]
            show dfltB cs chs (numE cs chs (i + t)) = d
            unfold dfltB
            rw [eb, hf]
          | _ => cases hcn
        refine .inl ⟨?_, fun n hn => ?_⟩
        · rw [hthen, hgive, hmap, show i + (t + 1) = i + t + 1 from rfl, colsE_succ hc, behind_flat]
          congr 1
          rw [give_rowF (f' := fun c => valAt cs chs i es c.num (t + 1)) fun c hcm c' hc' => by
            show valAt cs chs i es c'.num (t + 1) = _
            rw [colR_num c' hc']
            exact stepc c hcm]
          unfold rowF
          rw [List.map_append]
          congr 1
          cases hk : newR ch (numE cs chs (i + t)) with
          | nil =>
            cases ch with
            | add _ _ _ => cases hk
            | _ => rfl
          | cons c r =>
            have hmem : c ∈ newR ch (numE cs chs (i + t)) := by rw [hk]; exact List.mem_cons_self
            obtain ⟨k1, k2, _⟩ := newv c hmem
            have hr : r = [] := by
              cases ch with
              | add _ _ _ => exact (List.cons.inj hk).2.symm
              | _ => cases hk
            rw [hr, k1]
            show [(Sum.inr c.name, c.dflt)] = [(Sum.inr c.name, valAt cs chs i es c.num (t + 1))]
            rw [k2]
        · obtain ⟨r0, r1, r2⟩ := hn
          rcases Int.lt_or_le n (numE cs chs (i + t)) with q | q
          · have hrel : Rel cs chs i n t := ⟨r0, q, r2⟩
            have hm := h2 n hrel
            rw [valAt_succ o r0 hc q]
            unfold stepN
            rw [if_neg (by rw [hm]; decide)]
            cases e : (colsE cs chs (i + t)).find? (isK n) with
            | none => exact hm
            | some c =>
              obtain ⟨k1, k2⟩ := findK_mem e
              have := free c k1
              rw [k2] at this
              exact this
          · have e1 : numE cs chs (i + (t + 1)) = numThen ch (numE cs chs (i + t)) := numE_succ hc
            rw [e1] at r1
            cases ch with
            | add nm gr d =>
              have r1 : n < numE cs chs (i + t) + 1 := r1
              obtain ⟨_, k2, k3⟩ := newv ⟨nm, gr, d, numE cs chs (i + t)⟩ (List.mem_singleton.mpr rfl)
              have en : n = numE cs chs (i + t) := by omega
              rw [en, k2]
              exact isVal_mis k3
            | _ =>
              have r1 : n < numE cs chs (i + t) := r1
              omega
    · obtain ⟨r0, r1, r2⟩ := h2
      refine .inr ⟨folTo_none h1 1, n, ⟨r0, by omega, r2⟩, ?_⟩
      rw [valAt_succ o r0 hc r1, stepN_mis h3]
      exact h3
end

/-! history.born(number) -/
def sp_Hist_born (K : PySem.W.Frag) : Sp := fun vs H Q _ => ∃ (h : Addr) (cs : List Col) (chs : List Ch) (n : Int), vs = [.ref h, .int n] ∧ HistAt K H h cs chs ∧ HistOk cs chs ∧ 0 ≤ n ∧ n < (atC cs chs).2 ∧ Q (.int (bornN cs chs n : Nat)) H
theorem ok_Hist_born (T : Tx K mg) : ∃ fd, FnOk P w K mg base CX0 3 (He.ma K (He.ga K "History") "born") fd ["self", "number"] (sp_Hist_born K) ∧ Binds K fd ["self", "number"] [] := by
  have C1 := ok_is_given (P := P) (w := w) (base := base) T
  refine mkMeth (fd_History_born T) sc_History_born (fun _ _ _ _ _ _ us hl => match us, hl with | [_, _], _ => rfl) (fun vs H Q E h => ?_) (fun cdv A outer s H vs Q E hr h => ?_)
  · obtain ⟨h, cs, chs, n, rfl, _⟩ := h
    rfl
  obtain ⟨h, cs, chs, n, rfl, hq, o, h0, h1, k⟩ := h
  obtain ⟨dx, e, c, b, d, es, ts, hh, he, hE, hc, hC, hb, hd⟩ := id hq
  obtain ⟨hb1, hb2, hb3⟩ := bornN_spec o h0 h1
  refine ⟨_, (pss_cons (ps_if (pt_not (pt_val (pcall C1 hr (pa_cons (pv 0) (pa_cons (pv 1) pa_nil))))) (pss_one ps_never) pss_nil)
        (pss_one (ps_ret (pe_ix ix_list (pe_fld (pv 0) rfl) (pv 1) (fun _ _ => rfl))))), ?_⟩
  refine ⟨_, rfl, _, rfl, h, cs, chs, n, rfl, hq, o, _, rfl, ?_⟩
  rw [decide_eq_true h0, decide_eq_true h1]
  refine iteF (nxt ⟨_, rfl, h, _, dx, _, _, rfl, hh, cl_History T, na_History__births T, histFs_births, _, rfl, b, _, n, _, rfl, rfl, sqL_of hb, ix_int h0 (by rw [List.getElem?_map, hb1]; rfl), k⟩)
/-! history.dropped(number) -/
def sp_Hist_dropped (K : PySem.W.Frag) : Sp := fun vs H Q _ => ∃ (h : Addr) (cs : List Col) (chs : List Ch) (n : Int), vs = [.ref h, .int n] ∧ HistAt K H h cs chs ∧ HistOk cs chs ∧ 0 ≤ n ∧ n < (atC cs chs).2 ∧ ∀ v, DropIs cs chs n chs.length v → Q v H
theorem ok_Hist_dropped (T : Tx K mg) : ∃ fd, FnOk P w K mg base CX0 3 (He.ma K (He.ga K "History") "dropped") fd ["self", "number"] (sp_Hist_dropped K) ∧ Binds K fd ["self", "number"] [] := by
  have C1 := ok_is_given (P := P) (w := w) (base := base) T
  refine mkMeth (fd_History_dropped T) sc_History_dropped (fun _ _ _ _ _ _ us hl => match us, hl with | [_, _], _ => rfl) (fun vs H Q E h => ?_) (fun cdv A outer s H vs Q E hr h => ?_)
  · obtain ⟨h, cs, chs, n, rfl, _⟩ := h
    rfl
  obtain ⟨h, cs, chs, n, rfl, hq, o, h0, h1, k⟩ := h
  obtain ⟨dx, e, c, b, d, es, ts, hh, he, hE, hc, hC, hb, hd⟩ := id hq
  obtain ⟨v, hv1, hv2⟩ := drop_at o h0 h1
  refine ⟨_, (pss_cons (ps_if (pt_not (pt_val (pcall C1 hr (pa_cons (pv 0) (pa_cons (pv 1) pa_nil))))) (pss_one ps_never) pss_nil)
        (pss_one (ps_ret (pe_ix ix_list (pe_fld (pv 0) rfl) (pv 1) (fun _ _ => rfl))))), ?_⟩
  refine ⟨_, rfl, _, rfl, h, cs, chs, n, rfl, hq, o, _, rfl, ?_⟩
  rw [decide_eq_true h0, decide_eq_true h1]
  refine iteF (nxt ⟨_, rfl, h, _, dx, _, _, rfl, hh, cl_History T, na_History__drops T, histFs_drops, _, rfl, d, _, n, v, rfl, rfl, sqL_of hd, ix_int h0 hv1, k v hv2⟩)
/-! the columns of the second set of laws: dicts -/
def colB (c : Col) : List (Key × V) := [(Sum.inr "name", .str c.name), (Sum.inr "g", .int c.top), (Sum.inr "d", c.dflt), (Sum.inr "n", .int c.num)]
theorem colB_vals (c : Col) : valV (colB c) (Sum.inr "name") = some (.str c.name) ∧ valV (colB c) (Sum.inr "g") = some (.int c.top) ∧ valV (colB c) (Sum.inr "d") = some c.dflt ∧ valV (colB c) (Sum.inr "n") = some (.int c.num) := by
  have h1 : ¬ ((Sum.inr "name" : Key) = (Sum.inr "g" : Key)) := by decide +kernel
  have h2 : ¬ ((Sum.inr "name" : Key) = (Sum.inr "d" : Key)) := by decide +kernel
  have h3 : ¬ ((Sum.inr "name" : Key) = (Sum.inr "n" : Key)) := by decide +kernel
  have h4 : ¬ ((Sum.inr "g" : Key) = (Sum.inr "d" : Key)) := by decide +kernel
  have h5 : ¬ ((Sum.inr "g" : Key) = (Sum.inr "n" : Key)) := by decide +kernel
  have h6 : ¬ ((Sum.inr "d" : Key) = (Sum.inr "n" : Key)) := by decide +kernel
  unfold colB
  refine ⟨valV_pos rfl, ?_, ?_, ?_⟩
  · simp [valV, h1]
  · simp [valV, h2, h4]
  · simp [valV, h3, h5, h6]
section
variable {H : Hp} {a : Addr} {c : Col}
theorem bc_name (h : H a = some (.dK (colB c))) : DGet H a (.str "name") (some (.str c.name)) := by
  rw [← (colB_vals c).1]; exact DGet.k (k := Sum.inr "name") h
theorem bc_g (h : H a = some (.dK (colB c))) : DGet H a (.str "g") (some (.int c.top)) := by
  rw [← (colB_vals c).2.1]; exact DGet.k (k := Sum.inr "g") h
theorem bc_d (h : H a = some (.dK (colB c))) : DGet H a (.str "d") (some c.dflt) := by
  rw [← (colB_vals c).2.2.1]; exact DGet.k (k := Sum.inr "d") h
theorem bc_n (h : H a = some (.dK (colB c))) : DGet H a (.str "n") (some (.int c.num)) := by
  rw [← (colB_vals c).2.2.2]; exact DGet.k (k := Sum.inr "n") h
end
theorem colB_put (c : Col) : (∀ s : Str, putK (colB c) (Sum.inr "name") (.str s) = colB { c with name := s }) ∧ (∀ i : Int, putK (colB c) (Sum.inr "g") (.int i) = colB { c with top := i }) ∧ (∀ v : V, putK (colB c) (Sum.inr "d") v = colB { c with dflt := v }) := by
  have h1 : ¬ ((Sum.inr "name" : Key) = (Sum.inr "g" : Key)) := by decide +kernel
  have h2 : ¬ ((Sum.inr "name" : Key) = (Sum.inr "d" : Key)) := by decide +kernel
  have h3 : ¬ ((Sum.inr "name" : Key) = (Sum.inr "n" : Key)) := by decide +kernel
  have h4 : ¬ ((Sum.inr "g" : Key) = (Sum.inr "d" : Key)) := by decide +kernel
  have h5 : ¬ ((Sum.inr "g" : Key) = (Sum.inr "n" : Key)) := by decide +kernel
  have h6 : ¬ ((Sum.inr "d" : Key) = (Sum.inr "n" : Key)) := by decide +kernel
  have k1 : ¬ ((Sum.inr "g" : Key) = (Sum.inr "name" : Key)) := fun e => h1 e.symm
  have k2 : ¬ ((Sum.inr "d" : Key) = (Sum.inr "name" : Key)) := fun e => h2 e.symm
  have k3 : ¬ ((Sum.inr "n" : Key) = (Sum.inr "name" : Key)) := fun e => h3 e.symm
  have k4 : ¬ ((Sum.inr "d" : Key) = (Sum.inr "g" : Key)) := fun e => h4 e.symm
  have k5 : ¬ ((Sum.inr "n" : Key) = (Sum.inr "g" : Key)) := fun e => h5 e.symm
  have k6 : ¬ ((Sum.inr "n" : Key) = (Sum.inr "d" : Key)) := fun e => h6 e.symm
  refine ⟨fun s => ?_, fun i => ?_, fun v => ?_⟩
  · simp [colB, putK, k1, k2, k3]
  · simp [colB, putK, h1, k4, k5]
  · simp [colB, putK, h2, h4, k6]
theorem colB_merge {n : Str} {g k : Int} {d : V} : mergeK [] [(Sum.inr "name", .str n), (Sum.inr "g", .int g), (Sum.inr "d", d), (Sum.inr "n", .int k)] = colB ⟨n, g, d, k⟩ := by
  have h1 : ¬ ((Sum.inr "name" : Key) = (Sum.inr "g" : Key)) := by decide +kernel
  have h2 : ¬ ((Sum.inr "name" : Key) = (Sum.inr "d" : Key)) := by decide +kernel
  have h3 : ¬ ((Sum.inr "name" : Key) = (Sum.inr "n" : Key)) := by decide +kernel
  have h4 : ¬ ((Sum.inr "g" : Key) = (Sum.inr "d" : Key)) := by decide +kernel
  have h5 : ¬ ((Sum.inr "g" : Key) = (Sum.inr "n" : Key)) := by decide +kernel
  have h6 : ¬ ((Sum.inr "d" : Key) = (Sum.inr "n" : Key)) := by decide +kernel
  simp [mergeK, putK, colB, h1, h2, h3, h4, h5, h6]
inductive BCols (H : Hp) : List Addr → List Col → Prop
  | nil : BCols H [] []
  | cons {a : Addr} {as : List Addr} {c : Col} {cs : List Col} : H a = some (.dK (colB c)) → BCols H as cs → BCols H (a :: as) (c :: cs)
theorem BCols.keepN {H H' : Hp} (s : KeepNL H H') : ∀ {as : List Addr} {cs : List Col}, BCols H as cs → BCols H' as cs
  | _, _, .nil => .nil
  | _, _, .cons h t => .cons (s _ _ (fun _ z => by cases z) h) (t.keepN s)
theorem BCols.keep {H H' : Hp} (s : Same H H') {as : List Addr} {cs : List Col} (h : BCols H as cs) : BCols H' as cs := h.keepN (KeepNL.of s)
theorem BCols.len {H : Hp} : ∀ {as : List Addr} {cs : List Col}, BCols H as cs → as.length = cs.length
  | _, _, .nil => rfl
  | _, _, .cons _ t => congrArg Nat.succ t.len
theorem BCols.at_ {H : Hp} : ∀ {as : List Addr} {cs : List Col} {i : Nat} {a : Addr}, BCols H as cs → as[i]? = some a → ∃ c, cs[i]? = some c ∧ H a = some (.dK (colB c))
  | _, _, _, _, .nil, e => by simp at e
  | _, _, 0, _, .cons h t, e => by
    simp at e
    subst e
    exact ⟨_, rfl, h⟩
  | _, _, i + 1, a, .cons h t, e => by
    obtain ⟨c, h1, h2⟩ := BCols.at_ (i := i) (a := a) t (by simpa using e)
    exact ⟨c, by simpa using h1, h2⟩
theorem BCols.app {H : Hp} : ∀ {as bs : List Addr} {cs ds : List Col}, BCols H as cs → BCols H bs ds → BCols H (as ++ bs) (cs ++ ds)
  | _, _, _, _, .nil, h => h
  | _, _, _, _, .cons h t, q => .cons h (t.app q)
theorem BCols.of_vs {H : Hp} : ∀ {ys : List V} {cs : List Col}, ys.length = cs.length → (∀ (i : Nat) (y : V), ys[i]? = some y → ∃ a c, y = .ref a ∧ cs[i]? = some c ∧ H a = some (.dK (colB c))) → ∃ as, ys = as.map V.ref ∧ BCols H as cs
  | [], [], _, _ => ⟨[], rfl, .nil⟩
  | [], _ :: _, h, _ => by cases h
  | _ :: _, [], h, _ => by cases h
  | y :: ys, c :: cs, h, f => by
    obtain ⟨a, c', rfl, q, ha⟩ := f 0 y rfl
    obtain rfl := Option.some.inj q
    obtain ⟨as, rfl, hh⟩ := BCols.of_vs (ys := ys) (cs := cs) (Nat.succ.inj h) fun i y' h1 => f (i + 1) y' (by simpa using h1)
    exact ⟨a :: as, rfl, .cons ha hh⟩

/-! the history of the second set of laws: a dict that is made anew at each change -/
def bhDict (sh ch : Addr) (n : Int) (wd : Addr) : List (Key × V) := [(Sum.inr "sheets", .ref sh), (Sum.inr "changes", .ref ch), (Sum.inr "given", .int n), (Sum.inr "words", .ref wd)]
theorem bh_vals (sh ch : Addr) (n : Int) (wd : Addr) : valV (bhDict sh ch n wd) (Sum.inr "sheets") = some (.ref sh) ∧ valV (bhDict sh ch n wd) (Sum.inr "changes") = some (.ref ch) ∧ valV (bhDict sh ch n wd) (Sum.inr "given") = some (.int n) ∧ valV (bhDict sh ch n wd) (Sum.inr "words") = some (.ref wd) := by
  have h1 : ¬ ((Sum.inr "sheets" : Key) = (Sum.inr "changes" : Key)) := by decide +kernel
  have h2 : ¬ ((Sum.inr "sheets" : Key) = (Sum.inr "given" : Key)) := by decide +kernel
  have h3 : ¬ ((Sum.inr "sheets" : Key) = (Sum.inr "words" : Key)) := by decide +kernel
  have h4 : ¬ ((Sum.inr "changes" : Key) = (Sum.inr "given" : Key)) := by decide +kernel
  have h5 : ¬ ((Sum.inr "changes" : Key) = (Sum.inr "words" : Key)) := by decide +kernel
  have h6 : ¬ ((Sum.inr "given" : Key) = (Sum.inr "words" : Key)) := by decide +kernel
  unfold bhDict
  refine ⟨valV_pos rfl, ?_, ?_, ?_⟩
  · simp [valV, h1]
  · simp [valV, h2, h4]
  · simp [valV, h3, h5, h6]
section
variable {H : Hp} {h sh ch wd : Addr} {n : Int}
theorem bh_sheets (q : H h = some (.dK (bhDict sh ch n wd))) : DGet H h (.str "sheets") (some (.ref sh)) := by
  rw [← (bh_vals sh ch n wd).1]; exact DGet.k (k := Sum.inr "sheets") q
theorem bh_changes (q : H h = some (.dK (bhDict sh ch n wd))) : DGet H h (.str "changes") (some (.ref ch)) := by
  rw [← (bh_vals sh ch n wd).2.1]; exact DGet.k (k := Sum.inr "changes") q
theorem bh_given (q : H h = some (.dK (bhDict sh ch n wd))) : DGet H h (.str "given") (some (.int n)) := by
  rw [← (bh_vals sh ch n wd).2.2.1]; exact DGet.k (k := Sum.inr "given") q
end
theorem bh_put (sh ch : Addr) (n : Int) (wd : Addr) : (∀ s : Addr, putK (bhDict sh ch n wd) (Sum.inr "sheets") (.ref s) = bhDict s ch n wd) ∧ (∀ s : Addr, putK (bhDict sh ch n wd) (Sum.inr "changes") (.ref s) = bhDict sh s n wd) ∧ (∀ i : Int, putK (bhDict sh ch n wd) (Sum.inr "given") (.int i) = bhDict sh ch i wd) := by
  have h1 : ¬ ((Sum.inr "sheets" : Key) = (Sum.inr "changes" : Key)) := by decide +kernel
  have h2 : ¬ ((Sum.inr "sheets" : Key) = (Sum.inr "given" : Key)) := by decide +kernel
  have h4 : ¬ ((Sum.inr "changes" : Key) = (Sum.inr "given" : Key)) := by decide +kernel
  have k1 : ¬ ((Sum.inr "changes" : Key) = (Sum.inr "sheets" : Key)) := fun e => h1 e.symm
  have k2 : ¬ ((Sum.inr "given" : Key) = (Sum.inr "sheets" : Key)) := fun e => h2 e.symm
  have k3 : ¬ ((Sum.inr "words" : Key) = (Sum.inr "sheets" : Key)) := by decide +kernel
  have k4 : ¬ ((Sum.inr "given" : Key) = (Sum.inr "changes" : Key)) := fun e => h4 e.symm
  have k5 : ¬ ((Sum.inr "words" : Key) = (Sum.inr "changes" : Key)) := by decide +kernel
  have k6 : ¬ ((Sum.inr "words" : Key) = (Sum.inr "given" : Key)) := by decide +kernel
  refine ⟨fun s => ?_, fun s => ?_, fun i => ?_⟩
  · simp [bhDict, putK, k1, k2, k3]
  · simp [bhDict, putK, h1, k4, k5]
  · simp [bhDict, putK, h2, h4, k6]
theorem bh_merge {sh ch : Addr} {n : Int} {wd : Addr} : mergeK [] [(Sum.inr "sheets", .ref sh), (Sum.inr "changes", .ref ch), (Sum.inr "given", .int n), (Sum.inr "words", .ref wd)] = bhDict sh ch n wd := by
  have h1 : ¬ ((Sum.inr "sheets" : Key) = (Sum.inr "changes" : Key)) := by decide +kernel
  have h2 : ¬ ((Sum.inr "sheets" : Key) = (Sum.inr "given" : Key)) := by decide +kernel
  have h3 : ¬ ((Sum.inr "sheets" : Key) = (Sum.inr "words" : Key)) := by decide +kernel
  have h4 : ¬ ((Sum.inr "changes" : Key) = (Sum.inr "given" : Key)) := by decide +kernel
  have h5 : ¬ ((Sum.inr "changes" : Key) = (Sum.inr "words" : Key)) := by decide +kernel
  have h6 : ¬ ((Sum.inr "given" : Key) = (Sum.inr "words" : Key)) := by decide +kernel
  simp [mergeK, putK, bhDict, h1, h2, h3, h4, h5, h6]
/-- the sheets, by their places -/
def BSh (H : Hp) (es : List Addr) (eds : List (List Col)) : Prop := es.length = eds.length ∧ ∀ (i : Nat) (e : Addr) (cs : List Col), es[i]? = some e → eds[i]? = some cs → ∃ as : List Addr, H e = some (.lst (as.map V.ref)) ∧ BCols H as cs
def BhAt (K : PySem.W.Frag) (H : Hp) (h : Addr) (cs : List Col) (chs : List Ch) (ws : List Str) : Prop := ∃ (sh ch wd : Addr) (es ts : List Addr), H h = some (.dK (bhDict sh ch (atC cs chs).2 wd)) ∧ H sh = some (.lst (es.map V.ref)) ∧ BSh H es (edsTo cs chs (chs.length + 1)) ∧ H ch = some (.lst (ts.map V.ref)) ∧ Chs K H ts chs ∧ H wd = some (.lst (ws.map V.str))
theorem BSh.keep {H H' : Hp} {es : List Addr} {eds : List (List Col)} (s : Same H H') (q : BSh H es eds) : BSh H' es eds := ⟨q.1, fun i e cs h1 h2 => by
  obtain ⟨as, h3, h4⟩ := q.2 i e cs h1 h2
  exact ⟨as, s _ _ h3, h4.keep s⟩⟩
theorem BhAt.keep {K : PySem.W.Frag} {H H' : Hp} {h : Addr} {cs : List Col} {chs : List Ch} {ws : List Str} (s : Same H H') (q : BhAt K H h cs chs ws) : BhAt K H' h cs chs ws := by
  obtain ⟨sh, ch, wd, es, ts, h1, h2, h3, h4, h5, h6⟩ := q
  exact ⟨sh, ch, wd, es, ts, s _ _ h1, s _ _ h2, h3.keep s, s _ _ h4, h5.keep s, s _ _ h6⟩
theorem strs_no {ws : List Str} {a b : Int} : ¬ ws.map V.str = [.int a, .int b] := fun e => by
  cases ws with
  | nil => cases e
  | cons x xs => cases (List.cons.inj e).1
theorem BhAt.but {K : PySem.W.Frag} {H H' : Hp} {h p : Addr} {cs : List Col} {chs : List Ch} {ws : List Str} {y0 y1 : Int} (q : BhAt K H h cs chs ws) (hp : H p = some (.lst [.int y0, .int y1])) (bt : But p H H') : BhAt K H' h cs chs ws := by
  obtain ⟨sh, ch, wd, es, ts, h1, h2, h3, h4, h5, h6⟩ := q
  have kn := KeepNL.ofBut hp bt
  have no : ∀ {a : Addr} {as : List Addr}, H a = some (.lst (as.map V.ref)) → H' a = some (.lst (as.map V.ref)) := fun {a as} e => bt _ _ (fun z => by
    rw [z, hp] at e
    exact refs_no (HO.lst.inj (Option.some.inj e)).symm) e
  refine ⟨sh, ch, wd, es, ts, kn _ _ (fun _ z => by cases z) h1, no h2, ⟨h3.1, fun i e c k1 k2 => ?_⟩, no h4, h5.keepNL kn, bt _ _ (fun z => ?_) h6⟩
  · obtain ⟨as, k3, k4⟩ := h3.2 i e c k1 k2
    exact ⟨as, no k3, k4.keepN kn⟩
  · rw [z, hp] at h6
    exact strs_no (HO.lst.inj (Option.some.inj h6)).symm
/-- a sheet, looked up -/
theorem BhAt.sheet {K : PySem.W.Frag} {H : Hp} {h : Addr} {cs : List Col} {chs : List Ch} {ws : List Str} (q : BhAt K H h cs chs ws) {m : Nat} (hm : m ≤ chs.length) : ∃ (sh : Addr) (es : List Addr) (e : Addr) (as : List Addr), DGet H h (.str "sheets") (some (.ref sh)) ∧ H sh = some (.lst (es.map V.ref)) ∧ es.length = chs.length + 1 ∧
    es[m]? = some e ∧ H e = some (.lst (as.map V.ref)) ∧ BCols H as (atC cs (chs.take m)).1 := by
  obtain ⟨sh, ch, wd, es, ts, h1, h2, h3, h4, h5, h6⟩ := q
  have hl : es.length = chs.length + 1 := by rw [h3.1, edsTo_len]
  have hem : es[m]? = some (es[m]'(by omega)) := List.getElem?_eq_getElem (by omega)
  obtain ⟨as, hea, hec⟩ := h3.2 m _ _ hem (edsTo_get (by omega))
  exact ⟨sh, es, _, as, bh_sheets h1, h2, hl, hem, hea, hec⟩
/-- the last of a list, by -1 -/
theorem at_last {as : List Addr} {n : Nat} {e : Addr} (hl : as.length = n + 1) (h : as[n]? = some e) : atI (as.map V.ref) (-1) = some (.ref e) := by
  unfold atI ixN
  rw [if_neg (by omega), if_pos (by rw [List.length_map]; omega), List.length_map, show ((-1 : Int) + (as.length : Nat)).toNat = n by omega]
  show (as.map V.ref)[n]? = _
  rw [List.getElem?_map, h]
  rfl
/-- a sheet, and the history's own dict -/
theorem BhAt.sheetR {K : PySem.W.Frag} {H : Hp} {h : Addr} {cs : List Col} {chs : List Ch} {ws : List Str} (q : BhAt K H h cs chs ws) {m : Nat} (hm : m ≤ chs.length) : ∃ (sh ca wd : Addr) (n : Int) (es : List Addr) (e : Addr) (as : List Addr), H h = some (.dK (bhDict sh ca n wd)) ∧ H sh = some (.lst (es.map V.ref)) ∧ es.length = chs.length + 1 ∧
    es[m]? = some e ∧ H e = some (.lst (as.map V.ref)) ∧ BCols H as (atC cs (chs.take m)).1 := by
  obtain ⟨sh, ch, wd, es, ts, h1, h2, h3, h4, h5, h6⟩ := q
  have hl : es.length = chs.length + 1 := by rw [h3.1, edsTo_len]
  have hem : es[m]? = some (es[m]'(by omega)) := List.getElem?_eq_getElem (by omega)
  obtain ⟨as, hea, hec⟩ := h3.2 m _ _ hem (edsTo_get (by omega))
  exact ⟨sh, ch, wd, _, es, _, as, h1, h2, hl, hem, hea, hec⟩
/-- a change, looked up -/
theorem BhAt.change {K : PySem.W.Frag} {H : Hp} {h : Addr} {cs : List Col} {chs : List Ch} {ws : List Str} (q : BhAt K H h cs chs ws) {m : Nat} {ch : Ch} (hm : chs[m]? = some ch) : ∃ (ca : Addr) (ts : List Addr) (t : Addr), DGet H h (.str "changes") (some (.ref ca)) ∧ H ca = some (.lst (ts.map V.ref)) ∧ ts.length = chs.length ∧ ts[m]? = some t ∧ ChAt K H t ch := by
  obtain ⟨sh, ca, wd, es, ts, h1, h2, h3, h4, h5, h6⟩ := q
  have hl : ts.length = chs.length := h5.len
  have hml := (List.getElem?_eq_some_iff.mp hm).1
  have ht : ts[m]? = some (ts[m]'(by omega)) := List.getElem?_eq_getElem (by omega)
  obtain ⟨c, e1, e2⟩ := h5.at_ ht
  obtain rfl := Option.some.inj (hm.symm.trans e1)
  exact ⟨ca, ts, _, bh_changes h1, h4, hl, ht, e2⟩

/-! history.then(change), of a change that can be done -/
def sp_Hist_then (K : PySem.W.Frag) : Sp := fun vs H Q _ => ∃ (h t : Addr) (cs : List Col) (chs : List Ch) (ch : Ch), vs = [.ref h, .ref t] ∧ HistAt K H h cs chs ∧ HistOk cs chs ∧ ChAt K H t ch ∧ ch.fits = true ∧ hindV (colsE cs chs chs.length) ch = .non ∧ chs.length < 40 ∧
  ∀ (h' : Addr) (H' : Hp), H h' = none → Same H H' → HistN K H H' h' cs (chs ++ [ch]) → Q (.ref h') H'
theorem HistOk.app {cs : List Col} {chs : List Ch} {ch : Ch} (o : HistOk cs chs) (hf : ch.fits = true) (hz : hindV (colsE cs chs chs.length) ch = .non) (h40 : chs.length < 40) : HistOk cs (chs ++ [ch]) := by
  have e : colsE cs chs chs.length = (atC cs chs).1 := by
    show (atC cs (chs.take chs.length)).1 = _
    rw [List.take_length]
  rw [e] at hz
  refine ⟨o.pl, o.g, o.f.app hf hz, ?_⟩
  rw [List.length_append]
  exact h40
theorem ok_Hist_then (T : Tx K mg) : ∃ fd, FnOk P w K mg base CX0 13 (He.ma K (He.ga K "History") "then") fd ["self", "change"] (sp_Hist_then K) ∧ Binds K fd ["self", "change"] [] := by
  have C1 := (ok_why_not (P := P) (w := w) (base := base) T).up (show 6 ≤ 12 by decide)
  obtain ⟨fdI, GI, FI⟩ := ok_Hist_init (P := P) (w := w) (base := base) T
  have bI : Binds K fdI ["self", "columns", "changes"] [] := by
    have h := FI.binds1 (ps := ["self", "columns", "changes"]) 3 1 (by intro z; cases z) rfl (fun TT kV doc pm an cdv ct us its h1 h2 => ?_)
    · obtain ⟨ds, v, b⟩ := h
      cases ds with
      | nil => exact b
      | cons _ _ => cases v
    · match us, h1, its, h2 with
      | [u0, u1, u2], _, [i0], _ => exact ⟨_, rfl, rfl⟩
  refine mkMeth (fd_History_then T) sc_History_then (fun _ _ _ _ _ _ us hl => match us, hl with | [_, _], _ => rfl) (fun vs H Q E h => ?_) (fun cdv A outer s H vs Q E hr h => ?_)
  · obtain ⟨h, t, cs, chs, ch, rfl, _⟩ := h
    rfl
  obtain ⟨h, t, cs, chs, ch, rfl, hq, o, ht, hf, hz, h40, k⟩ := h
  have nd := sc_History_then.nd
  have few := o.few
  obtain ⟨dx, e, c, b, d, es, ts, hh, he, hE, hc, hC, hb, hd⟩ := id hq
  have hel : es.length = chs.length + 1 := by rw [hE.len, edsTo_len]
  have hi0 : es[0]? = some (es[0]'(by omega)) := List.getElem?_eq_getElem (by omega)
  generalize es[0]'(by omega) = e0 at hi0
  obtain ⟨cs1, as1, hcs1, hea, hc1⟩ := hE.at_ hi0
  rw [edsTo_get (by omega)] at hcs1
  obtain rfl : cs = cs1 := Option.some.inj hcs1
  have hiL : es[chs.length]? = some (es[chs.length]'(by omega)) := List.getElem?_eq_getElem (by omega)
  generalize hgL : es[chs.length]'(by omega) = eL at hiL
  obtain ⟨cs2, as2, hcs2, hea2, hc2⟩ := hE.at_ hiL
  rw [edsTo_get (by omega)] at hcs2
  have hcs2 : some (colsE cs chs chs.length) = some cs2 := hcs2
  obtain rfl := Option.some.inj hcs2
  have g := o.f.good o.g chs.length (Nat.le_refl _)
  have hdv : ∀ e ∈ colsE cs chs chs.length, valOk e.dflt = true := fun e he => in_valOk (g.ok e he).1.df
  have hl := hC.len
  refine ⟨_, (pss_cons (ps_set (i := 2) nd rfl (Or.inl rfl) (pcall C1 hr (pa_cons (pe_ix ix_list (pe_fld (pv 0) rfl) (pe_un un_neg pe_int) (fun _ _ => rfl)) (pa_cons (pv 1) pa_nil))))
        (pss_cons (ps_if (pt_cmpR op_notN (pv 2) pe_non (nomark _)) (pss_one ps_never) pss_nil)
        (pss_one (ps_ret (pe_make (mk_History T) GI hr (by rfl) (mg_History T) bI .nil pass0 (pa_cons (pe_ix ix_list (pe_fld (pv 0) rfl) pe_int (fun _ _ => rfl)) (pa_cons (pe_op op_cat (pe_fld (pv 0) rfl) (pe_lst (pa_cons (pv 1) pa_nil))) pa_nil))))))), ?_⟩
  have aL : atI (es.map V.ref) (-1) = some (.ref eL) := at_last hel hiL
  refine q_asgX ⟨_, rfl, h, _, dx, _, _, rfl, hh, cl_History T, na_History__editions T, histFs_editions, 1, rfl, e, _, -1, _, rfl, rfl, sqL_of he, aL, _, rfl, eL, t, as2, _, ch, rfl, .inl (sqL_of hea2), hc2, hdv, ht, hf, fun H1 s1 => ?_⟩
  dsimp only
  refine ⟨_, rfl, rfl, _, rfl, ?_⟩
  rw [hz]
  refine iteNS rfl (nxt ?_)
  dsimp only
  refine ⟨_, rfl, h, _, dx, _, _, rfl, s1 _ _ hh, cl_History T, na_History__editions T, histFs_editions, e, _, 0, _, rfl, rfl, sqL_of (s1 _ _ he), lref_at (j := 0) hi0, _, rfl, h, _, dx, _, _, rfl, s1 _ _ hh, cl_History T, na_History__changes T, histFs_changes, _, rfl, by show 1 ≤ sizeLine; decide, fun l0 nl0 => ?_⟩
  have s2 : Same H1 (upd H1 l0 (.lst [.ref t])) := same_new nl0
  have hl0 : upd H1 l0 (.lst [.ref t]) l0 = some (.lst [.ref t]) := upd_same
  generalize upd H1 l0 (.lst [.ref t]) = H2 at s2 hl0 ⊢
  have s02 := s1.trans s2
  have hsl : sizeLine = 16777216 := by decide
  refine ⟨c, l0, _, _, rfl, rfl, s02 _ _ hc, hl0, ?_, fun l nl => ?_⟩
  · rw [List.length_map, hl, hsl]
    show chs.length + 1 ≤ _
    omega
  have e3 : (ts.map V.ref ++ [.ref t]) = (ts ++ [t]).map V.ref := by rw [List.map_append]; rfl
  rw [e3]
  have s3 : Same H2 (upd H2 l (.lst ((ts ++ [t]).map V.ref))) := same_new nl
  have hl3 : upd H2 l (.lst ((ts ++ [t]).map V.ref)) l = some (.lst ((ts ++ [t]).map V.ref)) := upd_same
  generalize upd H2 l (.lst ((ts ++ [t]).map V.ref)) = H3 at s3 hl3 ⊢
  have s03 := s02.trans s3
  intro x dx' nx ndx ne
  have s4 : Same H3 (upd (upd H3 dx' (.own x)) x (.ins (He.ga K "History") dx' [])) := fun b' o' e' => by
    rw [upd_ne (ne_of_none e' nx), upd_ne (ne_of_none e' ndx)]
    exact e'
  have s04 := s03.trans s4
  have o2 := o.app hf hz h40
  refine ⟨x, dx', e0, l, as1, ts ++ [t], cs, chs ++ [ch], rfl, upd_same, s04 _ _ hea, hc1.keep s04, s4 _ _ hl3, (hC.keep s04).app (.cons (ht.keep s04) .nil), fun c' hc' => (o.g.ok c' hc').1, by rw [numb_placed o.pl]; exact o2, fun H' hA kp => ⟨rfl, ?_⟩⟩
  rw [numb_placed o.pl] at hA
  obtain ⟨dx2, e', c', b', d', es', ts', hA, hb', hd'⟩ := hA
  refine k x H' (s03.free nx) (fun b' o' e' => ?_) ⟨dx2, e', c', b', d', es', ts', hA, s04.free hb', s04.free hd'⟩
  exact kp b' o' (ne_of_none (s03 _ _ e') nx) (s04 _ _ e')
/-! what is behind an edition -/
theorem cutV_from {xs : List V} {m : Nat} (h : m ≤ xs.length) : cutV xs (some (m : Nat)) none = xs.drop m := by
  have e : HT.sIx xs.length 0 (some ((m : Nat) : Int)) = m := by
    unfold HT.sIx
    simp
    split <;> omega
  unfold cutV
  rw [e]
  have e2 : HT.sIx xs.length xs.length none = xs.length := rfl
  rw [e2]
  exact List.take_of_length_le (by rw [List.length_drop]; exact Nat.le_refl _)
theorem Chs.drop {K : PySem.W.Frag} {H : Hp} : ∀ {as : List Addr} {cs : List Ch} (m : Nat), Chs K H as cs → Chs K H (as.drop m) (cs.drop m)
  | _, _, 0, h => h
  | _, _, _ + 1, .nil => .nil
  | _, _, m + 1, .cons _ t => t.drop m

/-! history.behind(edition) -/
def sp_Hist_behind (K : PySem.W.Frag) : Sp := fun vs H Q _ => ∃ (h : Addr) (cs : List Col) (chs : List Ch) (m : Nat), vs = [.ref h, .int (m : Nat)] ∧ HistAt K H h cs chs ∧ chs.length ≤ 1000 ∧ m ≤ chs.length ∧
  ∀ (l : Addr) (ts : List Addr) (H' : Hp), H l = none → Same H H' → H' l = some (.lst (ts.map V.ref)) → Chs K H' ts (chs.drop m) → Q (.ref l) H'
theorem ok_Hist_behind (T : Tx K mg) : ∃ fd, FnOk P w K mg base CX0 4 (He.ma K (He.ga K "History") "behind") fd ["self", "edition"] (sp_Hist_behind K) ∧ Binds K fd ["self", "edition"] [] := by
  have C1 := ok_is_edition (P := P) (w := w) (base := base) T
  refine mkMeth (fd_History_behind T) sc_History_behind (fun _ _ _ _ _ _ us hl => match us, hl with | [_, _], _ => rfl) (fun vs H Q E h => ?_) (fun cdv A outer s H vs Q E hr h => ?_)
  · obtain ⟨h, cs, chs, m, rfl, _⟩ := h
    rfl
  obtain ⟨h, cs, chs, m, rfl, hq, few, hm, k⟩ := h
  obtain ⟨dx, e, c, b, d, es, ts, hh, he, hE, hc, hC, hb, hd⟩ := id hq
  refine ⟨_, (pss_cons (ps_if (pt_not (pt_val (pcall C1 hr (pa_cons (pv 0) (pa_cons (pv 1) pa_nil))))) (pss_one ps_never) pss_nil)
        (pss_one (ps_ret (pe_slice sl_list (pe_fld (pv 0) rfl) (po_some (pv 1)) po_none)))), ?_⟩
  refine ⟨_, rfl, _, rfl, h, cs, chs, _, _, rfl, hq, few, .base (.int _), _, rfl, ?_⟩
  rw [isEd_nat' hm]
  refine iteF (nxt ⟨_, rfl, h, _, dx, _, _, rfl, hh, cl_History T, na_History__changes T, histFs_changes, _, rfl, _, rfl, c, _, rfl, sqL_of hc, fun l nl => ?_⟩)
  have hl := hC.len
  rw [cutV_from (by rw [List.length_map]; omega), ← List.map_drop]
  exact k l (ts.drop m) _ nl (same_new nl) upd_same ((hC.drop m).keep (same_new nl))
-- needs: +ROWA +BUTP +HISP History.__init__
/-! rows as a Plain has them; what stands in a Plain -/
/-- a dict with a value of each column under its name, in any order -/
def RowM (cs : List Col) (kvs : List (Key × V)) : Prop := kvs.length = cs.length ∧ ∀ c ∈ cs, ∃ v, valV kvs (Sum.inr c.name) = some v ∧ isIn c.top v = true
def rowOf (cs : List Col) (kvs : List (Key × V)) : List (Key × V) := cs.map fun c => (Sum.inr c.name, (valV kvs (Sum.inr c.name)).getD .non)
theorem RowD.m {cs : List Col} {kvs : List (Key × V)} (r : RowD cs kvs) (nd : (cs.map (·.name)).Nodup) : RowM cs kvs := ⟨r.1, fun c hc => by
  obtain ⟨j, hj⟩ := List.mem_iff_getElem?.mp hc
  obtain ⟨v, h1, h2⟩ := r.2 j c hj
  exact ⟨v, valV_at (by rw [r.keys]; exact nodup_inr nd) h1, h2⟩⟩
theorem rowOf_row {cs : List Col} {kvs : List (Key × V)} (r : RowM cs kvs) : RowD cs (rowOf cs kvs) := by
  refine ⟨by unfold rowOf; rw [List.length_map], fun j c hj => ?_⟩
  obtain ⟨v, h1, h2⟩ := r.2 c (List.mem_of_getElem? hj)
  refine ⟨v, ?_, h2⟩
  unfold rowOf
  rw [List.getElem?_map, hj, Option.map_some, h1]
  rfl
theorem rowOf_self {cs : List Col} {kvs : List (Key × V)} (r : RowD cs kvs) (nd : (cs.map (·.name)).Nodup) : rowOf cs kvs = kvs := by
  refine List.ext_getElem? fun j => ?_
  unfold rowOf
  rw [List.getElem?_map]
  cases hj : cs[j]? with
  | none =>
    rw [List.getElem?_eq_none (by have := List.getElem?_eq_none_iff.mp hj; rw [r.1]; exact this)]
    rfl
  | some c =>
    obtain ⟨v, h1, h2⟩ := r.2 j c hj
    have := valV_at (by rw [r.keys]; exact nodup_inr nd) h1
    rw [h1, Option.map_some, this]
    rfl
theorem rowOf_take {cs : List Col} {kvs : List (Key × V)} {j : Nat} {c : Col} {v : V} (nd : (cs.map (·.name)).Nodup) (hj : cs[j]? = some c) (hv : valV kvs (Sum.inr c.name) = some v) : putK (rowOf (cs.take j) kvs) (Sum.inr c.name) v = rowOf (cs.take (j + 1)) kvs := by
  have et : cs.take (j + 1) = cs.take j ++ [c] := by rw [List.take_add_one, hj]; rfl
  have hfresh : (Sum.inr c.name : Key) ∉ (rowOf (cs.take j) kvs).map (·.1) := fun hm => by
    unfold rowOf at hm
    rw [List.map_map] at hm
    obtain ⟨e, h3, h2⟩ := List.mem_map.mp hm
    have h2 : e.name = c.name := Sum.inr.inj h2
    have nd2 : ((cs.take (j + 1)).map (·.name)).Nodup := nd.sublist ((List.take_sublist _ _).map _)
    rw [et, List.map_append, List.nodup_append] at nd2
    exact nd2.2.2 _ (List.mem_map_of_mem h3) _ (List.mem_singleton.mpr rfl) h2
  rw [put_new hfresh, et]
  unfold rowOf
  rw [List.map_append]
  congr 1
  show [(Sum.inr c.name, v)] = [(Sum.inr c.name, (valV kvs (Sum.inr c.name)).getD .non)]
  rw [hv]
  rfl
/-- dicts stand at the addresses -/
def Dicts (H : Hp) (ds : List Addr) (rs : List (List (Key × V))) : Prop := ds.length = rs.length ∧ ∀ (i : Nat) (d : Addr) (r : List (Key × V)), ds[i]? = some d → rs[i]? = some r → H d = some (.dK r)
theorem Dicts.keep {H H' : Hp} {ds : List Addr} {rs : List (List (Key × V))} (s : Same H H') (h : Dicts H ds rs) : Dicts H' ds rs := ⟨h.1, fun i d r h1 h2 => s _ _ (h.2 i d r h1 h2)⟩
theorem Dicts.at_ {H : Hp} {ds : List Addr} {rs : List (List (Key × V))} {i : Nat} {d : Addr} (h : Dicts H ds rs) (hd : ds[i]? = some d) : ∃ r, rs[i]? = some r ∧ H d = some (.dK r) := by
  have hi := (List.getElem?_eq_some_iff.mp hd).1
  have hr := List.getElem?_eq_getElem (l := rs) (i := i) (by rw [← h.1]; exact hi)
  exact ⟨_, hr, h.2 i d _ hd hr⟩
def plainFs (h r : Addr) : List (Str × V) := [("history", .ref h), ("_rows", .ref r)]
theorem plain_put2 (h r : Addr) : putF "_rows" (V.ref r) [("history", V.ref h)] = plainFs h r := by
  have h1 : ¬ (("history" : Str) = "_rows") := by decide +kernel
  simp only [putF, if_neg h1]
  rfl
theorem plainFs_history {h r : Addr} : (plainFs h r).lookup ("history" : Str) = some (.ref h) := by
  unfold plainFs
  simp [List.lookup]
theorem plainFs_rows {h r : Addr} : (plainFs h r).lookup ("_rows" : Str) = some (.ref r) := by
  have h1 : (("_rows" : Str) == "history") = false := by decide +kernel
  unfold plainFs
  simp [List.lookup, h1]
theorem plainFs_no {h r : Addr} {m : Str} (h1 : (m == "history") = false) (h2 : (m == "_rows") = false) : (plainFs h r).lookup m = none := by
  unfold plainFs
  simp [List.lookup, h1, h2]
/-- a Plain stands at p: its History at h, its rows -/
def PlainAt (K : PySem.W.Frag) (H : Hp) (p h : Addr) (cs : List Col) (chs : List Ch) (rs : List (List (Key × V))) : Prop := ∃ (dx r : Addr) (ds : List Addr), H p = some (.ins (He.ga K "Plain") dx (plainFs h r)) ∧ HistAt K H h cs chs ∧ H r = some (.lst (ds.map V.ref)) ∧ Dicts H ds rs
theorem PlainAt.keep {K : PySem.W.Frag} {H H' : Hp} {p h : Addr} {cs : List Col} {chs : List Ch} {rs : List (List (Key × V))} (s : Same H H') (q : PlainAt K H p h cs chs rs) : PlainAt K H' p h cs chs rs := by
  obtain ⟨dx, r, ds, h1, h2, h3, h4⟩ := q
  exact ⟨dx, r, ds, s _ _ h1, h2.keep s, s _ _ h3, h4.keep s⟩

/-! the keys of a dict behind a put -/
theorem keys_put (kvs : List (Key × V)) (k : Key) (v : V) : (k ∈ kvs.map (·.1) ∧ (putK kvs k v).map (·.1) = kvs.map (·.1)) ∨ (k ∉ kvs.map (·.1) ∧ (putK kvs k v).map (·.1) = kvs.map (·.1) ++ [k]) := by
  unfold putK
  by_cases h : k ∈ kvs.map (·.1)
  · refine .inl ⟨h, ?_⟩
    rw [if_pos (by
      obtain ⟨kv, h1, h2⟩ := List.mem_map.mp h
      exact List.any_eq_true.mpr ⟨kv, h1, decide_eq_true h2⟩), List.map_map]
    refine List.map_congr_left fun kv _ => ?_
    show (if kv.1 = k then (kv.1, v) else kv).1 = kv.1
    split <;> rfl
  · refine .inr ⟨h, ?_⟩
    rw [if_neg (fun q => by
      obtain ⟨kv, h1, h2⟩ := List.any_eq_true.mp q
      exact h (List.mem_map.mpr ⟨kv, h1, of_decide_eq_true h2⟩)), List.map_append]
    rfl
/-- a dict whose keys are the numbers of S, each once -/
def NumsK (kvs : List (Key × V)) (S : Int → Prop) : Prop := (kvs.map (·.1)).Nodup ∧ ∀ k : Key, k ∈ kvs.map (·.1) ↔ ∃ n : Int, k = Sum.inl n ∧ S n
theorem NumsK.put {kvs : List (Key × V)} {S : Int → Prop} (h : NumsK kvs S) (n : Int) (v : V) : NumsK (putK kvs (Sum.inl n) v) fun j => S j ∨ j = n := by
  unfold NumsK
  rcases keys_put kvs (Sum.inl n) v with ⟨q, e⟩ | ⟨q, e⟩
  · rw [e]
    refine ⟨h.1, fun k => ?_⟩
    rw [h.2]
    constructor
    · rintro ⟨j, rfl, hj⟩
      exact ⟨j, rfl, .inl hj⟩
    · rintro ⟨j, rfl, hj | hj⟩
      · exact ⟨j, rfl, hj⟩
      · obtain ⟨j', e, hj'⟩ := (h.2 _).mp q
        have := Sum.inl.inj e
        exact ⟨j, rfl, by rw [hj, this]; exact hj'⟩
  · rw [e]
    refine ⟨?_, fun k => ?_⟩
    · rw [List.nodup_append]
      refine ⟨h.1, List.pairwise_singleton _ _, fun a ha b hb e => ?_⟩
      rw [List.mem_singleton.mp hb] at e
      rw [e] at ha
      exact q ha
    · rw [List.mem_append, h.2, List.mem_singleton]
      constructor
      · rintro (⟨j, rfl, hj⟩ | rfl)
        · exact ⟨j, rfl, .inl hj⟩
        · exact ⟨n, rfl, .inr rfl⟩
      · rintro ⟨j, rfl, hj | hj⟩
        · exact .inl ⟨j, rfl, hj⟩
        · exact .inr (by rw [hj])
theorem NumsK.imp {kvs : List (Key × V)} {S S' : Int → Prop} (h : NumsK kvs S) (e : ∀ n, S n ↔ S' n) : NumsK kvs S' := ⟨h.1, fun k => by
  rw [h.2]
  exact ⟨fun ⟨n, a, b⟩ => ⟨n, a, (e n).mp b⟩, fun ⟨n, a, b⟩ => ⟨n, a, (e n).mpr b⟩⟩⟩
theorem NumsK.len {kvs : List (Key × V)} {S : Int → Prop} {N : Nat} (h : NumsK kvs S) (e : ∀ n, S n ↔ 0 ≤ n ∧ n < (N : Int)) : kvs.length = N := by
  have p : (kvs.map (·.1)).Perm ((List.range N).map fun j : Nat => (Sum.inl (j : Int) : Key)) := by
    refine (List.perm_ext_iff_of_nodup h.1 ?_).mpr fun k => ?_
    · unfold List.Nodup
      rw [List.pairwise_map]
      exact List.Pairwise.imp (fun {a b} q z => q (by have := Sum.inl.inj z; omega)) List.nodup_range
    · rw [h.2, List.mem_map]
      constructor
      · rintro ⟨n, rfl, hn⟩
        obtain ⟨a, b⟩ := (e n).mp hn
        exact ⟨n.toNat, List.mem_range.mpr (by omega), by rw [show ((n.toNat : Nat) : Int) = n by omega]⟩
      · rintro ⟨j, hj, rfl⟩
        have := List.mem_range.mp hj
        exact ⟨(j : Int), rfl, (e _).mpr ⟨by omega, by omega⟩⟩
  have := p.length_eq
  rw [List.length_map, List.length_map, List.length_range] at this
  exact this
/-- len(d) -/
theorem call_lenK {X : Cx} : CallR X (.builtin "len") (fun xs H Q => ∃ (a : Addr) (kvs : List (Key × V)), xs = [V.ref a] ∧ Rd H a (.dK kvs) ∧ Q (.int kvs.length) H) := by
  intro pins s σ H xs us Q I r h
  obtain ⟨a, kvs, rfl, ha, q⟩ := h
  obtain ⟨u, rfl, ru⟩ := vals1 r
  cases ru
  exact d_len I ha fun t s' I' => ⟨.int kvs.length, H, I', ⟨_, rfl⟩, q⟩

/-! is_row, of a row -/
def sp_is_row (K : PySem.W.Frag) : Sp := fun vs H Q _ => ∃ (l d : Addr) (as : List Addr) (cs : List Col) (kvs : List (Key × V)), vs = [.ref l, .ref d] ∧ H l = some (.lst (as.map V.ref)) ∧ Cols K H as cs ∧ as.length ≤ 1000 ∧ H d = some (.dK kvs) ∧ RowM cs kvs ∧ ∀ H', Same H H' → Q (.bl true) H'
theorem ok_is_row (T : Tx K mg) : Callee P w K mg base CX0 5 "is_row" ["columns", "value"] [] (sp_is_row K) := by
  obtain ⟨fdK, FK, bK⟩ := ok_contains (P := P) (w := w) (base := base) T
  have clc := cl_Column T
  refine mkCallee (fd_is_row T) (mg_is_row T) sc_is_row (fun _ _ _ _ _ _ us hl => match us, hl with | [_, _], _ => rfl) (fun vs H Q E h => ?_) (fun cdv A outer s H vs Q E hr h => ?_)
  · obtain ⟨l, d, as, cs, kvs, rfl, _⟩ := h
    rfl
  · obtain ⟨l, d, as, cs, kvs, rfl, hl, hc, hlen, hd, hrow, k⟩ := h
    have nd := sc_is_row.nd
    have hu := hu_of hr
    have hr4 : Room 4 _ := hr.mono (by decide)
    refine ⟨_, (pss_cons (ps_if (PW.pt (pw_or (pt_not (pt_val (pe_callB call_isi (by rfl) (fr_isinstance T) (by decide +kernel) (pa_cons (pv 1) (pa_cons (pe_bltn (v := .ty "dict") (by rfl) (fr_dict T) (by decide +kernel) rfl) pa_nil))))) (pw_or1 (pt_cmpR op_ne (pe_callB call_lenK (by rfl) (fr_len T) PySem.boot_len (pa_cons (pv 1) pa_nil)) (pe_callB call_len (by rfl) (fr_len T) PySem.boot_len (pa_cons (pv 0) pa_nil)) (nomark _))))) (pss_one (ps_ret pe_bl)) pss_nil)
        (pss_one (ps_ret (pe_callB (cr_all rfl) (by rfl) (fr_all T) (by decide +kernel) (pa_cons (pe_lc (own := [("column", 2)]) (g := gName 2) (tt := tYes) (te := tAndV (tDIn (tFld K (tVar 2) "name") (tVar 1)) (tOp (rInOwn (He.ga K "Column") (sp_contains K) E0) (tDGet (tVar 1) (tFld K (tVar 2) "name")) (tVar 2))) rfl nd (pi_list (pv 0)) (blkOk_by (N := ["columns", "value", "column"]) (sc := defScope s_is_row) (by decide +kernel))
          (fun _ _ _ _ _ => pg_name (i := 2) nd rfl (Or.inl rfl)) (fun _ _ _ _ _ => pts_nil) (fun _ _ _ _ _ => pe_and (pe_cmp (pc_din hu (pe_fld (pv 2) rfl) (pv 1)) (by rfl)) (pe_one (pe_cmpR (op_inOwn FK (me_Column___contains__ T) hr4 bK pass0) (pe_dget hu (pv 1) (pe_fld (pv 2) rfl) (fun _ _ => rfl)) (pv 2) (by rfl))))) pa_nil))))), ?_⟩
    refine ⟨_, rfl, .ref d, .ty "dict", _, _, true, rfl, .ty "dict", .base (.dK hd), kit_ty (by decide +kernel), _, rfl, iteF ⟨_, rfl, d, kvs, rfl, .inl hd, _, rfl, _, as.length, rfl, .inl ⟨_, sqL_of hl, by rw [List.length_map]⟩, rfl, _, rfl, iteNS (by rw [hrow.1, hc.len]) (nxt ?_)⟩⟩
    dsimp only
    refine pl_r1 ?_
    refine tlc_G (K := K) (xs := as.map V.ref) (fun j y _ => y = .bl true) (fun j y H1 H2 s2 h => h) (fun R h => ⟨_, rfl, h l H (Same.refl _) (sqL_of hl)⟩) (by rw [List.length_map]; omega) (fun _ => rfl) ?_ ?_
    · intro j x hx H4 s4 R hR
      rw [List.getElem?_map] at hx
      cases ha : as[j]? with
      | none =>
        rw [ha] at hx
        cases hx
      | some a =>
        rw [ha] at hx
        obtain rfl := Option.some.inj hx
        obtain ⟨c, hcj, dxc, hat0⟩ := hc.at_ ha
        have hat := s4 _ _ hat0
        obtain ⟨v, hv, hin⟩ := hrow.2 c (List.mem_of_getElem? hcj)
        obtain ⟨ty, hty⟩ := ty_in (K := K) hin
        have hg : DGet H4 d (.str c.name) (some v) := by
          rw [← hv]
          exact DGet.k (k := Sum.inr c.name) (s4 _ _ hd)
        refine ⟨_, rfl, _, _, dxc, _, _, rfl, hat, clc, na_Column_name T, colFs_name, _, rfl, d, _, rfl, hg, _, rfl, iteT ?_⟩
        refine ⟨_, rfl, _, rfl, a, _, dxc, _, _, rfl, hat, clc, na_Column_name T, colFs_name, d, _, rfl, hg, _, rfl, a, dxc, _, rfl, hat, a, c.name, c.top, c.num, c.dflt, _, ty, rfl, ⟨dxc, hat⟩, hty _, _, rfl, ?_⟩
        rw [hin]
        exact hR _ _ (Same.refl _) rfl
    · intro D us H4 nD s4 hD hlen2 hy
      have e : us = (us.map fun _ => true).map V.bl := by
        refine List.ext_getElem? fun j => ?_
        rw [List.getElem?_map, List.getElem?_map]
        cases eu : us[j]? with
        | none => rfl
        | some y =>
          rw [hy j y eu]
          rfl
      rw [e] at hD
      refine ⟨D, us.map fun _ => true, rfl, sqL_of hD, ?_⟩
      have : (us.map fun _ => true).all id = true := by
        rw [List.all_map, List.all_eq_true]
        intro _ _
        rfl
      rw [this]
      exact k H4 s4
/-! changed_row -/
def sp_changed_row (K : PySem.W.Frag) : Sp := fun vs H Q _ => ∃ (l t d : Addr) (as : List Addr) (cs : List Col) (ch : Ch) (kvs : List (Key × V)), vs = [.ref l, .ref t, .ref d] ∧ H l = some (.lst (as.map V.ref)) ∧ Cols K H as cs ∧ ChAt K H t ch ∧ H d = some (.dK kvs) ∧ RowD cs kvs ∧ (cs.map (·.name)).Nodup ∧ cs.length ≤ 6 ∧ ch.fits = true ∧
  (∀ H', Same H H' → rowThen cs ch kvs = none → Q .non H') ∧ ∀ (d' : Addr) (kvs' : List (Key × V)) (H' : Hp), H d' = none → Same H H' → H' d' = some (.dK kvs') → rowThen cs ch kvs = some kvs' → Q (.ref d') H'
theorem ok_changed_row (T : Tx K mg) : Callee P w K mg base CX0 5 "changed_row" ["columns", "change", "row"] [] (sp_changed_row K) := by
  have Ck := (ok_kind_of (P := P) (w := w) (base := base) T).up (show 1 ≤ 4 by decide)
  have Cv := (ok_changed_value (P := P) (w := w) (base := base) T).up (show 2 ≤ 4 by decide)
  have Cm := (ok_is_missing (P := P) (w := w) (base := base) T).up (show 2 ≤ 4 by decide)
  refine mkCallee (fd_changed_row T) (mg_changed_row T) sc_changed_row (fun _ _ _ _ _ _ us hl => match us, hl with | [_, _, _], _ => rfl) (fun vs H Q E h => ?_) (fun cdv A outer s H vs Q E hr h => ?_)
  · obtain ⟨l, t, d, as, cs, ch, kvs, rfl, _⟩ := h
    rfl
  · obtain ⟨l, t, d, as, cs, ch, kvs, rfl, hl, hc, ht, hd, hrow, hnd, h6, hf, kn, ky⟩ := h
    have nd := sc_changed_row.nd
    have hu := hu_of hr
    have cl := cl_Column T
    refine ⟨_, pss_cons (ps_set (i := 3) nd rfl (Or.inl rfl) (pcall Ck hr (pa_cons (pv 1) pa_nil)))
      (pss_cons (ps_set (i := 4) nd rfl (Or.inl rfl) pe_dnewK)
      (pss_cons (ps_for PassesOwn.never rfl (pi_list (pv 0)) (pg_name (i := 5) nd rfl (Or.inl rfl))
        (pss_cons (ps_set (i := 6) nd rfl (Or.inl rfl) (pcall Cv hr (pa_cons (pv 5) (pa_cons (pv 1) (pa_cons (pe_dget hu (pv 2) (pe_fld (pv 5) rfl) (fun _ _ => rfl)) pa_nil)))))
        (pss_cons (ps_if (pt_val (pcall Cm hr (pa_cons (pv 6) pa_nil))) (pss_one (ps_ret pe_non)) pss_nil)
        (pss_one (ps_if (PW.pt (pw_or (pt_cmpR op_ne (pe_fld (pv 5) rfl) (pe_ix ix_tup (pv 1) pe_int (fun _ _ => rfl)) (nomark _)) (pw_or1 (pt_cmpR op_notIn_seq (pv 3) (pe_tup (pa_cons pe_str (pa_cons pe_str pa_nil))) (by rfl))))) (pss_one (ps_dput hu (pv 4) (pe_fld (pv 5) rfl) (pv 6) rfl))
          (pss_one (ps_if (pt_cmpR op_eq (pv 3) pe_str (nomark _)) (pss_one (ps_dput hu (pv 4) (pe_ix ix_tup (pv 1) pe_int (fun _ _ => rfl)) (pv 6) rfl)) pss_nil)))))))
      (pss_cons (ps_if (pt_cmpR op_eq (pv 3) pe_str (nomark _)) (pss_one (ps_dput hu (pv 4) (pe_ix ix_tup (pv 1) pe_int (fun _ _ => rfl)) (pe_ix ix_tup (pv 1) pe_int (fun _ _ => rfl)) rfl)) pss_nil)
      (pss_one (ps_ret (pv 4)))))), ?_⟩
    refine q_asgX ⟨_, rfl, t, ch, rfl, ht, ?_⟩
    refine q_asgX fun q nq => ?_
    have nql : q ≠ l := npool0 hl nq
    have nqd : q ≠ d := npool0 hd nq
    refine ⟨_, rfl, l, rfl, ⟨_, sqL_of (same_new nq _ _ hl)⟩, ?_⟩
    refine for_list (xs := as.map V.ref) (fun i σ H' => ∃ (acc : List (Key × V)) (x5 x6 : Option V), σ = [some (.ref l), some (.ref t), some (.ref d), some (.str ch.kind), some (.ref q), x5, x6] ∧ But q H H' ∧ H' q = some (.dK acc) ∧ acc.length ≤ i ∧
      rowGo ch cs (kvs.map (·.2)) [] = rowGo ch (cs.drop i) ((kvs.map (·.2)).drop i) acc) ⟨[], none, none, rfl, But.of (same_new nq), upd_same, Nat.le_refl _, rfl⟩ (fun i σ H' _ h => ?_) ?_ ?_
    · obtain ⟨_, _, _, _, b, _⟩ := h
      exact sqL_of (b _ _ nql.symm hl)
    · rintro i x σ H' hx ⟨acc, x5, x6, rfl, b, hq, hlen, hgo⟩
      rw [List.getElem?_map] at hx
      cases ha : as[i]? with
      | none =>
        rw [ha] at hx
        cases hx
      | some a =>
        rw [ha] at hx
        obtain rfl := Option.some.inj hx
        have s' : Same H H' := But.same b (Same.refl _) nq
        obtain ⟨c, hci, dx, hat0⟩ := hc.at_ ha
        have hat := s' _ _ hat0
        obtain ⟨v, hv1, hv2⟩ := hrow.2 i c hci
        have hvi : (kvs.map (·.2))[i]? = some v := by rw [List.getElem?_map, hv1]; rfl
        have hvo : valOk v = true := by
          cases v with
          | non => rfl
          | int _ => rfl
          | _ => cases hv2
        have hg : DGet H' d (.str c.name) (some v) := by
          rw [← valV_at (by rw [hrow.keys]; exact nodup_inr hnd) hv1]
          exact DGet.k (k := Sum.inr c.name) (s' _ _ hd)
        have ht' := ht.keep s'
        rw [go_at hci hvi] at hgo
        obtain ⟨ty, hty⟩ := ty_chg (K := K) (n := c.name) (ch := ch) hvo
        refine q_asgX ⟨_, rfl, _, rfl, _, rfl, _, rfl, a, _, dx, _, _, rfl, hat, cl, na_Column_name T, colFs_name, d, v, rfl, hg, a, t, c.name, c.top, c.num, c.dflt, v, ch, rfl, ⟨dx, hat⟩, ht', hvo, ?_⟩
        generalize chgV c.name ch v = w at hgo hty
        refine ⟨_, rfl, w, ty, rfl, hty _, fun _ _ => hty _, fun H2 s2 => ⟨_, rfl, ?_⟩⟩
        have sH2 := s'.trans s2
        cases hm : isMis w with
        | true =>
          rw [hm, if_pos rfl] at hgo
          exact iteT (kn H2 sH2 (by unfold rowThen; rw [hgo]; rfl))
        | false =>
          rw [hm, if_neg (by decide)] at hgo
          have hat2 := s2 _ _ hat
          have ht2 := ht'.keep s2
          have hq2 := s2 _ _ hq
          have b2 := b.trans (But.of s2)
          have hcn : cs.length ≤ 6 := h6
          have hil : i < cs.length := (List.getElem?_eq_some_iff.mp hci).1
          have hsz : acc.length < sizeLine := by
            have e : sizeLine = 16777216 := by decide
            omega
          have fin : ∀ (acc' : List (Key × V)) (H3 : Hp) (x5 x6 : Option V), stepR ch c w acc = acc' → But q H H3 → H3 q = some (.dK acc') → ∃ (acc : List (Key × V)) (y5 y6 : Option V), ([some (V.ref l), some (.ref t), some (.ref d), some (.str ch.kind), some (.ref q), x5, x6] : L2.St) = [some (.ref l), some (.ref t), some (.ref d), some (.str ch.kind), some (.ref q), y5, y6] ∧ But q H H3 ∧ H3 q = some (.dK acc) ∧ acc.length ≤ i + 1 ∧
              rowGo ch cs (kvs.map (·.2)) [] = rowGo ch (cs.drop (i + 1)) ((kvs.map (·.2)).drop (i + 1)) acc := fun acc' H3 x5 x6 e b3 hq3 => by
            refine ⟨acc', x5, x6, rfl, b3, hq3, ?_, by rw [← e]; exact hgo⟩
            have := step_len ch c w acc
            rw [e] at this
            omega
          refine iteF (nxt ⟨_, rfl, a, _, dx, _, _, rfl, hat2, cl, na_Column_name T, colFs_name, _, rfl, t, _, 1, _, rfl, rfl, ht2, ch.at1, rfl, _, rfl, ?_⟩)
          have putOk : ∀ (k : Str) (H3 : Hp), Same H2 H3 → stepR ch c w acc = putK acc (Sum.inr k) w → But q H (upd H3 q (.dK (putK acc (Sum.inr k) w))) ∧ DPut H3 q (.str k) w (upd H3 q (.dK (putK acc (Sum.inr k) w))) := fun k H3 s3 _ => ⟨(b2.trans (But.of s3)).trans But.mut, DPut.k (k := Sum.inr k) (s3 _ _ hq2) hsz⟩
          by_cases hn : c.name = ch.name
          · rw [decide_eq_true (show V.str c.name = V.str ch.name by rw [hn])]
            refine iteF ⟨_, rfl, by show 2 ≤ sizeLine; decide, fun u nu => ⟨u, _, rfl, .inr (sqT_of upd_same), rfl, rfl, _, rfl, ?_⟩⟩
            have s3 := same_new (o := .tup [V.str "drop", .str "rename"]) nu
            have hat3 := s3 _ _ hat2
            have ht3 := ht2.keep s3
            have bq := b2.trans (But.of s3)
            have keep : ∀ e : stepR ch c w acc = putK acc (Sum.inr c.name) w, _ := fun e => putOk c.name _ s3 e
            cases ch with
            | drop n => exact iteF ⟨_, rfl, rfl, _, rfl, iteD (nes (show ("drop" : Str) ≠ "rename" by decide +kernel)) (nxt (fin acc _ _ _ (if_pos hn) bq (s3 _ _ hq2)))⟩
            | rename n m =>
              have e : stepR (.rename n m) c w acc = putK acc (Sum.inr m) w := if_pos hn
              obtain ⟨b3, p3⟩ := putOk m _ s3 e
              exact iteF ⟨_, rfl, rfl, _, rfl, iteDT rfl ⟨_, rfl, _, rfl, _, rfl, t, _, 2, _, rfl, rfl, ht3, rfl, q, _, rfl, p3, fin _ _ _ _ e b3 upd_same⟩⟩
            | add n g dv =>
              obtain ⟨b3, p3⟩ := keep rfl
              exact iteT ⟨_, rfl, _, rfl, _, rfl, a, _, dx, _, _, rfl, hat3, cl, na_Column_name T, colFs_name, q, _, rfl, p3, fin _ _ _ _ rfl b3 upd_same⟩
            | dflt n dv =>
              obtain ⟨b3, p3⟩ := keep rfl
              exact iteT ⟨_, rfl, _, rfl, _, rfl, a, _, dx, _, _, rfl, hat3, cl, na_Column_name T, colFs_name, q, _, rfl, p3, fin _ _ _ _ rfl b3 upd_same⟩
            | great n g way =>
              obtain ⟨b3, p3⟩ := keep rfl
              exact iteT ⟨_, rfl, _, rfl, _, rfl, a, _, dx, _, _, rfl, hat3, cl, na_Column_name T, colFs_name, q, _, rfl, p3, fin _ _ _ _ rfl b3 upd_same⟩
            | fill n j =>
              obtain ⟨b3, p3⟩ := keep rfl
              exact iteT ⟨_, rfl, _, rfl, _, rfl, a, _, dx, _, _, rfl, hat3, cl, na_Column_name T, colFs_name, q, _, rfl, p3, fin _ _ _ _ rfl b3 upd_same⟩
          · rw [decide_eq_false (fun z => hn (V.str.inj z))]
            have e : stepR ch c w acc = putK acc (Sum.inr c.name) w := by
              cases ch with
              | drop n => exact if_neg hn
              | rename n m => exact if_neg hn
              | _ => rfl
            obtain ⟨b3, p3⟩ := putOk c.name H2 (Same.refl _) e
            refine iteT (iteT ⟨_, rfl, _, rfl, _, rfl, a, _, dx, _, _, rfl, hat2, cl, na_Column_name T, colFs_name, q, _, rfl, p3, ?_⟩)
            exact fin _ _ _ _ e b3 upd_same
    · rintro σ H' ⟨acc, x5, x6, rfl, b, hq, hlen, hgo⟩
      have s' : Same H H' := But.same b (Same.refl _) nq
      have ht' := ht.keep s'
      rw [List.length_map, List.drop_of_length_le (by rw [hc.len]; exact Nat.le_refl _)] at hgo
      have hgo2 : rowGo ch cs (kvs.map (·.2)) [] = some acc := by rw [hgo]; rfl
      have hlen2 : acc.length ≤ 6 := by
        have : as.length = cs.length := hc.len
        rw [List.length_map] at hlen
        omega
      have hz6 : acc.length < sizeLine := by
        have e : sizeLine = 16777216 := by decide
        omega
      refine ⟨_, rfl, rfl, _, rfl, ?_⟩
      by_cases hk : ch.kind = "add"
      · cases ch with
        | add n g dv =>
          refine iteDT rfl ⟨_, rfl, t, _, 3, _, rfl, rfl, ht', rfl, _, rfl, _, rfl, t, _, 1, _, rfl, rfl, ht', rfl, q, _, rfl, DPut.k (k := Sum.inr n) hq hz6, ?_⟩
          refine ⟨_, rfl, ky q _ _ nq (But.same (b.trans But.mut) (Same.refl _) nq) upd_same ?_⟩
          unfold rowThen
          rw [hgo2]
          rfl
        | drop _ => exact absurd (show ("drop" : Str) = "add" from hk) (by decide +kernel)
        | rename _ _ => exact absurd (show ("rename" : Str) = "add" from hk) (by decide +kernel)
        | dflt _ _ => exact absurd (show ("default" : Str) = "add" from hk) (by decide +kernel)
        | great _ _ _ => exact absurd (show ("greatest" : Str) = "add" from hk) (by decide +kernel)
        | fill _ _ => exact absurd (show ("fill" : Str) = "add" from hk) (by decide +kernel)
      · refine iteD (nes hk) (nxt ⟨_, rfl, ky q acc H' nq s' hq ?_⟩)
        unfold rowThen
        rw [hgo2]
        cases ch with
        | add _ _ _ => exact absurd rfl hk
        | _ => rfl
/-! a dict comprehension over anything that is walked -/
theorem tyY {σ : L2.St} {H : Hp} {f g : Hp → Prop} (h : f H) : tYes σ H (fun b H3 => if b = true then f H3 else g H3) := h
theorem dc_it {J : It} {n : Nat} {G : Hp → Prop} {Y : Nat → Hp → V → Hp → Prop} (w : Walk J n G Y) {g : TG} {tt : TT} {tk tv : TE} {vs : List Nat} {σ : L2.St} {H1 : Hp} {D : Addr} {Qd : Hp → Prop} (Pv : Nat → Hp → Prop) (h0 : Pv 0 (upd H1 D (.dK []))) (hG : ∀ i H, i ≤ n → Pv i H → G H)
    (hs : ∀ i x H H', i < n → Pv i H → Y i H x H' → g x (wipe σ vs) H' fun σ2 H2 => wipe σ2 vs = wipe σ vs ∧ tt σ2 H2 fun b H3 =>
      if b = true then tk σ2 H3 fun y H4 => tv σ2 H4 fun z H5 => ∃ kvs k, y = kV k ∧ H5 D = some (.dK kvs) ∧ kvs.length < sizeLine ∧ Pv (i + 1) (upd H5 D (.dK (putK kvs k z))) else Pv (i + 1) H3) (hd : ∀ H, Pv n H → Qd H) :
    ∃ W : Nat → Nat → Hp → Prop, (∃ m, W 0 m (upd H1 D (.dK []))) ∧ ∀ i m H, W i m H →
      (J.stop i H ∧ Qd H) ∨ (J.go i H ∧ ∃ Nx : Hp → Prop, (∀ H', Nx H' → ∃ m', m' < m ∧ W (i + 1) m' H') ∧ ∀ x H', J.yld i H x H' → g x (wipe σ vs) H' fun σ2 H2 => wipe σ2 vs = wipe σ vs ∧ tt σ2 H2 fun b H3 =>
        if b = true then tk σ2 H3 fun y H4 => tv σ2 H4 fun z H5 => ∃ kvs k, y = kV k ∧ H5 D = some (.dK kvs) ∧ kvs.length < sizeLine ∧ Nx (upd H5 D (.dK (putK kvs k z))) else Nx H3) := by
  refine ⟨fun i m H => m = n - i ∧ i ≤ n ∧ Pv i H, ⟨n, by simp, Nat.zero_le _, h0⟩, ?_⟩
  rintro i m H ⟨rfl, hi, p⟩
  have q := hG i H hi p
  by_cases hlt : i < n
  · exact .inr ⟨w.goes i H hlt q, Pv (i + 1), fun H' p' => ⟨n - (i + 1), by omega, rfl, hlt, p'⟩, fun x H' y => hs i x H H' hlt p (w.yields i H x H' hlt q y)⟩
  · have e : i = n := by omega
    subst e
    exact .inl ⟨w.stops H q, hd H p⟩
section
variable {X : Cx}
/-- name = {..} on one line, the name a local -/
theorem ps_setDc {i : Nat} {y : Str} {py : Pos} {kx vx tg iter : Expr} {ifs : List Expr} {scope : Scope} {own : List (Str × Nat)} {pos spos : Pos} {wi : TI} {g : TG} {tt : TT} {tk tv : TE} (hc : X.calm = true) (hN : X.N.Nodup) (hy : X.N[i]? = some y) (hyl : X.env.scope.names.lookup y = some .local)
    (hsw : swapsWith (.DictComp kx vx [⟨tg, iter, ifs, 0⟩] scope pos) (some (.Name y py)) spos.line X.env = pure true) (hi : PI X tg iter wi) (ok : BlkOk X.N X.env.scope scope own)
    (hg : ∀ (s : Shared) (H : Hp) (C : Addr) (cl : List (Str × Addr)) (fp : List Addr), PG (X.blk s H scope (compEnvC scope cl C X.env) fp) tg g) (ht : ∀ (s : Shared) (H : Hp) (C : Addr) (cl : List (Str × Addr)) (fp : List Addr), PTs (X.blk s H scope (compEnvC scope cl C X.env) fp) ifs tt)
    (hk : ∀ (s : Shared) (H : Hp) (C : Addr) (cl : List (Str × Addr)) (fp : List Addr), PE (X.blk s H scope (compEnvC scope cl C X.env) fp) kx tk)
    (he : ∀ (s : Shared) (H : Hp) (C : Addr) (cl : List (Str × Addr)) (fp : List Addr), PE (X.blk s H scope (compEnvC scope cl C X.env) fp) vx tv) (hs : ∀ x, foldedSetIterable iter X.env x = pure x := by intro _; rfl) :
    PS X (.Assign [.Name y py] (.DictComp kx vx [⟨tg, iter, ifs, 0⟩] scope pos) spos) (tAsg (tDc wi g tt tk tv (own.map (·.2))) (gName i)) := by
  refine ⟨fun pins s σ H D I h => ?_⟩
  rw [exec_Assign_Name_used _ _ _ _ hsw]
  refine wpAny_bind (wpAny_standAt (wpAny_bind ?_))
  show wpAny _ X.A (do let _ ← comprehension (.DictComp kx vx [⟨tg, iter, ifs, 0⟩] scope pos) scope X.env (firstIterPos [⟨tg, iter, ifs, 0⟩] pos) newDict false (eval iter X.env) (some (assign (.Name y py) X.env))) _ _ s
  have h : tDc wi g tt tk tv (own.map (·.2)) σ H (fun x H1 => gName i x σ H1 D.nx) := h
  refine wpAny_bind (thn (dc_core (Qf := fun _ s' => SP X pins D .next s') hc hN I hi ok hg ht hk he hs h fun L C s' m H' I' q hn f => ?_) fun _ s' hq => wpAny_pure (wpAny_pure hq))
  show wpAny _ _ (assign (.Name y py) X.env (.ref L)) _ _ _
  refine wpAny_assign_Name (store_ok2 (v := V.ref L) I' hN hy (.inl hyl) rfl (fun s2 I2 ⟨a, sb, ha⟩ => ?_) (.inr hyl))
  obtain ⟨f0, f1, f2, f3, f4, f5⟩ := f
  have haC : C ≠ a := by
    rcases ha with z | z
    · rw [z]; exact f1
    · exact fun e => f4 y a z e.symm
  refine ⟨m, hn.sameBut sb haC, fun h3 sb3 => ?_⟩
  exact ⟨_, H', I2.turned (t' := s2.toks) (fun b o hb e => (sb3.2 b hb).trans e) f0 f1 f3 f4 f5, q⟩
theorem sw_trueD {kx vx : Expr} {gs : List Comprehension} {scope : Scope} {pos py : Pos} {y : Str} {l : Nat} {env : Env} (hk : env.scope.kind = .function) (hy : env.scope.names.lookup y = some .local) (hl : (py.line == pos.line) = true)
    (ha : (scope.names.any fun (n, k) => n == y && (k == .local || k == .cell)) = false) : swapsWith (.DictComp kx vx gs scope pos) (some (.Name y py)) l env = pure true := by
  have ky : env.kindOf y = some .local := hy
  have hb : env.blockKind = .function := by unfold Env.blockKind; rw [hk]; rfl
  unfold swapsWith
  simp only [hb, ky, ha, Expr.pos, hl]
  rfl
end

/-! row_in_order, of a row -/
def sp_row_in_order (K : PySem.W.Frag) : Sp := fun vs H Q _ => ∃ (l d : Addr) (as : List Addr) (cs : List Col) (kvs : List (Key × V)), vs = [.ref l, .ref d] ∧ H l = some (.lst (as.map V.ref)) ∧ Cols K H as cs ∧ as.length ≤ 1000 ∧ H d = some (.dK kvs) ∧ RowM cs kvs ∧ (cs.map (·.name)).Nodup ∧ ∀ (d' : Addr) (H' : Hp), H d' = none → Same H H' → H' d' = some (.dK (rowOf cs kvs)) → Q (.ref d') H'
theorem ok_row_in_order (T : Tx K mg) : Callee P w K mg base CX0 1 "row_in_order" ["columns", "row"] [] (sp_row_in_order K) := by
  have clc := cl_Column T
  refine mkCallee (fd_row_in_order T) (mg_row_in_order T) sc_row_in_order (fun _ _ _ _ _ _ us hl => match us, hl with | [_, _], _ => rfl) (fun vs H Q E h => ?_) (fun cdv A outer s H vs Q E hr h => ?_)
  · obtain ⟨l, d, as, cs, kvs, rfl, _⟩ := h
    rfl
  · obtain ⟨l, d, as, cs, kvs, rfl, hl, hc, hlen, hd, hrow, hnd, k⟩ := h
    have nd := sc_row_in_order.nd
    have hu := hu_of hr
    have hz : sizeLine = 16777216 := by decide
    have hal := hc.len
    refine ⟨_, (pss_one (ps_ret (pe_dc (own := [("column", 2)]) (g := gName 2) (tt := tYes) (tk := tFld K (tVar 2) "name") (tv := tDGet (tVar 1) (tFld K (tVar 2) "name")) rfl nd (pi_list (pv 0)) (blkOk_by (N := ["columns", "row", "column"]) (sc := defScope s_row_in_order) (by decide +kernel))
          (fun _ _ _ _ _ => pg_name (i := 2) nd rfl (Or.inl rfl)) (fun _ _ _ _ _ => pts_nil) (fun _ _ _ _ _ => pe_fld (pv 2) rfl) (fun _ _ _ _ _ => pe_dget hu (pv 1) (pe_fld (pv 2) rfl) (fun _ _ => rfl))))), ?_⟩
    refine ⟨_, rfl, l, rfl, ⟨_, sqL_of hl⟩, fun D nD => ?_⟩
    refine dc_it (walk_list (xs := as.map V.ref)) (fun j H' => Same H H' ∧ H' D = some (.dK (rowOf (cs.take j) kvs))) ⟨same_new nD, upd_same⟩ (fun j H' _ p => sqL_of (p.1 _ _ hl)) ?_ ?_
    · rintro j x H3 H4 hj ⟨s3, hD⟩ ⟨rfl, hx⟩
      rw [List.getElem?_map] at hx
      cases ha : as[j]? with
      | none =>
        rw [ha] at hx
        cases hx
      | some a =>
        rw [ha] at hx
        obtain rfl := Option.some.inj hx
        obtain ⟨c, hcj, dxc, hat0⟩ := hc.at_ ha
        have hat := s3 _ _ hat0
        obtain ⟨v, hv, hin⟩ := hrow.2 c (List.mem_of_getElem? hcj)
        have hil2 := (List.getElem?_eq_some_iff.mp hcj).1
        have hg : DGet H4 d (.str c.name) (some v) := by
          rw [← hv]
          exact DGet.k (k := Sum.inr c.name) (s3 _ _ hd)
        refine ⟨rfl, ?_⟩
        refine tyY ?_
        refine ⟨_, rfl, _, _, dxc, _, _, rfl, hat, clc, na_Column_name T, colFs_name, _, rfl, _, rfl, _, _, dxc, _, _, rfl, hat, clc, na_Column_name T, colFs_name, d, _, rfl, hg, _, Sum.inr c.name, rfl, hD, ?_, same_mut s3 nD, ?_⟩
        · unfold rowOf
          rw [List.length_map, List.length_take]
          omega
        · rw [upd_same, rowOf_take hnd hcj hv]
    · rintro H3 ⟨s3, hD⟩
      rw [List.length_map, List.take_of_length_le (by rw [hal]; exact Nat.le_refl _)] at hD
      exact k D H3 nD s3 hD
-- needs: +PLN History.__init__ +ROWT +LED
/-! a History while another instance is filled -/
theorem HistAt.up {K : PySem.W.Frag} {H H' : Hp} {p C dx h : Addr} {fs : List (Str × V)} {cs : List Col} {chs : List Ch} (u : Up p H H') (hp : H p = some (.ins C dx fs)) (nf : fs.lookup ("name" : Str) = none) (ne : fs.lookup ("_editions" : Str) = none) (q : HistAt K H h cs chs) : HistAt K H' h cs chs := by
  obtain ⟨dx', e, c, b, d, es, ts, h1, h2, h3, h4, h5, h6, h7⟩ := q
  have nl : ∀ {x : Addr} {zs : List V}, H x = some (.lst zs) → x ≠ p := fun {x zs} e z => by rw [z, hp] at e; cases e
  refine ⟨dx', e, c, b, d, es, ts, u _ _ (fun z => ?_) h1, u _ _ (nl h2) h2, h3.up u hp nf, u _ _ (nl h4) h4, h5.up u hp, u _ _ (nl h6) h6, u _ _ (nl h7) h7⟩
  rw [z, hp] at h1
  have e := (HO.ins.inj (Option.some.inj h1)).2.2
  rw [e, histFs_editions] at ne
  cases ne
theorem Dicts.up {H H' : Hp} {p C dx : Addr} {fs : List (Str × V)} {ds : List Addr} {rs : List (List (Key × V))} (u : Up p H H') (hp : H p = some (.ins C dx fs)) (h : Dicts H ds rs) : Dicts H' ds rs := ⟨h.1, fun i d r h1 h2 => u _ _ (fun z => by have := h.2 i d r h1 h2; rw [z, hp] at this; cases this) (h.2 i d r h1 h2)⟩
theorem Dicts.of_vs {H : Hp} : ∀ {ys : List V} {rs : List (List (Key × V))}, ys.length = rs.length → (∀ (i : Nat) (y : V), ys[i]? = some y → ∃ (d : Addr) (q : List (Key × V)), y = V.ref d ∧ rs[i]? = some q ∧ H d = some (.dK q)) → ∃ ds : List Addr, ys = ds.map V.ref ∧ Dicts H ds rs
  | [], [], _, _ => ⟨[], rfl, rfl, fun i d q e => by simp at e⟩
  | [], _ :: _, h, _ => by cases h
  | _ :: _, [], h, _ => by cases h
  | y :: ys, q0 :: rs, hl, hy => by
    obtain ⟨ds, e1, e2⟩ := Dicts.of_vs (Nat.succ.inj hl) fun i y' hy' => hy (i + 1) y' hy'
    obtain ⟨d, q, q1, q2, q3⟩ := hy 0 y rfl
    obtain rfl : q0 = q := Option.some.inj q2
    refine ⟨d :: ds, by rw [q1, e1]; rfl, congrArg (· + 1) e2.1, fun i d' q' g1 g2 => ?_⟩
    cases i with
    | zero =>
      obtain rfl := Option.some.inj (show some d = some d' from g1)
      obtain rfl := Option.some.inj (show some q0 = some q' from g2)
      exact q3
    | succ i => exact e2.2 i d' q' g1 g2
/-- a row behind a change that bars none -/
def nextR (cs : List Col) (ch : Ch) (r : List (Key × V)) : List (Key × V) := (rowThen cs ch r).getD []
def whyP (cs : List Col) (ch : Ch) (rs : List (List (Key × V))) : V := if hindV cs ch = .non then (if (rs.any fun r => (rowThen cs ch r).isNone) = true then .str "row" else .non) else hindV cs ch
theorem whyP_non {cs : List Col} {ch : Ch} {rs : List (List (Key × V))} (h : whyP cs ch rs = .non) : hindV cs ch = .non ∧ ∀ r ∈ rs, rowThen cs ch r = some (nextR cs ch r) := by
  unfold whyP at h
  split at h
  · rename_i hz
    refine ⟨hz, fun r hr => ?_⟩
    split at h
    · cases h
    · rename_i hn
      cases e : rowThen cs ch r with
      | some r' =>
        unfold nextR
        rw [e]
        rfl
      | none => exact absurd (List.any_eq_true.mpr ⟨r, hr, by rw [e]; rfl⟩) hn
  · rename_i hz
    exact absurd h hz
theorem colsE_take {cs : List Col} {chs : List Ch} {n : Nat} : colsE cs (chs.take n) (chs.take n).length = colsE cs chs n := by
  unfold colsE
  rw [List.take_length]

/-! Plain.__init__, of a History and rows of its columns at present -/
def sp_Plain_init (K : PySem.W.Frag) : Sp := fun vs H Q _ => ∃ (p dx h l : Addr) (ds : List Addr) (cs : List Col) (chs : List Ch) (rs : List (List (Key × V))), vs = [.ref p, .ref h, .ref l] ∧ H p = some (.ins (He.ga K "Plain") dx []) ∧ HistAt K H h cs chs ∧ HistOk cs chs ∧ H l = some (.lst (ds.map V.ref)) ∧ Dicts H ds rs ∧ rs.length ≤ 1000 ∧ (∀ r ∈ rs, RowM (colsE cs chs chs.length) r) ∧
  ∀ (H' : Hp), PlainAt K H' p h cs chs (rs.map (rowOf (colsE cs chs chs.length))) → Up p H H' → Q .non H'
theorem ok_Plain_init (T : Tx K mg) : ∃ fd, FnOk P w K mg base CX0 6 (He.ma K (He.ga K "Plain") "__init__") fd ["self", "history", "rows"] (sp_Plain_init K) ∧
    FunD K "__init__" "Plain.__init__" (defArgs s_Plain___init__) (defBody s_Plain___init__) (defScope s_Plain___init__) (d_Plain___init__.dvs K) (d_Plain___init__.kws K) (He.ma K (He.ga K "Plain") "__init__") fd := by
  have C1 := (ok_is_list (P := P) (w := w) (base := base) T).up (show 1 ≤ 5 by decide)
  have C2 := ok_is_row (P := P) (w := w) (base := base) T
  have C3 := (ok_row_in_order (P := P) (w := w) (base := base) T).up (show 1 ≤ 5 by decide)
  obtain ⟨fdC, FC, _, ⟨dsC, vC, bC⟩⟩ := ok_Hist_columns (P := P) (w := w) (base := base) T
  have ic := insC_of (ex_History T) (cl_History T)
  have cl := cl_Plain T
  obtain ⟨fd, F⟩ := fd_Plain___init__ T
  refine ⟨fd, F.ok (CX := CX0) sc_Plain___init__ (fun vs H Q E h => ?_) (fun cdv A outer s H vs Q E hr h => ?_), F⟩
  · obtain ⟨p, dx, h, l, ds, cs, chs, rs, rfl, _⟩ := h
    rfl
  suffices hh : ∃ t, PSs (cxOf CX0 P w K mg base ["self", "history", "rows", "columns", "index", "value", "row"] "Plain.__init__" (defScope s_Plain___init__) (He.ma K (He.ga K "Plain") "__init__") cdv A outer s H E).nox (defBody s_Plain___init__) t ∧
      t { nx := fun _ H' => Q .non H', rt := Q } (start ["self", "history", "rows", "columns", "index", "value", "row"] vs) H by
    obtain ⟨t, h1, h2⟩ := hh
    exact ⟨t, h1.nox, h2⟩
  obtain ⟨p, dx, h, l, ds, cs, chs, rs, rfl, hp, hh, o, hl, hds, hlen, hrow, k⟩ := h
  have nd := sc_Plain___init__.nd
  have few := o.few
  have g := o.f.good o.g chs.length (Nat.le_refl _)
  have g6 : (colsE cs chs chs.length).length ≤ 6 := g.six
  refine ⟨_, pss_cons (ps_if (pt_not (pt_val (pe_callB (C8.call_isC ic) (by rfl) (fr_isinstance T) (by decide +kernel) (pa_cons (pv 1) (pa_cons (pe_glob (v := .ref (He.ga K "History")) (by rfl) (mg_History T) rfl) pa_nil))))) (pss_one ps_never) pss_nil)
    (pss_cons (ps_if (pt_not (pt_val (pcall C1 hr (pa_cons (pv 2) pa_nil)))) (pss_one ps_never) pss_nil)
    (pss_cons (ps_set (i := 3) nd rfl (Or.inr rfl) (pe_meth0 (pv 1) (cl_History T) (me_History_columns T) FC hr bC vC pass0))
    (pss_cons (ps_for PassesOwn.never rfl (pi_enum (by rfl) (fr_enumerate T) (pa_cons (pv 2) pa_nil)) (pg_tup rfl (pgs_cons (pg_name (i := 4) nd rfl (Or.inl rfl)) (pgs_cons (pg_name (i := 5) nd rfl (Or.inl rfl)) pgs_nil))) (pss_one (ps_if (pt_not (pt_val (pcall C2 hr (pa_cons (pv 3) (pa_cons (pv 5) pa_nil))))) (pss_one ps_never) pss_nil)))
    (pss_cons (ps_fld (pv 0) (pv 1) rfl)
    (pss_one (ps_fld (pv 0) (pe_lc (own := [("row", 6)]) (g := gName 6) (tt := tYes) (te := tCall (sp_row_in_order K) [] E0 (tCons (tVar 3) (tCons (tVar 6) tNil))) rfl nd (pi_list (pv 2)) (blkOk_by (N := ["self", "history", "rows", "columns", "index", "value", "row"]) (sc := defScope s_Plain___init__) (by decide +kernel)) (fun _ _ _ _ _ => pg_name (i := 6) nd rfl (Or.inl rfl)) (fun _ _ _ _ _ => pts_nil) (fun _ _ _ _ _ => pcall C3 hr (pa_cons (pv 3) (pa_cons (pv 6) pa_nil)))) rfl)))))), ?_⟩
  obtain ⟨dxh, fsh, hi, no⟩ := histM hh
  refine ⟨_, rfl, h, dxh, fsh, rfl, hi, _, rfl, iteF (nxt ?_)⟩
  refine ⟨_, rfl, l, _, rfl, sqL_of hl, fun H1 s1 => ⟨_, rfl, iteF (nxt ?_)⟩⟩
  dsimp only
  refine q_asgX ⟨_, rfl, h, dxh, fsh, rfl, s1 _ _ hi, no, h, cs, chs, .non, rfl, hh.keep s1, by omega, .inl rfl, fun lc ac H2 nlc s2 hlc hcc => ?_⟩
  have hcc : Cols K H2 ac (colsE cs chs chs.length) := hcc
  have hal := hcc.len
  have s02 := s1.trans s2
  dsimp only
  refine ⟨_, rfl, l, ds.map V.ref, rfl, sqL_of (s02 _ _ hl), ?_⟩
  refine for_it walk_enum (fun i σ H' => Same H2 H' ∧ ∃ x4 x5 x6 : Option V, σ = [some (.ref p), some (.ref h), some (.ref l), some (.ref lc), x4, x5, x6]) ⟨Same.refl _, _, _, _, rfl⟩ (fun i σ H' _ q => sqL_of ((s02.trans q.1) _ _ hl)) ?_ ?_
  · rintro i v σ H3 H4 hi' ⟨s3, x4, x5, x6, rfl⟩ ⟨T1, x', y', rfl, nT, rfl, ex, ey⟩
    obtain rfl := Option.some.inj ex
    have ey : (ds.map V.ref)[i]? = some y' := ey
    rw [List.getElem?_map, Option.map_eq_some_iff] at ey
    obtain ⟨d, hd, rfl⟩ := ey
    obtain ⟨r, hr', hdr⟩ := hds.at_ hd
    have st : Same H3 (upd H3 T1 (.tup [.int (i : Nat), .ref d])) := same_new nT
    have t2 : upd H3 T1 (.tup [.int (i : Nat), .ref d]) T1 = some (.tup [.int (i : Nat), .ref d]) := upd_same
    generalize upd H3 T1 (.tup [.int (i : Nat), .ref d]) = H5 at st t2 ⊢
    have s25 := s3.trans st
    refine ⟨T1, _, rfl, sqT_of t2, rfl, _, _, rfl, _, _, rfl, rfl, ?_⟩
    dsimp only
    exact ⟨_, rfl, _, rfl, lc, d, ac, _, r, rfl, s25 _ _ hlc, hcc.keep s25, by omega, s25 _ _ (s02 _ _ hdr), hrow r (List.mem_of_getElem? hr'), fun H6 s6 => ⟨_, rfl, iteF (nxt ⟨s25.trans s6, _, _, _, rfl⟩)⟩⟩
  rintro σ H3 ⟨s3, x4, x5, x6, rfl⟩
  have s03 := s02.trans s3
  have hp3 := s03 _ _ hp
  have hp3' : H3 p = some (.ins (He.ga K "Plain") dx []) := hp3
  refine ⟨_, rfl, _, rfl, p, _, dx, _, rfl, hp3, cl, na_Plain_history T, (by show 0 < 1000; decide), ?_⟩
  have u4 : Up p H3 (upd H3 p (.ins (He.ga K "Plain") dx [("history", V.ref h)])) := fun b o' nb q => by rw [upd_ne nb]; exact q
  have hp4 : upd H3 p (.ins (He.ga K "Plain") dx [("history", V.ref h)]) p = some (.ins (He.ga K "Plain") dx [("history", V.ref h)]) := upd_same
  rw [show putF ("history" : Str) (V.ref h) [] = ([(("history" : Str), V.ref h)] : List (Str × V)) from rfl]
  generalize upd H3 p (.ins (He.ga K "Plain") dx [("history", V.ref h)]) = H4 at u4 hp4 ⊢
  have lk : ([] : List (Str × V)).lookup ("name" : Str) = none := rfl
  have le : ([] : List (Str × V)).lookup ("_editions" : Str) = none := rfl
  have hlp : l ≠ p := fun z => by rw [z, hp] at hl; cases hl
  have lcp : lc ≠ p := fun z => by
    have := s3 _ _ hlc
    rw [z, hp3] at this
    cases this
  have hl4 := u4 _ _ hlp (s03 _ _ hl)
  have hlc4 := u4 _ _ lcp (s3 _ _ hlc)
  have hcc4 : Cols K H4 ac (colsE cs chs chs.length) := (hcc.keep s3).up u4 hp3 lk
  have hds4 : Dicts H4 ds rs := (hds.keep s03).up u4 hp3
  have hh4 : HistAt K H4 h cs chs := (hh.keep s03).up u4 hp3 lk le
  dsimp only
  unfold sFld
  refine tlc_G (K := K) (xs := ds.map V.ref) (fun j y H' => ∃ d q, y = .ref d ∧ (rs.map (rowOf (colsE cs chs chs.length)))[j]? = some q ∧ H' d = some (.dK q)) (fun j y H1 H2 s2 ⟨d, q, e1, e2, e3⟩ => ⟨d, q, e1, e2, s2 _ _ (fun _ z => by cases z) e3⟩) (fun R hR => ⟨_, rfl, hR l H4 (Same.refl _) (sqL_of hl4)⟩) (by rw [List.length_map, hds.1]; omega) (fun _ => rfl) ?_ ?_
  · intro j x hx H5 s5 R hR
    rw [List.getElem?_map, Option.map_eq_some_iff] at hx
    obtain ⟨d, hd, rfl⟩ := hx
    obtain ⟨q, hq, hdq⟩ := hds4.at_ hd
    exact ⟨_, rfl, _, rfl, lc, d, ac, _, q, rfl, s5 _ _ hlc4, hcc4.keep s5, by omega, s5 _ _ hdq, hrow q (List.mem_of_getElem? hq), g.names, fun d' H6 nd' s6 hd' => hR _ _ s6 ⟨d', _, rfl, by rw [List.getElem?_map, hq]; rfl, hd'⟩⟩
  · intro D ys H5 nD s5 hD hl2 hy
    obtain ⟨ds', rfl, hds'⟩ := Dicts.of_vs (H := H5) (rs := rs.map (rowOf (colsE cs chs chs.length))) (by rw [hl2, List.length_map, List.length_map, hds.1]) hy
    have hp5 := s5 _ _ hp4
    have Dp : D ≠ p := fun z => by rw [z, hp4] at nD; cases nD
    refine ⟨_, rfl, p, _, dx, _, rfl, hp5, cl, na_Plain__rows T, (by show 1 < 1000; decide), ?_⟩
    rw [plain_put2 h D]
    have u6 : Up p H5 (upd H5 p (.ins (He.ga K "Plain") dx (plainFs h D))) := fun b o' nb q => by rw [upd_ne nb]; exact q
    have lk2 : ([("history", V.ref h)] : List (Str × V)).lookup ("name" : Str) = none := by
      have e1 : (("name" : Str) == "history") = false := by decide +kernel
      simp [List.lookup, e1]
    have le2 : ([("history", V.ref h)] : List (Str × V)).lookup ("_editions" : Str) = none := by
      have e1 : (("_editions" : Str) == "history") = false := by decide +kernel
      simp [List.lookup, e1]
    refine k _ ⟨dx, D, ds', upd_same, (hh4.keep s5).up u6 hp5 lk2 le2, u6 _ _ Dp hD, hds'.up u6 hp5⟩ fun b o' nb q => ?_
    exact u6 b o' nb (s5 _ _ (u4 b o' nb (s03 _ _ q)))
/-! a comprehension over a call's new list: the call first, then the walk over what it gave -/
theorem tlc_at {K : PySem.W.Frag} {tl te : TE} {g : TG} {tt : TT} {vs : List Nat} {σ : L2.St} {H : Hp} {Q : VK} (h : tl σ H fun x H1 => tLc (iList K fun _ H' R => R x H') g tt te vs σ H1 Q) : tLc (iList K tl) g tt te vs σ H Q := h
theorem pl_rlc {wi : TI} {te : TE} {g : TG} {tt : TT} {vs : List Nat} {σ : L2.St} {H : Hp} {D : Ends} (h : tLc wi g tt te vs σ H D.rt) : tRet (tLc wi g tt te vs) D σ H := h
theorem rg2_at {lo n i : Nat} (h : i < n) : ((List.range n).map fun m : Nat => V.int ((lo : Nat) + (m : Nat)))[i]? = some (V.int ((lo : Nat) + (i : Nat))) := by
  rw [List.getElem?_map, List.getElem?_range h]
  rfl
section
variable {σ : L2.St} {H : Hp} {te : TE} {ta : TA} {tt : TT} {j : Nat} {vs : List Nat} {Q : VK}
theorem tlc_R2 (f : V → Bool) (v : V → V) (lo n : Nat) (hta : ∀ R : List V → Hp → Prop, (∀ H1, Same H H1 → R [.int (lo : Nat), .int ((lo : Nat) + (n : Nat))] H1) → ta σ H R) (hz : lo + n ≤ 100000) (hw : ∀ x, wipe ((wipe σ vs).set j (some x)) vs = wipe σ vs)
    (ht : ∀ m : Nat, m < n → ∀ H', Same H H' → ∀ R : Bool → Hp → Prop, (∀ H2, Same H' H2 → R (f (.int ((lo : Nat) + (m : Nat)))) H2) → tt ((wipe σ vs).set j (some (.int ((lo : Nat) + (m : Nat))))) H' R)
    (he : ∀ m : Nat, m < n → f (.int ((lo : Nat) + (m : Nat))) = true → ∀ H', Same H H' → ∀ R : VK, (∀ H2, Same H' H2 → R (v (.int ((lo : Nat) + (m : Nat)))) H2) → te ((wipe σ vs).set j (some (.int ((lo : Nat) + (m : Nat))))) H' R)
    (k : ∀ D H', H D = none → Same H H' → H' D = some (.lst ((((List.range n).map fun m : Nat => V.int ((lo : Nat) + (m : Nat))).filter f).map v)) → Q (.ref D) H') : tLc (iRng2 ta) (gName j) tt te vs σ H Q := by
  refine hta _ fun H1 e1 => ⟨(lo : Nat), (lo : Nat) + (n : Nat), rfl, ⟨by omega, by omega, by omega, by omega⟩, ?_⟩
  rw [show ((((lo : Nat) : Int) + ((n : Nat) : Int)) - ((lo : Nat) : Int)).toNat = n by omega]
  intro D hD
  have key : ∀ i H', i < n → (Same H1 H' ∧ H' D = some (.lst (((((List.range n).map fun m : Nat => V.int ((lo : Nat) + (m : Nat))).take i).filter f).map v))) → gName j (.int (((lo : Nat) : Int) + (i : Int))) (wipe σ vs) H' fun σ2 H2 => wipe σ2 vs = wipe σ vs ∧ tt σ2 H2 fun b H3 =>
      if b = true then te σ2 H3 fun y H4 => ∃ acc, H4 D = some (.lst acc) ∧ acc.length < sizeLine ∧ (Same H1 (upd H4 D (.lst (acc ++ [y]))) ∧ (upd H4 D (.lst (acc ++ [y]))) D = some (.lst (((((List.range n).map fun m : Nat => V.int ((lo : Nat) + (m : Nat))).take (i + 1)).filter f).map v)))
      else (Same H1 H3 ∧ H3 D = some (.lst (((((List.range n).map fun m : Nat => V.int ((lo : Nat) + (m : Nat))).take (i + 1)).filter f).map v))) := fun i H' hi p => by
    have hin : i < n := hi
    have hl := take_len (xs := (List.range n).map fun m : Nat => V.int ((lo : Nat) + (m : Nat))) f v i
    have hl2 : ((List.range n).map fun m : Nat => V.int ((lo : Nat) + (m : Nat))).length = n := by simp
    exact ⟨hw _, lc_one (N := fun H' => Same H1 H' ∧ H' D = some (.lst (((((List.range n).map fun m : Nat => V.int ((lo : Nat) + (m : Nat))).take (i + 1)).filter f).map v))) (f := f) (v := v) (x := .int ((lo : Nat) + (i : Nat))) hD (by omega) p (ht i hin H' (e1.trans p.1))
      (fun hf H2 e2 => he i hin hf H2 (e1.trans e2)) fun H2 s2 d2 => ⟨s2, by rw [d2, take_one f v (rg2_at hi)]⟩⟩
  refine lc_range (lo := (lo : Nat)) (n := n) (fun i H' => Same H1 H' ∧ H' D = some (.lst (((((List.range n).map fun m : Nat => V.int ((lo : Nat) + (m : Nat))).take i).filter f).map v))) ⟨same_new hD, ?_⟩ key fun H' p => k D H' (e1.free hD) (e1.trans p.1) ?_
  · exact upd_same
  · have q := p.2
    rw [List.take_of_length_le (by simp)] at q
    exact q
end

/-! plain.rows() -/
def sp_Plain_rows (K : PySem.W.Frag) : Sp := fun vs H Q _ => ∃ (p h : Addr) (cs : List Col) (chs : List Ch) (rs : List (List (Key × V))), vs = [.ref p] ∧ PlainAt K H p h cs chs rs ∧ rs.length ≤ 1000 ∧ ∀ (l : Addr) (ds : List Addr) (H' : Hp), H l = none → Same H H' → H' l = some (.lst (ds.map V.ref)) → Dicts H' ds rs → Q (.ref l) H'
theorem ok_Plain_rows (T : Tx K mg) : ∃ fd, FnOk P w K mg base CX0 1 (He.ma K (He.ga K "Plain") "rows") fd ["self"] (sp_Plain_rows K) ∧ Binds K fd ["self"] [] := by
  refine mkMeth (fd_Plain_rows T) sc_Plain_rows (fun _ _ _ _ _ _ us hl => match us, hl with | [_], _ => rfl) (fun vs H Q E h => ?_) (fun cdv A outer s H vs Q E hr h => ?_)
  · obtain ⟨p, h, cs, chs, rs, rfl, _⟩ := h
    rfl
  obtain ⟨p, h, cs, chs, rs, rfl, ⟨dx, r, ds, h1, h2, h3, h4⟩, hlen, k⟩ := h
  have nd := sc_Plain_rows.nd
  refine ⟨_, pss_one (ps_ret (pe_lc (own := [("row", 1)]) (g := gName 1) (tt := tYes) rfl nd (pi_list (pe_fld (pv 0) rfl)) (blkOk_by (N := ["self", "row"]) (sc := defScope s_Plain_rows) (by decide +kernel)) (fun _ _ _ _ _ => pg_name (i := 1) nd rfl (Or.inl rfl)) (fun _ _ _ _ _ => pts_nil) (fun _ _ _ _ _ => pe_callTy call_dictD (by rfl) (fr_dict T) (by decide +kernel) (pa_cons (pv 1) pa_nil)))), ?_⟩
  refine pl_rlc ?_
  refine tlc_G (K := K) (xs := ds.map V.ref) (fun j y H' => ∃ d q, y = .ref d ∧ rs[j]? = some q ∧ H' d = some (.dK q)) (fun j y H1 H2 s2 ⟨d, q, e1, e2, e3⟩ => ⟨d, q, e1, e2, s2 _ _ (fun _ z => by cases z) e3⟩) (fun R hR => ⟨_, rfl, p, _, dx, _, _, rfl, h1, cl_Plain T, na_Plain__rows T, plainFs_rows, hR r H (Same.refl _) (sqL_of h3)⟩) (by rw [List.length_map, h4.1]; omega) (fun _ => rfl) ?_ ?_
  · intro j x hx H3 s3 R hR
    rw [List.getElem?_map, Option.map_eq_some_iff] at hx
    obtain ⟨d, hd, rfl⟩ := hx
    obtain ⟨q, hq, hdq⟩ := h4.at_ hd
    exact ⟨_, rfl, d, q, rfl, .inl (s3 _ _ hdq), fun d' nd' => hR _ _ (same_new nd') ⟨d', q, rfl, hq, upd_same⟩⟩
  · intro D ys H2 nD s2 hD hl2 hy
    rw [List.length_map, h4.1] at hl2
    have ex : ∃ ds' : List Addr, ys = ds'.map V.ref ∧ Dicts H2 ds' rs := by
      clear hD k h4 hlen
      induction ys generalizing rs with
      | nil =>
        cases rs with
        | nil => exact ⟨[], rfl, rfl, fun i d q e => by simp at e⟩
        | cons _ _ => cases hl2
      | cons y ys ih =>
        cases rs with
        | nil => cases hl2
        | cons q0 rs =>
          obtain ⟨ds', e1, e2⟩ := ih rs (Nat.succ.inj hl2) fun i y' hy' => hy (i + 1) y' hy'
          obtain ⟨d, q, q1, q2, q3⟩ := hy 0 y rfl
          obtain rfl : q0 = q := Option.some.inj q2
          refine ⟨d :: ds', by rw [q1, e1]; rfl, congrArg (· + 1) e2.1, fun i d' q' g1 g2 => ?_⟩
          cases i with
          | zero =>
            obtain rfl := Option.some.inj (show some d = some d' from g1)
            obtain rfl := Option.some.inj (show some q0 = some q' from g2)
            exact q3
          | succ i => exact e2.2 i d' q' g1 g2
    obtain ⟨ds', rfl, hds⟩ := ex
    exact k D ds' H2 nD s2 hD hds
/-! plain.why_not(change) -/
def sp_Plain_why (K : PySem.W.Frag) : Sp := fun vs H Q _ => ∃ (p t h : Addr) (cs : List Col) (chs : List Ch) (rs : List (List (Key × V))) (ch : Ch), vs = [.ref p, .ref t] ∧ PlainAt K H p h cs chs rs ∧ HistOk cs chs ∧ rs.length ≤ 1000 ∧ (∀ r ∈ rs, RowD (colsE cs chs chs.length) r) ∧ ChAt K H t ch ∧ ch.fits = true ∧
  ∀ H', Same H H' → Q (whyP (colsE cs chs chs.length) ch rs) H'
theorem ok_Plain_why (T : Tx K mg) : ∃ fd, FnOk P w K mg base CX0 7 (He.ma K (He.ga K "Plain") "why_not") fd ["self", "change"] (sp_Plain_why K) ∧ Binds K fd ["self", "change"] [] := by
  have C1 := ok_why_not (P := P) (w := w) (base := base) T
  have C2 := (ok_changed_row (P := P) (w := w) (base := base) T).up (show 5 ≤ 6 by decide)
  obtain ⟨fdC, FC, _, ⟨dsC, vC, bC⟩⟩ := ok_Hist_columns (P := P) (w := w) (base := base) T
  refine mkMeth (fd_Plain_why_not T) sc_Plain_why_not (fun _ _ _ _ _ _ us hl => match us, hl with | [_, _], _ => rfl) (fun vs H Q E h => ?_) (fun cdv A outer s H vs Q E hr h => ?_)
  · obtain ⟨p, t, h, cs, chs, rs, ch, rfl, _⟩ := h
    rfl
  obtain ⟨p, t, h, cs, chs, rs, ch, rfl, hP, o, hlen, hrow, ht, hf, k⟩ := h
  have nd := sc_Plain_why_not.nd
  have few := o.few
  have g := o.f.good o.g chs.length (Nat.le_refl _)
  have hr5 : Room 5 _ := hr.mono (by decide)
  obtain ⟨dx, r, ds, h1, h2, h3, h4⟩ := id hP
  obtain ⟨dxh, fsh, hi, no⟩ := histM h2
  refine ⟨_, (pss_cons (ps_set (i := 2) nd rfl (Or.inr rfl) (pe_meth0 (pe_fld (pv 0) rfl) (cl_History T) (me_History_columns T) FC hr5 bC vC pass0))
        (pss_cons (ps_set (i := 3) nd rfl (Or.inl rfl) (pcall C1 hr (pa_cons (pv 2) (pa_cons (pv 1) pa_nil))))
        (pss_cons (ps_if (PW.pt (pw_and (pt_cmpR op_isN (pv 3) pe_non (nomark _)) (pw_and1 (pt_val (pe_callB (cr_any rfl) (by rfl) (fr_any T) (by decide +kernel) (pa_cons (pe_lc (own := [("row", 4)]) (g := gName 4) (tt := tYes) (te := tOp (fun x y H Q => y = .non ∧ Q (.bl (decide (x = .non))) H) (tCall (sp_changed_row K) [] E0 (tCons (tVar 2) (tCons (tVar 1) (tCons (tVar 4) tNil)))) (tC .non)) rfl nd (pi_list (pe_fld (pv 0) rfl)) (blkOk_by (N := ["self", "change", "columns", "word", "row"]) (sc := defScope s_Plain_why_not) (by decide +kernel)) (fun _ _ _ _ _ => pg_name (i := 4) nd rfl (Or.inl rfl)) (fun _ _ _ _ _ => pts_nil) (fun _ _ _ _ _ => pe_cmpR op_isN (pcall C2 hr (pa_cons (pv 2) (pa_cons (pv 1) (pa_cons (pv 4) pa_nil)))) pe_non (nomark _))) pa_nil)))))) (pss_one (ps_ret pe_str)) pss_nil)
        (pss_one (ps_ret (pv 3)))))), ?_⟩
  refine q_asgX ⟨_, rfl, p, _, dx, _, _, rfl, h1, cl_Plain T, na_Plain_history T, plainFs_history, h, dxh, fsh, rfl, hi, no, h, cs, chs, .non, rfl, h2, by omega, .inl rfl, fun lc ac H1 nlc s1 hlc hcc => ?_⟩
  have hcc : Cols K H1 ac (colsE cs chs chs.length) := hcc
  have hdv : ∀ e ∈ colsE cs chs chs.length, valOk e.dflt = true := fun e he => in_valOk (g.ok e he).1.df
  dsimp only
  refine q_asgX ⟨_, rfl, _, rfl, lc, t, ac, _, ch, rfl, .inl (sqL_of hlc), hcc, hdv, ht.keep s1, hf, fun H2 s2 => ?_⟩
  have s02 := s1.trans s2
  dsimp only
  by_cases hz : hindV (colsE cs chs chs.length) ch = .non
  · refine ⟨_, rfl, rfl, _, rfl, iteDT hz ?_⟩
    refine pl_b1 ?_
    refine tlc_G (K := K) (xs := ds.map V.ref) (fun j y H' => ∃ q, rs[j]? = some q ∧ y = .bl (rowThen (colsE cs chs chs.length) ch q).isNone) (fun j y H1 H2 _ q => q) (fun R hR => ⟨_, rfl, p, _, dx, _, _, rfl, s02 _ _ h1, cl_Plain T, na_Plain__rows T, plainFs_rows, hR r H2 (Same.refl _) (sqL_of (s02 _ _ h3))⟩) (by rw [List.length_map, h4.1]; omega) (fun _ => rfl) ?_ ?_
    · intro j x hx H3 s3 R hR
      rw [List.getElem?_map, Option.map_eq_some_iff] at hx
      obtain ⟨d, hd, rfl⟩ := hx
      obtain ⟨q, hq, hdq⟩ := h4.at_ hd
      have s03 := s02.trans s3
      refine ⟨_, rfl, _, rfl, _, rfl, lc, t, d, ac, _, ch, q, rfl, s3 _ _ (s2 _ _ hlc), (hcc.keep s2).keep s3, ht.keep s03, s03 _ _ hdq, hrow q (List.mem_of_getElem? hq), g.names, g.six, hf, fun H4 s4 e => ⟨rfl, hR _ _ s4 ⟨q, hq, by rw [e]; rfl⟩⟩, fun d' q' H4 nd' s4 hd' e => ⟨rfl, hR _ _ s4 ⟨q, hq, ?_⟩⟩⟩
      rw [e, decide_eq_false (by intro z; cases z)]
      rfl
    · intro D ys H3 nD s3 hD hl hy
      have ey : ys = (rs.map fun q => (rowThen (colsE cs chs chs.length) ch q).isNone).map V.bl := by
        refine List.ext_getElem? fun j => ?_
        rw [List.getElem?_map, List.getElem?_map]
        cases e : ys[j]? with
        | some y =>
          obtain ⟨q, hq, e2⟩ := hy j y e
          rw [hq, e2]
          rfl
        | none =>
          have := List.getElem?_eq_none_iff.mp e
          rw [hl, List.length_map, h4.1] at this
          rw [List.getElem?_eq_none this]
          rfl
      rw [ey] at hD
      refine ⟨D, _, rfl, sqL_of hD, _, rfl, ?_⟩
      have s03 := s02.trans s3
      have ea : ((rs.map fun q => (rowThen (colsE cs chs chs.length) ch q).isNone).any id) = rs.any fun q => (rowThen (colsE cs chs chs.length) ch q).isNone := by
        rw [List.any_map]
        rfl
      rw [ea]
      have hk := k H3 s03
      unfold whyP at hk
      rw [if_pos hz] at hk
      cases hb : (rs.any fun q => (rowThen (colsE cs chs chs.length) ch q).isNone) with
      | true =>
        rw [hb, if_pos rfl] at hk
        exact iteT hk
      | false =>
        rw [hb, if_neg (by decide)] at hk
        refine iteF (nxt ⟨_, rfl, ?_⟩)
        rw [hz]
        exact hk
  · refine ⟨_, rfl, rfl, _, rfl, iteD hz (nxt ⟨_, rfl, ?_⟩)⟩
    have hk := k H2 s02
    unfold whyP at hk
    rw [if_neg hz] at hk
    exact hk
/-! plain.changed(change), of a change that can be done -/
def sp_Plain_changed (K : PySem.W.Frag) : Sp := fun vs H Q _ => ∃ (p t h : Addr) (cs : List Col) (chs : List Ch) (rs : List (List (Key × V))) (ch : Ch), vs = [.ref p, .ref t] ∧ PlainAt K H p h cs chs rs ∧ HistOk cs chs ∧ rs.length ≤ 1000 ∧ (∀ r ∈ rs, RowD (colsE cs chs chs.length) r) ∧ ChAt K H t ch ∧ ch.fits = true ∧ whyP (colsE cs chs chs.length) ch rs = .non ∧ chs.length < 40 ∧
  ∀ (p' h' : Addr) (H' : Hp), H p' = none → Same H H' → PlainAt K H' p' h' cs (chs ++ [ch]) (rs.map (nextR (colsE cs chs chs.length) ch)) → Q (.ref p') H'
theorem colsE_app {cs : List Col} {chs : List Ch} {ch : Ch} : colsE cs (chs ++ [ch]) (chs ++ [ch]).length = behind (colsE cs chs chs.length) ch (numE cs chs chs.length) := by
  have h : (chs ++ [ch])[chs.length]? = some ch := by
    rw [List.getElem?_append_right (Nat.le_refl _), Nat.sub_self]
    rfl
  rw [List.length_append]
  show colsE cs (chs ++ [ch]) (chs.length + 1) = _
  rw [colsE_succ h]
  have e : (chs ++ [ch]).take chs.length = chs.take chs.length := List.take_append_of_le_length (Nat.le_refl _)
  unfold colsE numE
  rw [e]
theorem ok_Plain_changed (T : Tx K mg) : ∃ fd, FnOk P w K mg base CX0 14 (He.ma K (He.ga K "Plain") "changed") fd ["self", "change"] (sp_Plain_changed K) ∧ Binds K fd ["self", "change"] [] := by
  have C2 := (ok_changed_row (P := P) (w := w) (base := base) T).up (show 5 ≤ 13 by decide)
  obtain ⟨fdC, FC, _, ⟨dsC, vC, bC⟩⟩ := ok_Hist_columns (P := P) (w := w) (base := base) T
  obtain ⟨fdW, FW, bW⟩ := ok_Plain_why (P := P) (w := w) (base := base) T
  obtain ⟨fdT, FT, bT⟩ := ok_Hist_then (P := P) (w := w) (base := base) T
  obtain ⟨fdI, GI, FI⟩ := ok_Plain_init (P := P) (w := w) (base := base) T
  have bI : Binds K fdI ["self", "history", "rows"] [] := by
    have h := FI.binds1 (ps := ["self", "history", "rows"]) 3 1 (by intro z; cases z) rfl (fun TT kV doc pm an cdv ct us its h1 h2 => ?_)
    · obtain ⟨ds, v, b⟩ := h
      cases ds with
      | nil => exact b
      | cons _ _ => cases v
    · match us, h1, its, h2 with
      | [u0, u1, u2], _, [i0], _ => exact ⟨_, rfl, rfl⟩
  refine mkMeth (fd_Plain_changed T) sc_Plain_changed (fun _ _ _ _ _ _ us hl => match us, hl with | [_, _], _ => rfl) (fun vs H Q E h => ?_) (fun cdv A outer s H vs Q E hr h => ?_)
  · obtain ⟨p, t, h, cs, chs, rs, ch, rfl, _⟩ := h
    rfl
  obtain ⟨p, t, h, cs, chs, rs, ch, rfl, hP, o, hlen, hrow, ht, hf, hw, h40, k⟩ := h
  have nd := sc_Plain_changed.nd
  have few := o.few
  have g := o.f.good o.g chs.length (Nat.le_refl _)
  obtain ⟨hz, hthen⟩ := whyP_non hw
  have hr5 : Room 5 _ := hr.mono (by decide)
  have hr7 : Room 7 _ := hr.mono (by decide)
  obtain ⟨dx, r, ds, h1, h2, h3, h4⟩ := id hP
  obtain ⟨dxh, fsh, hi, no⟩ := histM h2
  obtain ⟨dxt, fst, hit, not_⟩ := histMx "then" (by decide +kernel) h2
  refine ⟨_, (pss_cons (ps_set (i := 2) nd rfl (Or.inl rfl) (pe_meth (pv 0) (cl_Plain T) (me_Plain_why_not T) FW hr7 bW .nil pass0 (pa_cons (pv 1) pa_nil)))
        (pss_cons (ps_if (pt_cmpR op_notN (pv 2) pe_non (nomark _)) (pss_one ps_never) pss_nil)
        (pss_cons (ps_set (i := 3) nd rfl (Or.inr rfl) (pe_meth0 (pe_fld (pv 0) rfl) (cl_History T) (me_History_columns T) FC hr5 bC vC pass0))
        (pss_one (ps_ret (pe_make (mk_Plain T) GI hr7 (by rfl) (mg_Plain T) bI .nil pass0 (pa_cons (pe_meth (pe_fld (pv 0) rfl) (cl_History T) (me_History_then T) FT hr bT .nil pass0 (pa_cons (pv 1) pa_nil))
          (pa_cons (pe_lc (own := [("row", 4)]) (g := gName 4) (tt := tYes) (te := tCall (sp_changed_row K) [] E0 (tCons (tVar 3) (tCons (tVar 1) (tCons (tVar 4) tNil)))) rfl nd (pi_list (pe_fld (pv 0) rfl)) (blkOk_by (N := ["self", "change", "word", "columns", "row"]) (sc := defScope s_Plain_changed) (by decide +kernel)) (fun _ _ _ _ _ => pg_name (i := 4) nd rfl (Or.inl rfl)) (fun _ _ _ _ _ => pts_nil) (fun _ _ _ _ _ => pcall C2 hr (pa_cons (pv 3) (pa_cons (pv 1) (pa_cons (pv 4) pa_nil))))) pa_nil)))))))), ?_⟩
  refine q_asgX ⟨_, rfl, p, dx, plainFs h r, rfl, h1, plainFs_no (by decide +kernel) (by decide +kernel), _, rfl, p, t, h, cs, chs, rs, ch, rfl, hP, o, hlen, hrow, ht, hf, fun H1 s1 => ?_⟩
  rw [hw]
  dsimp only
  refine ⟨_, rfl, rfl, _, rfl, iteNS rfl (nxt ?_)⟩
  dsimp only
  refine q_asgX ⟨_, rfl, p, _, dx, _, _, rfl, s1 _ _ h1, cl_Plain T, na_Plain_history T, plainFs_history, h, dxh, fsh, rfl, s1 _ _ hi, no, h, cs, chs, .non, rfl, h2.keep s1, by omega, .inl rfl, fun lc ac H2 nlc s2 hlc hcc => ?_⟩
  have hcc : Cols K H2 ac (colsE cs chs chs.length) := hcc
  have s02 := s1.trans s2
  dsimp only
  refine ⟨_, rfl, p, _, dx, _, _, rfl, s02 _ _ h1, cl_Plain T, na_Plain_history T, plainFs_history, h, dxt, fst, rfl, s02 _ _ hit, not_, _, rfl, h, t, cs, chs, ch, rfl, h2.keep s02, o, ht.keep s02, hf, hz, h40, fun h' H3 nh' s3 hN => ?_⟩
  have s03 := s02.trans s3
  have o2 := o.app hf hz h40
  have g2 := g.step hf hz
  have g2 : Good (behind (colsE cs chs chs.length) ch (numE cs chs chs.length)) (numThen ch (numE cs chs chs.length)) := g2
  refine tlc_G (K := K) (xs := ds.map V.ref) (fun j y H' => ∃ d q, y = .ref d ∧ (rs.map (nextR (colsE cs chs chs.length) ch))[j]? = some q ∧ H' d = some (.dK q)) (fun j y H1 H2 s2 ⟨d, q, e1, e2, e3⟩ => ⟨d, q, e1, e2, s2 _ _ (fun _ z => by cases z) e3⟩) (fun R hR => ⟨_, rfl, p, _, dx, _, _, rfl, s03 _ _ h1, cl_Plain T, na_Plain__rows T, plainFs_rows, hR r H3 (Same.refl _) (sqL_of (s03 _ _ h3))⟩) (by rw [List.length_map, h4.1]; omega) (fun _ => rfl) ?_ ?_
  · intro j x hx H4 s4 R hR
    rw [List.getElem?_map, Option.map_eq_some_iff] at hx
    obtain ⟨d, hd, rfl⟩ := hx
    obtain ⟨q, hq, hdq⟩ := h4.at_ hd
    have s04 := s03.trans s4
    have hq2 := hthen q (List.mem_of_getElem? hq)
    refine ⟨_, rfl, _, rfl, _, rfl, lc, t, d, ac, _, ch, q, rfl, s4 _ _ (s3 _ _ hlc), (hcc.keep s3).keep s4, ht.keep s04, s04 _ _ hdq, hrow q (List.mem_of_getElem? hq), g.names, g.six, hf, fun H5 s5 e => ?_, fun d' q' H5 nd' s5 hd' e => hR _ _ s5 ⟨d', q', rfl, ?_, hd'⟩⟩
    · rw [hq2] at e
      cases e
    · rw [List.getElem?_map, hq]
      rw [hq2] at e
      exact e
  · intro D ys H4 nD s4 hD hl2 hy
    obtain ⟨ds', rfl, hds'⟩ := Dicts.of_vs (H := H4) (rs := rs.map (nextR (colsE cs chs chs.length) ch)) (by rw [hl2, List.length_map, List.length_map, h4.1]) hy
    have s04 := s03.trans s4
    have hrow2 : ∀ q ∈ rs.map (nextR (colsE cs chs chs.length) ch), RowD (colsE cs (chs ++ [ch]) (chs ++ [ch]).length) q := fun q hq => by
      obtain ⟨q0, hq0, rfl⟩ := List.mem_map.mp hq
      rw [colsE_app]
      exact rowThen_row g hf hz (hrow q0 hq0) (hthen q0 hq0)
    have nms : ((colsE cs (chs ++ [ch]) (chs ++ [ch]).length).map (·.name)).Nodup := by
      rw [colsE_app]
      exact g2.names
    intro x dx' nx ndx ne
    have s5 : Same H4 (upd (upd H4 dx' (.own x)) x (.ins (He.ga K "Plain") dx' [])) := fun b' o' e' => by
      rw [upd_ne (ne_of_none e' nx), upd_ne (ne_of_none e' ndx)]
      exact e'
    refine ⟨x, dx', h', D, ds', cs, chs ++ [ch], rs.map (nextR (colsE cs chs chs.length) ch), rfl, upd_same, (hN.at_.keep s4).keep s5, o2, s5 _ _ hD, hds'.keep s5, by rw [List.length_map]; exact hlen, fun q hq => (hrow2 q hq).m nms, fun H6 hP6 u6 => ⟨rfl, ?_⟩⟩
    have er : (rs.map (nextR (colsE cs chs chs.length) ch)).map (rowOf (colsE cs (chs ++ [ch]) (chs ++ [ch]).length)) = rs.map (nextR (colsE cs chs chs.length) ch) := by
      refine (List.map_congr_left (g := id) fun q hq => rowOf_self (hrow2 q hq) nms).trans (List.map_id _)
    rw [er] at hP6
    have nx0 : H x = none := s04.free nx
    exact k x h' H6 nx0 (fun b' o' e' => u6 b' o' (ne_of_none e' nx0) (s5 _ _ (s04 _ _ e'))) hP6
/-! _law_pool -/
def sp_pool (K : PySem.W.Frag) : Sp := fun vs H Q _ => ∃ (a : Addr) (ns : List Int) (k : Int), vs = [.ref a, .int k] ∧ SqL K H a (ns.map V.int) ∧ 0 ≤ k ∧ k ≤ 1000 ∧
  ∀ (p : Addr) (H' : Hp) (z0 z1 : Int), H p = none → Same H H' → H' p = some (.lst [.int z0, .int z1]) → Q (.ref p) H'
theorem ok_pool (T : Tx K mg) : Callee P w K mg base CX0 1 "_law_pool" ["_law_script", "_law_k"] [] (sp_pool K) := by
  refine mkCallee (fd__law_pool T) (mg__law_pool T) sc__law_pool (fun _ _ _ _ _ _ us hl => match us, hl with | [_, _], _ => rfl) (fun vs H Q E h => ?_) (fun cdv A outer s H vs Q E hr h => ?_)
  · obtain ⟨a, ns, k, rfl, _⟩ := h
    rfl
  · obtain ⟨a, ns, k, rfl, hs, k0, k1, kk⟩ := h
    have gi : mg "int" = none := fr_int T
    refine ⟨_, pss_cons (ps_set (i := 2) sc__law_pool.nd rfl (Or.inl rfl) (pe_ifExp (pt_cmpR op_lt (pv 1) (pe_callB call_len (by rfl) (fr_len T) PySem.boot_len (pa_cons (pv 0) pa_nil)) (nomark _))
        (pe_callB (call_max2 rfl) (by rfl) (fr_max T) (by decide +kernel) (pa_cons (pe_callTy call_int1 (by rfl) gi (by decide +kernel) (pa_cons (pe_ix ix_list (pv 0) (pv 1) (fun _ _ => rfl)) pa_nil))
          (pa_cons (pe_callTy call_int1 (by rfl) gi (by decide +kernel) (pa_cons (pe_op op_sub (pe_un un_neg pe_int) (pe_ix ix_list (pv 0) (pv 1) (fun _ _ => rfl))) pa_nil)) pa_nil))) pe_int))
      (pss_cons (ps_set (i := 3) sc__law_pool.nd rfl (Or.inl rfl) (pe_op op_add (pe_op op_modN (pe_callTy call_int1 (by rfl) gi (by decide +kernel) (pa_cons (pe_op op_mul (pe_op op_add (pe_op op_modN (pe_callTy call_int1 (by rfl) gi (by decide +kernel) (pa_cons (pv 2) pa_nil)) pe_int)
        (pe_op op_mul pe_int (pe_op op_add (pv 1) pe_int))) pe_int) pa_nil)) pe_int) pe_int))
      (pss_one (ps_ret (pe_lst (pa_cons (pe_op op_mul (pv 2) (pe_callTy call_int1 (by rfl) gi (by decide +kernel) (pa_cons (pe_cmpR op_ge (pv 2) (pe_op op_pow pe_int pe_int) (nomark _)) pa_nil)))
        (pa_cons (pe_op op_modN (pe_callTy call_int1 (by rfl) gi (by decide +kernel) (pa_cons (pe_op op_mul (pv 3) (pv 3)) pa_nil)) pe_int) pa_nil)))))), ?_⟩
    refine q_asgI (fun R r => ?_) fun z => ?_
    · refine ⟨_, rfl, _, rfl, _, (ns.map V.int).length, rfl, .inl ⟨_, hs, rfl⟩, _, _, rfl, rfl, _, rfl, ?_⟩
      by_cases hk : k < ((ns.map V.int).length : Int)
      · rw [decide_eq_true hk]
        obtain ⟨j, rfl⟩ : ∃ j : Nat, k = (j : Int) := ⟨k.toNat, by omega⟩
        have hj : j < ns.length := by
          rw [List.length_map] at hk
          omega
        have hx : (ns.map V.int)[j]? = some (V.int ns[j]) := by
          rw [List.getElem?_map, List.getElem?_eq_getElem hj]
          rfl
        refine iteT ⟨_, rfl, _, rfl, a, _, _, _, rfl, rfl, hs, at_of (j := j) rfl hx, .inl ⟨_, rfl, _, rfl, _, rfl, _, rfl, a, _, _, _, rfl, rfl, hs, at_of (j := j) rfl hx, _, _, rfl, rfl, .inl ⟨_, rfl, _, _, rfl, r _⟩⟩⟩
      · rw [decide_eq_false hk]
        exact iteF (r 7)
    · refine ⟨_, rfl, .inl ⟨_, rfl, _, _, rfl, rfl, (show (2147483629 : Int) ≠ 0 by decide), _, rfl, _, _, rfl, rfl, _, _, rfl, rfl, .inl ⟨by decide, by decide⟩, _, _, rfl, rfl, _, _, rfl, rfl, .inr ⟨by decide, by decide⟩, .inl ⟨_, rfl, _, _, rfl, rfl, (show (2147483629 : Int) ≠ 0 by decide), _, _, rfl, rfl, ?_⟩⟩⟩
      have m0 := mod_lo (i := (z.fmod 2147483629 + 104729 * (k + 1)) * 48271) (j := 2147483629) (by decide)
      have m1 := mod_hi (i := (z.fmod 2147483629 + 104729 * (k + 1)) * 48271) (j := 2147483629) (by decide)
      refine ⟨_, rfl, _, rfl, _, _, rfl, rfl, ⟨by decide, by decide, by decide⟩, _, _, rfl, rfl, .inr ⟨_, rfl, _, _, rfl, rfl, ?_, _, rfl, _, rfl, _, _, rfl, rfl, .inl ⟨by omega, by omega⟩, .inl ⟨_, rfl, _, _, rfl, rfl, (show (2147483629 : Int) ≠ 0 by decide), (by show 2 ≤ sizeLine; decide), fun p hp => ?_⟩⟩⟩
      · refine .inr ?_
        split
        · exact ⟨by decide, by decide⟩
        · exact ⟨by decide, by decide⟩
      · exact kk p _ _ _ hp (same_new hp) upd_same
/-! _law_draw -/
def sp_draw : Sp := fun vs H Q _ => ∃ (a : Addr) (z0 z1 m : Int), vs = [.ref a, .int m] ∧ H a = some (.lst [.int z0, .int z1]) ∧ 0 < m ∧ m < 1073741824 ∧
  ∀ r y0 y1 : Int, 0 ≤ r → r < m → Q (.int r) (upd H a (.lst [.int y0, .int y1]))
theorem ok_draw (T : Tx K mg) : Callee P w K mg base CX0 1 "_law_draw" ["_law_pool_here", "_law_many"] [] sp_draw := by
  refine mkCallee (fd__law_draw T) (mg__law_draw T) sc__law_draw (fun _ _ _ _ _ _ us hl => match us, hl with | [_, _], _ => rfl) (fun vs H Q E h => ?_) (fun cdv A outer s H vs Q E hr h => ?_)
  · obtain ⟨a, z0, z1, m, rfl, _⟩ := h
    rfl
  · obtain ⟨a, z0, z1, m, rfl, ha, hm, hm2, k⟩ := h
    have gi : mg "int" = none := fr_int T
    refine ⟨_, pss_cons (ps_if (pt_cmpR op_gt (pe_ix ix_list (pv 0) pe_int (fun _ _ => rfl)) pe_int (nomark _))
        (pss_cons (ps_set (i := 2) sc__law_draw.nd rfl (Or.inl rfl) (pe_op op_modN (pe_callTy call_int1 (by rfl) gi (by decide +kernel) (pa_cons (pe_ix ix_list (pv 0) pe_int (fun _ _ => rfl)) pa_nil)) (pv 1)))
        (pss_cons (ps_asg (pe_op op_fdivN (pe_ix ix_list (pv 0) pe_int (fun _ _ => rfl)) (pv 1)) (pg_sub (pv 0) pe_int set_list))
        (pss_one (ps_ret (pv 2))))) pss_nil)
      (pss_cons (ps_asg (pe_op op_modN (pe_callTy call_int1 (by rfl) gi (by decide +kernel) (pa_cons (pe_op op_add (pe_op op_mul (pe_ix ix_list (pv 0) pe_int (fun _ _ => rfl)) pe_int) pe_int) pa_nil)) pe_int) (pg_sub (pv 0) pe_int set_list))
      (pss_one (ps_ret (pe_op op_modN (pe_callTy call_int1 (by rfl) gi (by decide +kernel) (pa_cons (pe_op op_fdivN (pe_op op_modN (pe_callTy call_int1 (by rfl) gi (by decide +kernel)
        (pa_cons (pe_op op_mul (pe_ix ix_list (pv 0) pe_int (fun _ _ => rfl)) (pe_ix ix_list (pv 0) pe_int (fun _ _ => rfl))) pa_nil)) pe_int) pe_int) pa_nil)) (pv 1))))), ?_⟩
    have i0 : atI [V.int z0, V.int z1] 0 = some (V.int z0) := rfl
    have i1 : atI [V.int z0, V.int z1] 1 = some (V.int z1) := rfl
    refine ⟨_, rfl, a, _, _, _, rfl, rfl, sqL_of ha, i0, _, _, rfl, rfl, _, rfl, ?_⟩
    by_cases hz : 0 < z0
    · rw [decide_eq_true hz]
      refine iteT ⟨_, rfl, a, _, _, _, rfl, rfl, sqL_of ha, i0, .inl ⟨_, rfl, _, rfl, _, _, rfl, rfl, (by omega), ?_⟩⟩
      refine ⟨_, rfl, a, _, _, _, rfl, rfl, sqL_of ha, i0, _, rfl, _, _, rfl, rfl, ⟨by omega, by omega⟩, _, rfl, a, _, 0, 0, rfl, rfl, ha, rfl, ?_⟩
      exact ⟨_, rfl, k _ _ _ (mod_lo hm) (mod_hi hm)⟩
    · rw [decide_eq_false hz]
      refine iteF ?_
      refine ⟨_, rfl, a, _, _, _, rfl, rfl, sqL_of ha, i1, _, _, rfl, rfl, .inr ⟨by decide, by decide⟩, _, _, rfl, rfl, .inl ⟨_, rfl, _, _, rfl, rfl, (show (2147483647 : Int) ≠ 0 by decide), ?_⟩⟩
      refine ⟨_, rfl, a, _, 1, 1, rfl, rfl, ha, rfl, ?_⟩
      have hy0 : 0 ≤ (z1 * 48271 + 11).fmod 2147483647 := mod_lo (by decide)
      have hy1 : (z1 * 48271 + 11).fmod 2147483647 < 2147483647 := mod_hi (by decide)
      have u1 : upd H a (.lst ([V.int z0, V.int z1].set 1 (.int ((z1 * 48271 + 11).fmod 2147483647)))) a = some (.lst [.int z0, .int ((z1 * 48271 + 11).fmod 2147483647)]) := upd_same
      have j1 : atI [V.int z0, V.int ((z1 * 48271 + 11).fmod 2147483647)] 1 = some (V.int ((z1 * 48271 + 11).fmod 2147483647)) := rfl
      refine ⟨_, rfl, a, _, _, _, rfl, rfl, sqL_of u1, j1, _, rfl, a, _, _, _, rfl, rfl, sqL_of u1, j1, _, _, rfl, rfl, .inl ⟨by omega, by omega⟩, .inl ⟨_, rfl, _, _, rfl, rfl, (show (2147483629 : Int) ≠ 0 by decide), _, _, rfl, rfl, ⟨by decide, by decide⟩, .inl ⟨_, rfl, _, rfl, _, _, rfl, rfl, (by omega), ?_⟩⟩⟩
      exact k _ _ _ (mod_lo hm) (mod_hi hm)
/-! _law_pick -/
def sp_pick : Sp := fun vs H Q _ => ∃ (a b : Addr) (z0 z1 : Int) (xs : List V), vs = [.ref a, .ref b] ∧ H a = some (.lst [.int z0, .int z1]) ∧ H b = some (.lst xs) ∧ b ≠ a ∧ 0 < xs.length ∧ xs.length < 1000000 ∧
  ∀ (x : V) (y0 y1 : Int), x ∈ xs → Q x (upd H a (.lst [.int y0, .int y1]))
theorem ok_pick (T : Tx K mg) : Callee P w K mg base CX0 2 "_law_pick" ["_law_pool_here", "_law_row"] [] sp_pick := by
  have C1 := ok_draw (P := P) (w := w) (base := base) T
  refine mkCallee (fd__law_pick T) (mg__law_pick T) sc__law_pick (fun _ _ _ _ _ _ us hl => match us, hl with | [_, _], _ => rfl) (fun vs H Q E h => ?_) (fun cdv A outer s H vs Q E hr h => ?_)
  · obtain ⟨a, b, z0, z1, xs, rfl, _⟩ := h
    rfl
  · obtain ⟨a, b, z0, z1, xs, rfl, ha, hb, nb, h0, h1, k⟩ := h
    have gl : mg "len" = none := fr_len T
    refine ⟨_, pss_one (ps_ret (pe_ix ix_list (pv 1) (pcall C1 hr (pa_cons (pv 0) (pa_cons (pe_callB call_len_seq (by rfl) gl PySem.boot_len (pa_cons (pv 1) pa_nil)) pa_nil))) (fun _ _ => rfl))), ?_⟩
    refine ⟨_, rfl, _, rfl, _, rfl, b, xs, rfl, .inl (sqL_of hb), a, z0, z1, _, rfl, ha, (by omega), (by omega), fun r y0 y1 hr0 hr1 => ?_⟩
    obtain ⟨j, rfl⟩ : ∃ j : Nat, r = (j : Int) := ⟨r.toNat, by omega⟩
    have hj : j < xs.length := by omega
    refine ⟨b, xs, _, xs[j], rfl, rfl, sqL_of (by rw [upd_ne nb]; exact hb), at_of (j := j) rfl (List.getElem?_eq_getElem hj), ?_⟩
    exact k _ _ _ (List.getElem_mem hj)
/-! _law_gone: a Plain led through changes, up to one that cannot be done -/
def goneV : List Col → Int → List (List (Key × V)) → List Ch → V ⊕ List (List (Key × V))
  | _, _, rs, [] => .inr rs
  | cs, n, rs, ch :: more => if whyP cs ch rs = .non then goneV (behind cs ch n) (numThen ch n) (rs.map (nextR cs ch)) more else .inl (whyP cs ch rs)
theorem whyP_scal {cs : List Col} {ch : Ch} {rs : List (List (Key × V))} (h : ¬ whyP cs ch rs = .non) : ∃ z, whyP cs ch rs = .str z := by
  unfold whyP at h ⊢
  by_cases hz : hindV cs ch = .non
  · rw [if_pos hz] at h ⊢
    split at h
    · rename_i q
      rw [if_pos q]
      exact ⟨_, rfl⟩
    · exact absurd rfl h
  · rw [if_neg hz] at h ⊢
    cases ch with
    | add n g d =>
      have e : hindV cs (.add n g d) = addHind cs n g d := rfl
      rw [e] at hz ⊢
      unfold addHind at hz ⊢
      by_cases q1 : (cs.find? (isN n)).isSome = true
      · rw [if_pos q1]
        exact ⟨_, rfl⟩
      · rw [if_neg q1] at hz ⊢
        by_cases q2 : 6 ≤ cs.length
        · rw [if_pos q2]
          exact ⟨_, rfl⟩
        · rw [if_neg q2] at hz ⊢
          by_cases q3 : isIn g d = true
          · rw [if_pos q3] at hz
            exact absurd rfl hz
          · rw [if_neg q3]
            exact ⟨_, rfl⟩
    | drop n =>
      simp only [hindV] at hz ⊢
      cases q : cs.find? (isN n) <;> simp only [q] at hz ⊢
      · exact ⟨_, rfl⟩
      · split at hz
        · rename_i q2
          rw [if_pos q2]
          exact ⟨_, rfl⟩
        · exact absurd rfl hz
    | rename n m =>
      simp only [hindV] at hz ⊢
      cases q : cs.find? (isN n) <;> simp only [q] at hz ⊢
      · exact ⟨_, rfl⟩
      · split at hz
        · rename_i q2
          rw [if_pos q2]
          exact ⟨_, rfl⟩
        · exact absurd rfl hz
    | dflt n m =>
      simp only [hindV] at hz ⊢
      cases q : cs.find? (isN n) <;> simp only [q] at hz ⊢
      · exact ⟨_, rfl⟩
      · split at hz
        · exact absurd rfl hz
        · rename_i q2
          rw [if_neg q2]
          exact ⟨_, rfl⟩
    | great n m w =>
      simp only [hindV] at hz ⊢
      cases q : cs.find? (isN n) <;> simp only [q] at hz ⊢
      · exact ⟨_, rfl⟩
      · split at hz
        · rename_i q2
          rw [if_pos q2]
          exact ⟨_, rfl⟩
        · exact absurd rfl hz
    | fill n m =>
      simp only [hindV] at hz ⊢
      cases q : cs.find? (isN n) <;> simp only [q] at hz ⊢
      · exact ⟨_, rfl⟩
      · split at hz
        · exact absurd rfl hz
        · rename_i q2
          rw [if_neg q2]
          exact ⟨_, rfl⟩
def sp_gone (K : PySem.W.Frag) : Sp := fun vs H Q _ => ∃ (l r t : Addr) (as ds ts : List Addr) (cs : List Col) (rs : List (List (Key × V))) (chs : List Ch), vs = [.ref l, .ref r, .ref t] ∧ H l = some (.lst (as.map V.ref)) ∧ Cols K H as cs ∧ (∀ c ∈ cs, ColOk c) ∧ HistOk (numb cs) [] ∧
  H r = some (.lst (ds.map V.ref)) ∧ Dicts H ds rs ∧ rs.length ≤ 1000 ∧ (∀ r ∈ rs, RowM (numb cs) r) ∧ H t = some (.lst (ts.map V.ref)) ∧ Chs K H ts chs ∧ (∀ ch ∈ chs, ch.fits = true) ∧ chs.length ≤ 40 ∧
  (∀ (z : Str) (H' : Hp), Same H H' → goneV (numb cs) (numb cs).length (rs.map (rowOf (numb cs))) chs = .inl (.str z) → Q (.str z) H') ∧
  ∀ (l' : Addr) (ds' : List Addr) (rs' : List (List (Key × V))) (H' : Hp), Same H H' → H' l' = some (.lst (ds'.map V.ref)) → Dicts H' ds' rs' → goneV (numb cs) (numb cs).length (rs.map (rowOf (numb cs))) chs = .inr rs' → Q (.ref l') H'
theorem ok_gone (T : Tx K mg) : Callee P w K mg base CX0 15 "_law_gone" ["_law_columns", "_law_rows", "_law_changes"] [] (sp_gone K) := by
  obtain ⟨fdW, FW, bW⟩ := ok_Plain_why (P := P) (w := w) (base := base) T
  obtain ⟨fdC, FC, bC⟩ := ok_Plain_changed (P := P) (w := w) (base := base) T
  obtain ⟨fdR, FR, bR⟩ := ok_Plain_rows (P := P) (w := w) (base := base) T
  obtain ⟨fdI, GI, FI⟩ := ok_Plain_init (P := P) (w := w) (base := base) T
  have bI : Binds K fdI ["self", "history", "rows"] [] := by
    have h := FI.binds1 (ps := ["self", "history", "rows"]) 3 1 (by intro z; cases z) rfl (fun TT kV doc pm an cdv ct us its h1 h2 => ?_)
    · obtain ⟨ds, v, b⟩ := h
      cases ds with
      | nil => exact b
      | cons _ _ => cases v
    · match us, h1, its, h2 with
      | [u0, u1, u2], _, [i0], _ => exact ⟨_, rfl, rfl⟩
  obtain ⟨fdH, GH, FH⟩ := ok_Hist_initB (P := P) (w := w) (base := base) T
  have bH : ∃ ds, Vals [V.ref (He.dflAt ("History", some "__init__") 0 K)] ds ∧ Binds K fdH ["self", "columns", "changes"] ds := by
    have h := FH.binds1 (ps := ["self", "columns", "changes"]) 2 0 (by intro z; cases z) rfl (fun TT kV doc pm an cdv ct us its h1 h2 => ?_)
    · exact h
    · match us, h1, its, h2 with
      | [u0, u1], _, [i0], _ => exact ⟨_, rfl, rfl⟩
  obtain ⟨dsH, vH, bH⟩ := bH
  have hT0 := emptyTupB_ok (ex_History___init___0 T)
  refine mkCallee (fd__law_gone T) (mg__law_gone T) sc__law_gone (fun _ _ _ _ _ _ us hl => match us, hl with | [_, _, _], _ => rfl) (fun vs H Q E h => ?_) (fun cdv A outer s H vs Q E hr h => ?_)
  · obtain ⟨l, r, t, as, ds, ts, cs, rs, chs, rfl, _⟩ := h
    rfl
  obtain ⟨l, r, t, as, ds, ts, cs, rs, chs, rfl, hl, hc, hok, ho, hr0, hds, hlen, hrow, ht, hch, hfit, h40, kw, kr⟩ := h
  have nd := sc__law_gone.nd
  have hr1 : Room 1 _ := hr.mono (by decide)
  have hr7 : Room 7 _ := hr.mono (by decide)
  have hr12 : Room 12 _ := hr.mono (by decide)
  refine ⟨_, (pss_cons (ps_set (i := 3) nd rfl (Or.inl rfl) (pe_make (mk_Plain T) GI hr7 (by rfl) (mg_Plain T) bI .nil pass0 (pa_cons (pe_make (mk_History T) GH hr12 (by rfl) (mg_History T) bH vH pass0 (pa_cons (pv 0) pa_nil)) (pa_cons (pv 1) pa_nil))))
        (pss_cons (ps_for PassesOwn.never rfl (pi_list (pv 2)) (pg_name (i := 4) nd rfl (Or.inl rfl)) (pss_cons (ps_set (i := 5) nd rfl (Or.inl rfl) (pe_meth (pv 3) (cl_Plain T) (me_Plain_why_not T) FW hr7 bW .nil pass0 (pa_cons (pv 4) pa_nil)))
        (pss_cons (ps_if (pt_cmpR op_notN (pv 5) pe_non (nomark _)) (pss_one (ps_ret (pv 5))) pss_nil)
        (pss_one (ps_set (i := 3) nd rfl (Or.inl rfl) (pe_meth (pv 3) (cl_Plain T) (me_Plain_changed T) FC hr bC .nil pass0 (pa_cons (pv 4) pa_nil)))))))
        (pss_one (ps_ret (pe_meth0 (pv 3) (cl_Plain T) (me_Plain_rows T) FR hr1 bR .nil pass0))))), ?_⟩
  refine q_asgX ⟨_, rfl, ?_⟩
  intro x dx nx ndx ne
  have s1 : Same H (upd (upd H dx (.own x)) x (.ins (He.ga K "History") dx [])) := fun b' o' e' => by
    rw [upd_ne (ne_of_none e' nx), upd_ne (ne_of_none e' ndx)]
    exact e'
  refine ⟨x, dx, l, He.dflAt ("History", some "__init__") 0 K, as, [], cs, [], true, rfl, upd_same, s1 _ _ hl, hc.keep s1, hT0 _, .nil, hok, ho, fun H2 hN kp => ⟨rfl, ?_⟩⟩
  have s02 : Same H H2 := fun b' o' e' => kp b' o' (ne_of_none e' nx) (s1 _ _ e')
  have hA := hN.at_
  clear kp s1
  refine ⟨_, rfl, ?_⟩
  intro y dy ny ndy ney
  have s3 : Same H2 (upd (upd H2 dy (.own y)) y (.ins (He.ga K "Plain") dy [])) := fun b' o' e' => by
    rw [upd_ne (ne_of_none e' ny), upd_ne (ne_of_none e' ndy)]
    exact e'
  have ny0 : H y = none := s02.free ny
  refine ⟨y, dy, x, r, ds, numb cs, [], rs, rfl, upd_same, hA.keep s3, ho, s3 _ _ (s02 _ _ hr0), (hds.keep s02).keep s3, hlen, hrow, fun H3 hP u3 => ⟨rfl, ?_⟩⟩
  have s03 : Same H H3 := fun b' o' e' => u3 b' o' (ne_of_none e' ny0) (s3 _ _ (s02 _ _ e'))
  have hP : PlainAt K H3 y x (numb cs) [] (rs.map (rowOf (numb cs))) := hP
  clear u3 s3 hA hN ne ney nx ndx ny ndy
  have hrowD : ∀ q ∈ rs.map (rowOf (numb cs)), RowD (colsE (numb cs) chs 0) q := fun q hq => by
    obtain ⟨q0, hq0, rfl⟩ := List.mem_map.mp hq
    exact rowOf_row (hrow q0 hq0)
  have hlen2 : (rs.map (rowOf (numb cs))).length ≤ 1000 := by rw [List.length_map]; exact hlen
  generalize rs.map (rowOf (numb cs)) = rs0 at hP hrowD hlen2 kw kr
  generalize numb cs = cn at hP hrowD kw kr ho
  dsimp only
  refine ⟨_, rfl, t, rfl, ⟨_, sqL_of (s03 _ _ ht)⟩, ?_⟩
  refine for_list (xs := ts.map V.ref) (fun j σ H' => ∃ (p h' : Addr) (rs1 : List (List (Key × V))) (x4 x5 : Option V), σ = [some (.ref l), some (.ref r), some (.ref t), some (.ref p), x4, x5] ∧ Same H3 H' ∧ PlainAt K H' p h' cn (chs.take j) rs1 ∧ HistOk cn (chs.take j) ∧ rs1.length ≤ 1000 ∧ (∀ q ∈ rs1, RowD (colsE cn chs j) q) ∧ goneV cn cn.length rs0 chs = goneV (colsE cn chs j) (numE cn chs j) rs1 (chs.drop j)) ⟨y, x, rs0, _, _, rfl, Same.refl _, hP, ho, hlen2, hrowD, rfl⟩ (fun j σ H' _ q => ?_) ?_ ?_
  · obtain ⟨_, _, _, _, _, _, s', _⟩ := q
    exact sqL_of (s' _ _ (s03 _ _ ht))
  · rintro j z σ H' hz ⟨p, h', rs1, x4, x5, rfl, s', hP', oj, hl1, hrD, hgo⟩
    rw [List.getElem?_map, Option.map_eq_some_iff] at hz
    obtain ⟨tc, htc, rfl⟩ := hz
    obtain ⟨ch, hcj, hat0⟩ := hch.at_ htc
    have hjl : j < chs.length := (List.getElem?_eq_some_iff.mp hcj).1
    have hat := hat0.keep (s03.trans s')
    have ft := hfit ch (List.mem_of_getElem? hcj)
    have hlt : (chs.take j).length = j := by rw [List.length_take]; omega
    have edrop : chs.drop j = ch :: chs.drop (j + 1) := by
      obtain ⟨hj, e⟩ := List.getElem?_eq_some_iff.mp hcj
      rw [List.drop_eq_getElem_cons hj, e]
    rw [edrop] at hgo
    obtain ⟨dxp, rl, dsl, hp, hph, hpr, hpd⟩ := id hP'
    have nw : (plainFs h' rl).lookup ("why_not" : Str) = none := plainFs_no (by decide +kernel) (by decide +kernel)
    have nc : (plainFs h' rl).lookup ("changed" : Str) = none := plainFs_no (by decide +kernel) (by decide +kernel)
    have hrows : ∀ q ∈ rs1, RowD (colsE cn (chs.take j) (chs.take j).length) q := fun q hq => by
      rw [colsE_take]
      exact hrD q hq
    refine q_asgX ⟨_, rfl, p, dxp, plainFs h' rl, rfl, hp, nw, _, rfl, p, tc, h', cn, chs.take j, rs1, ch, rfl, hP', oj, hl1, hrows, hat, ft, fun H5 s5 => ?_⟩
    rw [colsE_take]
    dsimp only
    have hgo2 : goneV cn cn.length rs0 chs = if whyP (colsE cn chs j) ch rs1 = .non then goneV (behind (colsE cn chs j) ch (numE cn chs j)) (numThen ch (numE cn chs j)) (rs1.map (nextR (colsE cn chs j) ch)) (chs.drop (j + 1)) else .inl (whyP (colsE cn chs j) ch rs1) := hgo
    have s05 := s'.trans s5
    by_cases hw : whyP (colsE cn chs j) ch rs1 = .non
    · rw [if_pos hw] at hgo2
      rw [hw]
      refine ⟨_, rfl, rfl, _, rfl, iteNS rfl (nxt ?_)⟩
      dsimp only
      obtain ⟨hz, hthen⟩ := whyP_non hw
      refine ⟨_, rfl, p, dxp, plainFs h' rl, rfl, s5 _ _ hp, nc, _, rfl, p, tc, h', cn, chs.take j, rs1, ch, rfl, hP'.keep s5, oj, hl1, hrows, hat.keep s5, ft, by rw [colsE_take]; exact hw, by rw [hlt]; omega, fun p' h'' H6 np' s6 hP6 => ?_⟩
      have et : chs.take j ++ [ch] = chs.take (j + 1) := by
        rw [List.take_add_one, hcj]
        rfl
      rw [colsE_take, et] at hP6
      have o6 : HistOk cn (chs.take (j + 1)) := by
        rw [← et]
        exact oj.app ft (by rw [colsE_take]; exact hz) (by rw [hlt]; omega)
      have gj := oj.f.good oj.g (chs.take j).length (Nat.le_refl _)
      have gj : Good (colsE cn (chs.take j) (chs.take j).length) (numE cn (chs.take j) (chs.take j).length) := gj
      rw [colsE_take] at gj
      refine ⟨p', h'', rs1.map (nextR (colsE cn chs j) ch), _, _, rfl, s05.trans s6, hP6, o6, by rw [List.length_map]; exact hl1, fun q hq => ?_, ?_⟩
      · obtain ⟨q0, hq0, rfl⟩ := List.mem_map.mp hq
        rw [colsE_succ hcj]
        have e : numE cn (chs.take j) (chs.take j).length = numE cn chs j := by
          unfold numE
          rw [List.take_length]
        rw [e] at gj
        exact rowThen_row gj ft hz (hrD q0 hq0) (hthen q0 hq0)
      · rw [hgo2, colsE_succ hcj, numE_succ hcj]
    · rw [if_neg hw] at hgo2
      obtain ⟨z, ez⟩ := whyP_scal hw
      rw [ez] at hgo2 ⊢
      refine ⟨_, rfl, rfl, _, rfl, ?_⟩
      rw [show (!decide (V.str z = V.non)) = true by rw [decide_eq_false (by intro z; cases z)]; rfl]
      exact iteT ⟨_, rfl, kw z H5 (s03.trans s05) hgo2⟩
  · rintro σ H' ⟨p, h', rs1, x4, x5, rfl, s', hP', oj, hl1, hrD, hgo⟩
    rw [List.length_map, hch.len, List.drop_length] at hgo
    have hgo : goneV cn cn.length rs0 chs = .inr rs1 := hgo
    obtain ⟨dxp, rl, dsl, hp, hph, hpr, hpd⟩ := id hP'
    have nr : (plainFs h' rl).lookup ("rows" : Str) = none := plainFs_no (by decide +kernel) (by decide +kernel)
    dsimp only
    exact ⟨_, rfl, p, dxp, plainFs h' rl, rfl, hp, nr, p, h', cn, _, rs1, rfl, hP', hl1, fun l' ds' H5 nl s5 hl5 hds5 => kr l' ds' rs1 H5 (s03.trans (s'.trans s5)) hl5 hds5 hgo⟩
-- needs: Column.__init__ changed_column column_named columns_of_editions is_way History.__init__ +PLNU
/-! what an expression of displays makes, told by a predicate; Fr: new addresses -/
abbrev VP := V → Hp → Prop
def MonV (D : VP) : Prop := ∀ v H H', Same H H' → D v H → D v H'
def MkV (B : Hp → Prop) (σ : L2.St) (te : TE) (D : VP) : Prop := ∀ (H : Hp) (Q : VK), B H → (∀ v H', Same H H' → D v H' → Q v H') → te σ H Q
def AllV : List V → List VP → Hp → Prop
  | [], [], _ => True
  | v :: vs, D :: Ds, H => D v H ∧ AllV vs Ds H
  | _, _, _ => False
def MkL (B : Hp → Prop) (σ : L2.St) (ta : TA) (Ds : List VP) : Prop := ∀ (H : Hp) (Q : List V → Hp → Prop), B H → (∀ vs H', Same H H' → AllV vs Ds H' → Q vs H') → ta σ H Q
def DLst (Fr : Addr → Prop) (Ds : List VP) : VP := fun v H => ∃ p vs, v = .ref p ∧ Fr p ∧ H p = some (.lst vs) ∧ AllV vs Ds H
def DTupC (xs : List V) : VP := fun v H => ∃ p, v = .ref p ∧ H p = some (.tup xs)
def DDic (kvs : List (Key × V)) : VP := fun v H => ∃ p, v = .ref p ∧ H p = some (.dK kvs)
def DCo (K : PySem.W.Frag) (c : Col) : VP := fun v H => ∃ a, v = .ref a ∧ ColA K H a c
def DEq (x : V) : VP := fun v _ => v = x
theorem AllV.len : ∀ {vs : List V} {Ds : List VP} {H : Hp}, AllV vs Ds H → vs.length = Ds.length
  | [], [], _, _ => rfl
  | _ :: _, _ :: _, _, h => congrArg (· + 1) (AllV.len h.2)
  | [], _ :: _, _, h => h.elim
  | _ :: _, [], _, h => h.elim
/-- from predicates to predicates, each at its place -/
theorem AllV.imp {H H' : Hp} : ∀ {vs : List V} {Ds Es : List VP}, Ds.length = Es.length → (∀ (i : Nat) (D E : VP) (v : V), Ds[i]? = some D → Es[i]? = some E → D v H → E v H') → AllV vs Ds H → AllV vs Es H'
  | [], [], [], _, _, _ => trivial
  | v :: vs, D :: Ds, E :: Es, hl, f, h => ⟨f 0 D E v rfl rfl h.1, AllV.imp (Nat.succ.inj hl) (fun i D' E' v' a b => f (i + 1) D' E' v' a b) h.2⟩
  | [], _ :: _, _, _, _, h => h.elim
  | _ :: _, [], _, _, _, h => h.elim
  | [], [], _ :: _, hl, _, _ => by cases hl
  | _ :: _, _ :: _, [], hl, _, _ => by cases hl
theorem AllV.imp1 {H H' : Hp} {vs : List V} {Ds : List VP} (f : ∀ D ∈ Ds, ∀ v, D v H → D v H') (h : AllV vs Ds H) : AllV vs Ds H' :=
  h.imp rfl fun i D E v a b d => by
    obtain rfl := Option.some.inj (a.symm.trans b)
    exact f D (List.mem_of_getElem? a) v d
theorem mon_lstV {Fr : Addr → Prop} {Ds : List VP} (h : ∀ D ∈ Ds, MonV D) : MonV (DLst Fr Ds) := fun v H H' s ⟨p, vs, a, b, c, d⟩ => ⟨p, vs, a, b, s _ _ c, d.imp1 fun D hD v' => h D hD v' H H' s⟩
theorem mon_tupV {xs : List V} : MonV (DTupC xs) := fun _ _ _ s ⟨p, a, b⟩ => ⟨p, a, s _ _ b⟩
theorem mon_dicV {kvs : List (Key × V)} : MonV (DDic kvs) := fun _ _ _ s ⟨p, a, b⟩ => ⟨p, a, s _ _ b⟩
theorem mon_coV {K : PySem.W.Frag} {c : Col} : MonV (DCo K c) := fun _ _ _ s ⟨a, e, h⟩ => ⟨a, e, ColA.keep s h⟩
theorem mon_eqV {x : V} : MonV (DEq x) := fun _ _ _ _ h => h
/-- what stays when a list changes that is none of the new ones -/
def StayV (q : Addr) (D : VP) : Prop := ∀ (v : V) (H : Hp) (zs : List V) (o : HO), H q = some (.lst zs) → D v H → D v (upd H q o)
theorem stay_lstV {Fr : Addr → Prop} {q : Addr} {Ds : List VP} (hq : ¬ Fr q) (h : ∀ D ∈ Ds, StayV q D) : StayV q (DLst Fr Ds) := fun v H zs o hz ⟨p, vs, a, b, c, d⟩ =>
  ⟨p, vs, a, b, by rw [upd_ne (fun z : p = q => hq (by rw [← z]; exact b))]; exact c, d.imp1 fun D hD v' => h D hD v' H zs o hz⟩
theorem stay_tupV {q : Addr} {xs : List V} : StayV q (DTupC xs) := fun v H zs o hz ⟨p, a, b⟩ => ⟨p, a, by rw [upd_ne (fun z => by rw [z, hz] at b; cases b)]; exact b⟩
theorem stay_dicV {q : Addr} {kvs : List (Key × V)} : StayV q (DDic kvs) := fun v H zs o hz ⟨p, a, b⟩ => ⟨p, a, by rw [upd_ne (fun z => by rw [z, hz] at b; cases b)]; exact b⟩
theorem stay_coV {K : PySem.W.Frag} {q : Addr} {c : Col} : StayV q (DCo K c) := fun v H zs o hz ⟨a, e, dx, h⟩ => ⟨a, e, dx, by rw [upd_ne (fun z => by rw [z, hz] at h; cases h)]; exact h⟩
theorem stay_eqV {q : Addr} {x : V} : StayV q (DEq x) := fun _ _ _ _ _ h => h
/-- one address more is kept apart, that was free -/
theorem DLst.apart {Fr Gr : Addr → Prop} {Ds Es : List VP} {v : V} {H : Hp} (hG : ∀ p o, H p = some o → Fr p → Gr p) (hl : Ds.length = Es.length) (he : ∀ (i : Nat) (D E : VP) (v : V), Ds[i]? = some D → Es[i]? = some E → D v H → E v H) (h : DLst Fr Ds v H) : DLst Gr Es v H := by
  obtain ⟨p, vs, a, b, c, d⟩ := h
  exact ⟨p, vs, a, hG p _ c b, c, d.imp hl he⟩
section
variable {B : Hp → Prop} {σ : L2.St} {te : TE} {ta : TA} {D : VP} {Ds : List VP}
theorem mkl_nil : MkL B σ tNil [] := fun H Q _ k => k [] H (Same.refl _) trivial
theorem mkl_cons (hB : ∀ H H', Same H H' → B H → B H') (hm : MonV D) (h : MkV B σ te D) (t : MkL B σ ta Ds) : MkL B σ (tCons te ta) (D :: Ds) := fun H Q b k =>
  h H _ b fun v H1 s1 d => t H1 _ (hB _ _ s1 b) fun vs H2 s2 ds => k (v :: vs) H2 (s1.trans s2) ⟨hm v H1 H2 s2 d, ds⟩
theorem mkv_lst {Fr : Addr → Prop} (hB : ∀ H H', Same H H' → B H → B H') (hF : ∀ H p, B H → H p = none → Fr p) (hm : ∀ D ∈ Ds, MonV D) (hz : Ds.length ≤ 1000) (t : MkL B σ ta Ds) : MkV B σ (tLst ta) (DLst Fr Ds) := fun H Q b k =>
  t H _ b fun vs H1 s1 ds => ⟨by
      have e : sizeLine = 16777216 := by decide
      rw [ds.len]
      omega, fun p np => k (.ref p) _ (s1.trans (same_new np)) ⟨p, vs, rfl, hF H1 p (hB _ _ s1 b) np, upd_same, ds.imp1 fun D hD v d => hm D hD v _ _ (same_new np) d⟩⟩
theorem mkv_tup {xs : List V} (h : ∀ (H : Hp) (R : List V → Hp → Prop), R xs H → ta σ H R) (hz : xs.length ≤ 1000) : MkV B σ (tTup ta) (DTupC xs) := fun H Q b k =>
  h H _ ⟨by
      have e : sizeLine = 16777216 := by decide
      omega, fun p np => k (.ref p) _ (same_new np) ⟨p, rfl, upd_same⟩⟩
theorem mkv_dic {trs : List (TE × TE)} {kvs : List (Key × V)} (h : ∀ (H : Hp) (R : List (V × V) → Hp → Prop), R (kvs.map fun kv => (kV kv.1, kv.2)) H → tPairs trs σ H R) (hz : kvs.length ≤ 15) (nd : (kvs.map (·.1)).Nodup) : MkV B σ (tDisp trs) (DDic kvs) := fun H Q b k p np =>
  h _ _ ⟨upd_same, kvs, rfl, hz, by
    have e : mergeK [] kvs = kvs := by
      have := merge_new kvs [] (by rw [List.nil_append]; exact nd)
      rw [List.nil_append] at this
      exact this
    rw [upd_upd, e]
    exact k (.ref p) _ (same_new np) ⟨p, rfl, upd_same⟩⟩
theorem mkv_var {i : Nat} {v : V} (hv : σ[i]? = some (some v)) (h : ∀ H, B H → D v H) : MkV B σ (tVar i) D := fun H Q b k => ⟨v, hv, k v H (Same.refl _) (h H b)⟩
theorem mkv_c {x : V} : MkV B σ (tC x) (DEq x) := fun H Q b k => k x H (Same.refl _) rfl
end
theorem allV_cols {K : PySem.W.Frag} {H : Hp} : ∀ {vs : List V} {cs : List Col}, AllV vs (cs.map (DCo K)) H → ∃ as : List Addr, vs = as.map V.ref ∧ Cols K H as cs
  | [], [], _ => ⟨[], rfl, .nil⟩
  | v :: vs, c :: cs, h => by
    obtain ⟨⟨a, e, ha⟩, h2⟩ := h
    obtain ⟨as, e2, hc⟩ := allV_cols h2
    exact ⟨a :: as, by rw [e, e2]; rfl, .cons ha hc⟩
  | [], _ :: _, h => h.elim
  | _ :: _, [], h => h.elim
theorem allV_dicts {H : Hp} : ∀ {vs : List V} {rs : List (List (Key × V))}, AllV vs (rs.map DDic) H → ∃ ds : List Addr, vs = ds.map V.ref ∧ Dicts H ds rs
  | [], [], _ => ⟨[], rfl, rfl, fun i d r e => by simp at e⟩
  | v :: vs, r :: rs, h => by
    obtain ⟨⟨a, e, ha⟩, h2⟩ := h
    obtain ⟨ds, e2, hc⟩ := allV_dicts h2
    refine ⟨a :: ds, by rw [e, e2]; rfl, congrArg (· + 1) hc.1, fun i d q h1 h2 => ?_⟩
    cases i with
    | zero =>
      obtain rfl := Option.some.inj (show some a = some d from h1)
      obtain rfl := Option.some.inj (show some r = some q from h2)
      exact ha
    | succ i => exact hc.2 i d q h1 h2
  | [], _ :: _, h => h.elim
  | _ :: _, [], h => h.elim
theorem allV_chs {K : PySem.W.Frag} {H : Hp} : ∀ {vs : List V} {chs : List Ch}, AllV vs (chs.map fun ch => DTupC ch.toV) H → ∃ ts : List Addr, vs = ts.map V.ref ∧ Chs K H ts chs
  | [], [], _ => ⟨[], rfl, .nil⟩
  | v :: vs, c :: cs, h => by
    obtain ⟨⟨a, e, ha⟩, h2⟩ := h
    obtain ⟨ts, e2, hc⟩ := allV_chs h2
    exact ⟨a :: ts, by rw [e, e2]; rfl, .cons (sqT_of ha) hc⟩
  | [], _ :: _, h => h.elim
  | _ :: _, [], h => h.elim
/-- columns that can be a beginning -/
theorem hist_begin {cs : List Col} (ok : ∀ c ∈ cs, ColOk c) (one : 1 ≤ cs.length) (six : cs.length ≤ 6) (nms : (cs.map (·.name)).Nodup) : HistOk (numb cs) [] := by
  have pl : Placed (numb cs) := fun i c h => by
    unfold numb at h
    rw [List.getElem?_mapIdx, Option.map_eq_some_iff] at h
    obtain ⟨c0, _, rfl⟩ := h
    rfl
  refine ⟨pl, ⟨fun c hc => ?_, by rw [numb_len]; exact one, by rw [numb_len]; exact six, by rw [numb_names]; exact nms, by omega⟩, fun i ch h => by simp at h, Nat.zero_le _⟩
  obtain ⟨i, hi⟩ := List.mem_iff_getElem?.mp hc
  have hl := (List.getElem?_eq_some_iff.mp hi).1
  have en := pl i c hi
  refine ⟨?_, by rw [en]; omega⟩
  unfold numb at hi
  rw [List.getElem?_mapIdx, Option.map_eq_some_iff] at hi
  obtain ⟨c0, h0, rfl⟩ := hi
  have k := ok c0 (List.mem_of_getElem? h0)
  exact ⟨k.nm, k.gr, k.df, by show (0 : Int) ≤ (i : Nat); omega⟩
theorem pl_lstV {ta : TA} {σ : L2.St} {H : Hp} {Q : VK} (h : ta σ H fun xs H1 => xs.length ≤ sizeLine ∧ ∀ p, H1 p = none → Q (.ref p) (upd H1 p (.lst xs))) : tLst ta σ H Q := h
theorem pl_parV {ta : TA} {i j : Nat} {U : TS} {D : Ends} {σ : L2.St} {H : Hp} (h : ta σ H fun vs H1 => ∃ v w, vs = [v, w] ∧ U D ((σ.set i (some v)).set j (some w)) H1) : tSeq (tPar i j ta) U D σ H := h

/-! a block, then the rest: what holds between them is named -/
theorem s_seq {t U : TS} {D : Ends} {σ : L2.St} {H : Hp} (P : L2.St → Hp → Prop) (k : ∀ σ' H', P σ' H' → U D σ' H') (h : (∀ σ' H', P σ' H' → U D σ' H') → tSeq t U D σ H) : tSeq t U D σ H := h k
theorem pl_rop {σ : L2.St} {H : Hp} {D : Ends} {ta tb : TE} {r : V → V → Hp → VK → Prop} (h : ta σ H fun x H1 => tb σ H1 fun y H2 => r x y H2 D.rt) : tRet (tOp r ta tb) D σ H := h
theorem pl_ifb {σ : L2.St} {H : Hp} {D : Ends} {X : TE} {r : List V → Hp → VK → Prop} {t u U : TS} (h : X σ H fun v H1 => r [v] H1 fun z H2 => ∃ b, z = .bl b ∧ (if b = true then t { D with nx := U D } σ H2 else u { D with nx := U D } σ H2)) : tSeq (tIfS (tB (tCB r (tCons X tNil))) t u) U D σ H := h

/-! _law_cases: twelve known cases -/
structure CaseT where
  cs : List Col
  rs : List (List (Key × V))
  chs : List Ch
  due : Str ⊕ List (List (Key × V))
def cA : Col := ⟨"a", 2, .int 0, 0⟩
def cZ : Col := ⟨"z", 1, .int 0, 0⟩
def cB : Col := ⟨"a", 2, .int 2, 0⟩
def case1 : CaseT := ⟨[cA], [[(Sum.inr "a", V.int 2)], [(Sum.inr "a", V.non)]], [.great "a" 1 "cut", .great "a" 2 "cut"], .inr [[(Sum.inr "a", V.int 1)], [(Sum.inr "a", V.non)]]⟩
def case2 : CaseT := ⟨[cA], [[(Sum.inr "a", V.int 2)]], [.great "a" 1 "none", .fill "a" 0], .inr [[(Sum.inr "a", V.int 0)]]⟩
def case3 : CaseT := ⟨[cA, cZ], [[(Sum.inr "a", V.int 1), (Sum.inr "z", V.int 0)]], [.add "b" 1 (.int 0), .dflt "b" (.int 1)], .inr [[(Sum.inr "a", V.int 1), (Sum.inr "z", V.int 0), (Sum.inr "b", V.int 0)]]⟩
def case4 : CaseT := ⟨[cA, cZ], [[(Sum.inr "a", V.int 1), (Sum.inr "z", V.int 0)]], [.drop "a", .add "a" 2 (.int 0)], .inr [[(Sum.inr "z", V.int 0), (Sum.inr "a", V.int 0)]]⟩
def case5 : CaseT := ⟨[cA, cZ], [[(Sum.inr "a", V.int 1), (Sum.inr "z", V.int 0)]], [.rename "a" "t", .rename "z" "a", .rename "t" "z"], .inr [[(Sum.inr "z", V.int 1), (Sum.inr "a", V.int 0)]]⟩
def case6 : CaseT := ⟨[cA], [[(Sum.inr "a", V.int 1)], [(Sum.inr "a", V.int 2)]], [.great "a" 1 "refuse"], .inl "row"⟩
def case7 : CaseT := ⟨[cA], [[(Sum.inr "a", V.int 1)], [(Sum.inr "a", V.non)]], [.great "a" 1 "refuse", .fill "a" 1], .inr [[(Sum.inr "a", V.int 1)], [(Sum.inr "a", V.int 1)]]⟩
def case8 : CaseT := ⟨[cB], [[(Sum.inr "a", V.int 0)]], [.great "a" 1 "refuse"], .inl "default"⟩
def case9 : CaseT := ⟨[cB], [[(Sum.inr "a", V.int 0)]], [.great "a" 1 "none", .rename "a" "b"], .inr [[(Sum.inr "b", V.int 0)]]⟩
def case10 : CaseT := ⟨[cA], [[(Sum.inr "a", V.non)]], [.fill "a" 2, .great "a" 1 "refuse"], .inl "row"⟩
def case11 : CaseT := ⟨[cA], [], [.great "a" 1 "refuse", .drop "a"], .inl "only"⟩
def case12 : CaseT := ⟨[cA], [[(Sum.inr "a", V.int 0)]], [.add "b" 2 (.int 2), .dflt "b" (.int 0), .great "b" 1 "refuse"], .inl "row"⟩
def casesL : List CaseT := [case1, case2, case3, case4, case5, case6, case7, case8, case9, case10, case11, case12]
def DueD (Fr : Addr → Prop) : Str ⊕ List (List (Key × V)) → VP
  | .inl z => DEq (.str z)
  | .inr rs => DLst Fr (rs.map DDic)
def CaseD (K : PySem.W.Frag) (Fr : Addr → Prop) (c : CaseT) : VP := DLst Fr [DLst Fr (c.cs.map (DCo K)), DLst Fr (c.rs.map DDic), DLst Fr (c.chs.map fun ch : Ch => DTupC ch.toV), DueD Fr c.due]
theorem mon_colsV {K : PySem.W.Frag} {cs : List Col} : ∀ D ∈ cs.map (DCo K), MonV D := fun D h => by
  obtain ⟨c, _, rfl⟩ := List.mem_map.mp h
  exact mon_coV
theorem mon_dicsV {rs : List (List (Key × V))} : ∀ D ∈ rs.map DDic, MonV D := fun D h => by
  obtain ⟨c, _, rfl⟩ := List.mem_map.mp h
  exact mon_dicV
theorem mon_chsV {chs : List Ch} : ∀ D ∈ chs.map (fun ch : Ch => DTupC ch.toV), MonV D := fun D h => by
  obtain ⟨c, _, rfl⟩ := List.mem_map.mp h
  exact mon_tupV
theorem mon_dueV {Fr : Addr → Prop} {d : Str ⊕ List (List (Key × V))} : MonV (DueD Fr d) := by
  cases d with
  | inl z => exact mon_eqV
  | inr rs => exact mon_lstV mon_dicsV
theorem mon_caseV {K : PySem.W.Frag} {Fr : Addr → Prop} {c : CaseT} : MonV (CaseD K Fr c) := mon_lstV fun D h => by
  rcases List.mem_cons.mp h with rfl | h
  · exact mon_lstV mon_colsV
  rcases List.mem_cons.mp h with rfl | h
  · exact mon_lstV mon_dicsV
  rcases List.mem_cons.mp h with rfl | h
  · exact mon_lstV mon_chsV
  rcases List.mem_cons.mp h with rfl | h
  · exact mon_dueV
  · cases h
theorem stay_caseV {K : PySem.W.Frag} {Fr : Addr → Prop} {q : Addr} {c : CaseT} (hq : ¬ Fr q) : StayV q (CaseD K Fr c) := stay_lstV (Fr := Fr) (q := q) (Ds := [DLst Fr (c.cs.map (DCo K)), DLst Fr (c.rs.map DDic), DLst Fr (c.chs.map fun ch : Ch => DTupC ch.toV), DueD Fr c.due]) hq fun D h => by
  rcases List.mem_cons.mp h with rfl | h
  · exact stay_lstV (Fr := Fr) (q := q) (Ds := c.cs.map (DCo K)) hq fun D h => by
      obtain ⟨c, _, rfl⟩ := List.mem_map.mp h
      exact stay_coV
  rcases List.mem_cons.mp h with rfl | h
  · exact stay_lstV (Fr := Fr) (q := q) (Ds := c.rs.map DDic) hq fun D h => by
      obtain ⟨c, _, rfl⟩ := List.mem_map.mp h
      exact stay_dicV
  rcases List.mem_cons.mp h with rfl | h
  · exact stay_lstV (Fr := Fr) (q := q) (Ds := c.chs.map fun ch : Ch => DTupC ch.toV) hq fun D h => by
      obtain ⟨c, _, rfl⟩ := List.mem_map.mp h
      exact stay_tupV
  rcases List.mem_cons.mp h with rfl | h
  · cases c.due with
    | inl z => exact stay_eqV
    | inr rs =>
      refine stay_lstV (Fr := Fr) (q := q) (Ds := rs.map DDic) hq fun D h => ?_
      obtain ⟨c, _, rfl⟩ := List.mem_map.mp h
      exact stay_dicV
  · cases h
theorem DLst.apart1 {Fr Gr : Addr → Prop} {Ds : List VP} {v : V} {H : Hp} (hG : ∀ p o, H p = some o → Fr p → Gr p) (h : DLst Fr Ds v H) : DLst Gr Ds v H := h.apart hG rfl fun i D E v a b d => by
  obtain rfl := Option.some.inj (a.symm.trans b)
  exact d
theorem CaseD.apart {K : PySem.W.Frag} {Fr Gr : Addr → Prop} {c : CaseT} {v : V} {H : Hp} (hG : ∀ p o, H p = some o → Fr p → Gr p) (h : CaseD K Fr c v H) : CaseD K Gr c v H := by
  obtain ⟨p, vs, a, b, e, d⟩ := h
  refine ⟨p, vs, a, hG p _ e b, e, ?_⟩
  match vs, d with
  | [v1, v2, v3, v4], ⟨d1, d2, d3, d4, _⟩ =>
    refine ⟨d1.apart1 hG, d2.apart1 hG, d3.apart1 hG, ?_, trivial⟩
    revert d4
    cases c.due with
    | inl z => exact id
    | inr rs => exact fun d4 => DLst.apart1 hG d4
theorem AllV.snoc {H : Hp} {D : VP} {v : V} (d : D v H) : ∀ {vs : List V} {Ds : List VP}, AllV vs Ds H → AllV (vs ++ [v]) (Ds ++ [D]) H
  | [], [], _ => ⟨d, trivial⟩
  | _ :: _, _ :: _, h => ⟨h.1, AllV.snoc d h.2⟩
  | [], _ :: _, h => h.elim
  | _ :: _, [], h => h.elim
section
variable {K : PySem.W.Frag} {B : Hp → Prop} {Fr : Addr → Prop} {σ : L2.St}
theorem mk_cols {ta : TA} {cs : List Col} (hB : ∀ H H', Same H H' → B H → B H') (hF : ∀ H p, B H → H p = none → Fr p) (hz : cs.length ≤ 1000) (t : MkL B σ ta (cs.map (DCo K))) : MkV B σ (tLst ta) (DLst Fr (cs.map (DCo K))) := mkv_lst hB hF mon_colsV (by rw [List.length_map]; exact hz) t
theorem mk_dics {ta : TA} {rs : List (List (Key × V))} (hB : ∀ H H', Same H H' → B H → B H') (hF : ∀ H p, B H → H p = none → Fr p) (hz : rs.length ≤ 1000) (t : MkL B σ ta (rs.map DDic)) : MkV B σ (tLst ta) (DLst Fr (rs.map DDic)) := mkv_lst hB hF mon_dicsV (by rw [List.length_map]; exact hz) t
theorem mk_chs {ta : TA} {chs : List Ch} (hB : ∀ H H', Same H H' → B H → B H') (hF : ∀ H p, B H → H p = none → Fr p) (hz : chs.length ≤ 1000) (t : MkL B σ ta (chs.map fun ch : Ch => DTupC ch.toV)) : MkV B σ (tLst ta) (DLst Fr (chs.map fun ch : Ch => DTupC ch.toV)) := mkv_lst hB hF mon_chsV (by rw [List.length_map]; exact hz) t
theorem mk_case {c : CaseT} {t1 t2 t3 t4 : TE} (hB : ∀ H H', Same H H' → B H → B H') (hF : ∀ H p, B H → H p = none → Fr p) (h1 : MkV B σ t1 (DLst Fr (c.cs.map (DCo K)))) (h2 : MkV B σ t2 (DLst Fr (c.rs.map DDic))) (h3 : MkV B σ t3 (DLst Fr (c.chs.map fun ch : Ch => DTupC ch.toV))) (h4 : MkV B σ t4 (DueD Fr c.due)) :
    MkV B σ (tLst (tCons t1 (tCons t2 (tCons t3 (tCons t4 tNil))))) (CaseD K Fr c) :=
  mkv_lst hB hF (fun D h => by
    rcases List.mem_cons.mp h with rfl | h
    · exact mon_lstV mon_colsV
    rcases List.mem_cons.mp h with rfl | h
    · exact mon_lstV mon_dicsV
    rcases List.mem_cons.mp h with rfl | h
    · exact mon_lstV mon_chsV
    rcases List.mem_cons.mp h with rfl | h
    · exact mon_dueV
    · cases h) (by show 4 ≤ 1000; decide) (mkl_cons hB (mon_lstV mon_colsV) h1 (mkl_cons hB (mon_lstV mon_dicsV) h2 (mkl_cons hB (mon_lstV mon_chsV) h3 (mkl_cons hB mon_dueV h4 mkl_nil))))
/-- Column(name, greatest, default) -/
theorem mkv_colD {n : Str} {g : Int} {d : V} {E : XK} (h1 : isNm (.str n) = true) (h2 : isGr (.int g) = true) (h3 : isIn g d = true) : MkV B σ (tMake (He.ga K "Column") (sp_Col_init K) [V.int 0] E (tCons (tC (.str n)) (tCons (tC (.int g)) (tCons (tC d) tNil)))) (DCo K ⟨n, g, d, 0⟩) := fun H Q b k => by
  intro x dx nx ndx ne
  refine ⟨x, dx, n, g, 0, d, rfl, upd_same, h1, h2, h3, Int.le_refl 0, fun H' hA kp => ⟨rfl, ?_⟩⟩
  refine k (.ref x) H' (fun b' o' e' => kp b' o' (ne_of_none e' nx) ?_) ⟨x, rfl, hA⟩
  rw [upd_ne (ne_of_none e' nx), upd_ne (ne_of_none e' ndx)]
  exact e'
end
theorem MkV.run {B : Hp → Prop} {σ : L2.St} {te : TE} {D : VP} (h : MkV B σ te D) {H : Hp} {Q : VK} (b : B H) (k : ∀ v H', Same H H' → D v H' → Q v H') : te σ H Q := h H Q b k
theorem MkL.run {B : Hp → Prop} {σ : L2.St} {ta : TA} {Ds : List VP} (h : MkL B σ ta Ds) {H : Hp} {Q : List V → Hp → Prop} (b : B H) (k : ∀ vs H', Same H H' → AllV vs Ds H' → Q vs H') : ta σ H Q := h H Q b k
theorem pl_arg1 {te : TE} {σ : L2.St} {H : Hp} {R : List V → Hp → Prop} (h : te σ H fun v H1 => R [v] H1) : tCons te tNil σ H R := h
def sp_cases (K : PySem.W.Frag) : Sp := fun vs H Q _ => vs = [] ∧ ∀ (l : Addr) (us : List V) (H' : Hp), Same H H' → H' l = some (.lst us) → AllV us (casesL.map (CaseD K fun p => H p = none)) H' → H l = none → Q (.ref l) H'
theorem ok_cases (T : Tx K mg) : Callee P w K mg base CX0 6 "_law_cases" [] [] (sp_cases K) := by
  obtain ⟨fdI, GI, FI⟩ := ok_Col_init (P := P) (w := w) (base := base) T
  obtain ⟨dsI, vI, bI⟩ := binds_Col3 T FI
  refine mkCallee (fd__law_cases T) (mg__law_cases T) sc__law_cases (fun _ _ _ _ _ _ us hl => match us, hl with | [], _ => rfl) (fun vs H Q E h => ?_) (fun cdv A outer s H vs Q E hr h => ?_)
  · obtain ⟨rfl, _⟩ := h
    rfl
  obtain ⟨rfl, k⟩ := h
  have nd := sc__law_cases.nd
  refine ⟨_, (pss_cons (ps_par (i := 0) (j := 1) rfl nd rfl rfl (by decide) rfl rfl (pa_cons (pe_make (mk_Column T) GI hr (by rfl) (mg_Column T) bI vI pass0 (pa_cons pe_str (pa_cons pe_int (pa_cons pe_int pa_nil)))) (pa_cons (pe_make (mk_Column T) GI hr (by rfl) (mg_Column T) bI vI pass0 (pa_cons pe_str (pa_cons pe_int (pa_cons pe_int pa_nil)))) pa_nil)) (by rfl))
        (pss_cons (ps_set (i := 2) nd rfl (Or.inl rfl) (pe_lst (pa_cons (pe_lst (pa_cons (pe_lst (pa_cons (pv 0) pa_nil)) (pa_cons (pe_lst (pa_cons (pe_disp (pps_cons pe_str pe_int pps_nil) (by rfl) (by rfl) (fun z => by cases z) (by decide)) (pa_cons (pe_disp (pps_cons pe_str pe_non pps_nil) (by rfl) (by rfl) (fun z => by cases z) (by decide)) pa_nil))) (pa_cons (pe_lst (pa_cons (pe_tup (pa_cons pe_str (pa_cons pe_str (pa_cons pe_int (pa_cons pe_str pa_nil))))) (pa_cons (pe_tup (pa_cons pe_str (pa_cons pe_str (pa_cons pe_int (pa_cons pe_str pa_nil))))) pa_nil))) (pa_cons (pe_lst (pa_cons (pe_disp (pps_cons pe_str pe_int pps_nil) (by rfl) (by rfl) (fun z => by cases z) (by decide)) (pa_cons (pe_disp (pps_cons pe_str pe_non pps_nil) (by rfl) (by rfl) (fun z => by cases z) (by decide)) pa_nil))) pa_nil))))) pa_nil)))
        (pss_cons (ps_expr (pe_bm PySem.F.plainAttrs_list PySem.F.slot_list_append PySem.F.type_list_append mt_append (pv 2) (pa_cons (pe_lst (pa_cons (pe_lst (pa_cons (pv 0) pa_nil)) (pa_cons (pe_lst (pa_cons (pe_disp (pps_cons pe_str pe_int pps_nil) (by rfl) (by rfl) (fun z => by cases z) (by decide)) pa_nil)) (pa_cons (pe_lst (pa_cons (pe_tup (pa_cons pe_str (pa_cons pe_str (pa_cons pe_int (pa_cons pe_str pa_nil))))) (pa_cons (pe_tup (pa_cons pe_str (pa_cons pe_str (pa_cons pe_int pa_nil)))) pa_nil))) (pa_cons (pe_lst (pa_cons (pe_disp (pps_cons pe_str pe_int pps_nil) (by rfl) (by rfl) (fun z => by cases z) (by decide)) pa_nil)) pa_nil))))) pa_nil)))
        (pss_cons (ps_expr (pe_bm PySem.F.plainAttrs_list PySem.F.slot_list_append PySem.F.type_list_append mt_append (pv 2) (pa_cons (pe_lst (pa_cons (pe_lst (pa_cons (pv 0) (pa_cons (pv 1) pa_nil))) (pa_cons (pe_lst (pa_cons (pe_disp (pps_cons pe_str pe_int (pps_cons pe_str pe_int pps_nil)) (by rfl) (by rfl) (fun z => by cases z) (by decide)) pa_nil)) (pa_cons (pe_lst (pa_cons (pe_tup (pa_cons pe_str (pa_cons pe_str (pa_cons pe_int (pa_cons pe_int pa_nil))))) (pa_cons (pe_tup (pa_cons pe_str (pa_cons pe_str (pa_cons pe_int pa_nil)))) pa_nil))) (pa_cons (pe_lst (pa_cons (pe_disp (pps_cons pe_str pe_int (pps_cons pe_str pe_int (pps_cons pe_str pe_int pps_nil))) (by rfl) (by rfl) (fun z => by cases z) (by decide)) pa_nil)) pa_nil))))) pa_nil)))
        (pss_cons (ps_expr (pe_bm PySem.F.plainAttrs_list PySem.F.slot_list_append PySem.F.type_list_append mt_append (pv 2) (pa_cons (pe_lst (pa_cons (pe_lst (pa_cons (pv 0) (pa_cons (pv 1) pa_nil))) (pa_cons (pe_lst (pa_cons (pe_disp (pps_cons pe_str pe_int (pps_cons pe_str pe_int pps_nil)) (by rfl) (by rfl) (fun z => by cases z) (by decide)) pa_nil)) (pa_cons (pe_lst (pa_cons (pe_tup (pa_cons pe_str (pa_cons pe_str pa_nil))) (pa_cons (pe_tup (pa_cons pe_str (pa_cons pe_str (pa_cons pe_int (pa_cons pe_int pa_nil))))) pa_nil))) (pa_cons (pe_lst (pa_cons (pe_disp (pps_cons pe_str pe_int (pps_cons pe_str pe_int pps_nil)) (by rfl) (by rfl) (fun z => by cases z) (by decide)) pa_nil)) pa_nil))))) pa_nil)))
        (pss_cons (ps_expr (pe_bm PySem.F.plainAttrs_list PySem.F.slot_list_append PySem.F.type_list_append mt_append (pv 2) (pa_cons (pe_lst (pa_cons (pe_lst (pa_cons (pv 0) (pa_cons (pv 1) pa_nil))) (pa_cons (pe_lst (pa_cons (pe_disp (pps_cons pe_str pe_int (pps_cons pe_str pe_int pps_nil)) (by rfl) (by rfl) (fun z => by cases z) (by decide)) pa_nil)) (pa_cons (pe_lst (pa_cons (pe_tup (pa_cons pe_str (pa_cons pe_str (pa_cons pe_str pa_nil)))) (pa_cons (pe_tup (pa_cons pe_str (pa_cons pe_str (pa_cons pe_str pa_nil)))) (pa_cons (pe_tup (pa_cons pe_str (pa_cons pe_str (pa_cons pe_str pa_nil)))) pa_nil)))) (pa_cons (pe_lst (pa_cons (pe_disp (pps_cons pe_str pe_int (pps_cons pe_str pe_int pps_nil)) (by rfl) (by rfl) (fun z => by cases z) (by decide)) pa_nil)) pa_nil))))) pa_nil)))
        (pss_cons (ps_expr (pe_bm PySem.F.plainAttrs_list PySem.F.slot_list_append PySem.F.type_list_append mt_append (pv 2) (pa_cons (pe_lst (pa_cons (pe_lst (pa_cons (pv 0) pa_nil)) (pa_cons (pe_lst (pa_cons (pe_disp (pps_cons pe_str pe_int pps_nil) (by rfl) (by rfl) (fun z => by cases z) (by decide)) (pa_cons (pe_disp (pps_cons pe_str pe_int pps_nil) (by rfl) (by rfl) (fun z => by cases z) (by decide)) pa_nil))) (pa_cons (pe_lst (pa_cons (pe_tup (pa_cons pe_str (pa_cons pe_str (pa_cons pe_int (pa_cons pe_str pa_nil))))) pa_nil)) (pa_cons pe_str pa_nil))))) pa_nil)))
        (pss_cons (ps_expr (pe_bm PySem.F.plainAttrs_list PySem.F.slot_list_append PySem.F.type_list_append mt_append (pv 2) (pa_cons (pe_lst (pa_cons (pe_lst (pa_cons (pv 0) pa_nil)) (pa_cons (pe_lst (pa_cons (pe_disp (pps_cons pe_str pe_int pps_nil) (by rfl) (by rfl) (fun z => by cases z) (by decide)) (pa_cons (pe_disp (pps_cons pe_str pe_non pps_nil) (by rfl) (by rfl) (fun z => by cases z) (by decide)) pa_nil))) (pa_cons (pe_lst (pa_cons (pe_tup (pa_cons pe_str (pa_cons pe_str (pa_cons pe_int (pa_cons pe_str pa_nil))))) (pa_cons (pe_tup (pa_cons pe_str (pa_cons pe_str (pa_cons pe_int pa_nil)))) pa_nil))) (pa_cons (pe_lst (pa_cons (pe_disp (pps_cons pe_str pe_int pps_nil) (by rfl) (by rfl) (fun z => by cases z) (by decide)) (pa_cons (pe_disp (pps_cons pe_str pe_int pps_nil) (by rfl) (by rfl) (fun z => by cases z) (by decide)) pa_nil))) pa_nil))))) pa_nil)))
        (pss_cons (ps_expr (pe_bm PySem.F.plainAttrs_list PySem.F.slot_list_append PySem.F.type_list_append mt_append (pv 2) (pa_cons (pe_lst (pa_cons (pe_lst (pa_cons (pe_make (mk_Column T) GI hr (by rfl) (mg_Column T) bI vI pass0 (pa_cons pe_str (pa_cons pe_int (pa_cons pe_int pa_nil)))) pa_nil)) (pa_cons (pe_lst (pa_cons (pe_disp (pps_cons pe_str pe_int pps_nil) (by rfl) (by rfl) (fun z => by cases z) (by decide)) pa_nil)) (pa_cons (pe_lst (pa_cons (pe_tup (pa_cons pe_str (pa_cons pe_str (pa_cons pe_int (pa_cons pe_str pa_nil))))) pa_nil)) (pa_cons pe_str pa_nil))))) pa_nil)))
        (pss_cons (ps_expr (pe_bm PySem.F.plainAttrs_list PySem.F.slot_list_append PySem.F.type_list_append mt_append (pv 2) (pa_cons (pe_lst (pa_cons (pe_lst (pa_cons (pe_make (mk_Column T) GI hr (by rfl) (mg_Column T) bI vI pass0 (pa_cons pe_str (pa_cons pe_int (pa_cons pe_int pa_nil)))) pa_nil)) (pa_cons (pe_lst (pa_cons (pe_disp (pps_cons pe_str pe_int pps_nil) (by rfl) (by rfl) (fun z => by cases z) (by decide)) pa_nil)) (pa_cons (pe_lst (pa_cons (pe_tup (pa_cons pe_str (pa_cons pe_str (pa_cons pe_int (pa_cons pe_str pa_nil))))) (pa_cons (pe_tup (pa_cons pe_str (pa_cons pe_str (pa_cons pe_str pa_nil)))) pa_nil))) (pa_cons (pe_lst (pa_cons (pe_disp (pps_cons pe_str pe_int pps_nil) (by rfl) (by rfl) (fun z => by cases z) (by decide)) pa_nil)) pa_nil))))) pa_nil)))
        (pss_cons (ps_expr (pe_bm PySem.F.plainAttrs_list PySem.F.slot_list_append PySem.F.type_list_append mt_append (pv 2) (pa_cons (pe_lst (pa_cons (pe_lst (pa_cons (pv 0) pa_nil)) (pa_cons (pe_lst (pa_cons (pe_disp (pps_cons pe_str pe_non pps_nil) (by rfl) (by rfl) (fun z => by cases z) (by decide)) pa_nil)) (pa_cons (pe_lst (pa_cons (pe_tup (pa_cons pe_str (pa_cons pe_str (pa_cons pe_int pa_nil)))) (pa_cons (pe_tup (pa_cons pe_str (pa_cons pe_str (pa_cons pe_int (pa_cons pe_str pa_nil))))) pa_nil))) (pa_cons pe_str pa_nil))))) pa_nil)))
        (pss_cons (ps_expr (pe_bm PySem.F.plainAttrs_list PySem.F.slot_list_append PySem.F.type_list_append mt_append (pv 2) (pa_cons (pe_lst (pa_cons (pe_lst (pa_cons (pv 0) pa_nil)) (pa_cons (pe_lst pa_nil) (pa_cons (pe_lst (pa_cons (pe_tup (pa_cons pe_str (pa_cons pe_str (pa_cons pe_int (pa_cons pe_str pa_nil))))) (pa_cons (pe_tup (pa_cons pe_str (pa_cons pe_str pa_nil))) pa_nil))) (pa_cons pe_str pa_nil))))) pa_nil)))
        (pss_one (ps_ret (pe_op op_cat (pv 2) (pe_lst (pa_cons (pe_lst (pa_cons (pe_lst (pa_cons (pv 0) pa_nil)) (pa_cons (pe_lst (pa_cons (pe_disp (pps_cons pe_str pe_int pps_nil) (by rfl) (by rfl) (fun z => by cases z) (by decide)) pa_nil)) (pa_cons (pe_lst (pa_cons (pe_tup (pa_cons pe_str (pa_cons pe_str (pa_cons pe_int (pa_cons pe_int pa_nil))))) (pa_cons (pe_tup (pa_cons pe_str (pa_cons pe_str (pa_cons pe_int pa_nil)))) (pa_cons (pe_tup (pa_cons pe_str (pa_cons pe_str (pa_cons pe_int (pa_cons pe_str pa_nil))))) pa_nil)))) (pa_cons pe_str pa_nil))))) pa_nil))))))))))))))))), ?_⟩
  have hz : sizeLine = 16777216 := by decide
  refine pl_parV ?_
  refine MkL.run (B := fun _ => True) (Ds := [DCo K cA, DCo K cZ]) (mkl_cons (fun _ _ _ _ => trivial) mon_coV (mkv_colD (by decide +kernel) (by decide +kernel) (by decide +kernel)) (mkl_cons (fun _ _ _ _ => trivial) mon_coV (mkv_colD (by decide +kernel) (by decide +kernel) (by decide +kernel)) mkl_nil)) trivial fun vs H1 s1 ds => ?_
  match vs, ds with
  | [va, vz], ⟨⟨xa, ea, ha⟩, ⟨xz, ez, hzz⟩, _⟩ =>
  subst ea
  subst ez
  refine ⟨_, _, rfl, ?_⟩
  dsimp only
  -- the first case, before the list that holds it
  have hB : ∀ G G' : Hp, Same G G' → (Same H G ∧ ColA K G xa cA ∧ ColA K G xz cZ) → (Same H G' ∧ ColA K G' xa cA ∧ ColA K G' xz cZ) := fun G G' s ⟨a, b, c⟩ => ⟨a.trans s, b.keep s, c.keep s⟩
  have hF : ∀ (G : Hp) (p : Addr), (Same H G ∧ ColA K G xa cA ∧ ColA K G xz cZ) → G p = none → H p = none := fun G p b n => b.1.free n
  have vA : ∀ G : Hp, (Same H G ∧ ColA K G xa cA ∧ ColA K G xz cZ) → DCo K cA (.ref xa) G := fun G b => ⟨xa, rfl, b.2.1⟩
  have vZ : ∀ G : Hp, (Same H G ∧ ColA K G xa cA ∧ ColA K G xz cZ) → DCo K cZ (.ref xz) G := fun G b => ⟨xz, rfl, b.2.2⟩
  refine q_asgX ?_
  refine pl_lstV ?_
  refine pl_arg1 (MkV.run (B := fun G => Same H G ∧ ColA K G xa cA ∧ ColA K G xz cZ) (D := CaseD K (fun p => H p = none) case1) ?_ ⟨s1, ha, hzz⟩ ?_)
  · exact mk_case hB hF (mk_cols hB hF (by decide) (mkl_cons hB mon_coV (mkv_var rfl vA) mkl_nil)) (mk_dics hB hF (by decide) (mkl_cons hB mon_dicV (mkv_dic (fun _ _ r => r) (by decide) (by decide +kernel)) (mkl_cons hB mon_dicV (mkv_dic (fun _ _ r => r) (by decide) (by decide +kernel)) mkl_nil))) (mk_chs hB hF (by decide) (mkl_cons hB mon_tupV (mkv_tup (fun _ _ r => r) (by decide)) (mkl_cons hB mon_tupV (mkv_tup (fun _ _ r => r) (by decide)) mkl_nil))) (mk_dics hB hF (by decide) (mkl_cons hB mon_dicV (mkv_dic (fun _ _ r => r) (by decide) (by decide +kernel)) (mkl_cons hB mon_dicV (mkv_dic (fun _ _ r => r) (by decide) (by decide +kernel)) mkl_nil)))
  intro v1 H2 s2 d1
  refine ⟨by show 1 ≤ sizeLine; decide, fun f nf => ?_⟩
  have s02 := s1.trans s2
  have nf0 : H f = none := s02.free nf
  have a1 : AllV [v1] ([case1].map (CaseD K fun p => H p = none ∧ p ≠ f)) (upd H2 f (.lst [v1])) := ⟨mon_caseV v1 _ _ (same_new nf) (d1.apart fun p o e q => ⟨q, fun z => by rw [z, nf] at e; cases e⟩), trivial⟩
  have hf : upd H2 f (.lst [v1]) f = some (.lst [v1]) := upd_same
  have b1 : Same H (upd H2 f (.lst [v1])) ∧ ColA K (upd H2 f (.lst [v1])) xa cA ∧ ColA K (upd H2 f (.lst [v1])) xz cZ := ⟨s02.trans (same_new nf), (ha.keep s2).keep (same_new nf), (hzz.keep s2).keep (same_new nf)⟩
  generalize upd H2 f (.lst [v1]) = G1 at a1 hf b1 ⊢
  clear s02 d1 nf s2 s1 ha hzz vA vZ hF hB
  generalize hu1 : [v1] = us1 at a1 hf
  have len1 : us1.length = 1 := by rw [← hu1]; rfl
  clear hu1
  have hB : ∀ G G' : Hp, Same G G' → (Same H G ∧ ColA K G xa cA ∧ ColA K G xz cZ ∧ ∃ o, G f = some o) → (Same H G' ∧ ColA K G' xa cA ∧ ColA K G' xz cZ ∧ ∃ o, G' f = some o) := fun G G' s ⟨a, b, c, o, e⟩ => ⟨a.trans s, b.keep s, c.keep s, o, s _ _ e⟩
  have hF : ∀ (G : Hp) (p : Addr), (Same H G ∧ ColA K G xa cA ∧ ColA K G xz cZ ∧ ∃ o, G f = some o) → G p = none → (H p = none ∧ p ≠ f) := fun G p b n => ⟨b.1.free n, fun z => by
    obtain ⟨o, e⟩ := b.2.2.2
    rw [z, e] at n
    cases n⟩
  have vA : ∀ G : Hp, (Same H G ∧ ColA K G xa cA ∧ ColA K G xz cZ ∧ ∃ o, G f = some o) → DCo K cA (.ref xa) G := fun G b => ⟨xa, rfl, b.2.1⟩
  have vZ : ∀ G : Hp, (Same H G ∧ ColA K G xa cA ∧ ColA K G xz cZ ∧ ∃ o, G f = some o) → DCo K cZ (.ref xz) G := fun G b => ⟨xz, rfl, b.2.2.1⟩
  have nfF : ¬ (H f = none ∧ f ≠ f) := fun z => z.2 rfl
  -- what an append leaves
  have step : ∀ {G G2 : Hp} {us : List V} {v : V} {cl : List CaseT} {c : CaseT}, (Same H G ∧ ColA K G xa cA ∧ ColA K G xz cZ) → G f = some (.lst us) → AllV us (cl.map (CaseD K fun p => H p = none ∧ p ≠ f)) G → Same G G2 → CaseD K (fun p => H p = none ∧ p ≠ f) c v G2 →
      (Same H (upd G2 f (.lst (us ++ [v]))) ∧ ColA K (upd G2 f (.lst (us ++ [v]))) xa cA ∧ ColA K (upd G2 f (.lst (us ++ [v]))) xz cZ) ∧ upd G2 f (.lst (us ++ [v])) f = some (.lst (us ++ [v])) ∧ AllV (us ++ [v]) ((cl ++ [c]).map (CaseD K fun p => H p = none ∧ p ≠ f)) (upd G2 f (.lst (us ++ [v]))) := fun {G G2 us v cl c} ⟨b, ca, cz⟩ e a s d => by
    have e2 := s _ _ e
    have hco : ∀ {x : Addr} {cc : Col}, ColA K G x cc → ColA K (upd G2 f (.lst (us ++ [v]))) x cc := fun {x cc} h => by
      obtain ⟨dx, h⟩ := h
      exact ⟨dx, by rw [upd_ne (fun z => by rw [z, e] at h; cases h)]; exact s _ _ h⟩
    refine ⟨⟨same_mut (b.trans s) nf0, hco ca, hco cz⟩, upd_same, ?_⟩
    rw [List.map_append]
    refine AllV.snoc (stay_caseV nfF v G2 us _ e2 d) ?_
    refine AllV.imp1 (fun D hD u q => ?_) a
    obtain ⟨c', _, rfl⟩ := List.mem_map.mp hD
    exact stay_caseV nfF u G2 us _ e2 (mon_caseV u _ _ s q)
  -- case 2
  refine ⟨_, rfl, .inl ⟨rfl, _, sqL_of hf⟩, ?_⟩
  refine pl_arg1 (MkV.run (B := fun G => Same H G ∧ ColA K G xa cA ∧ ColA K G xz cZ ∧ ∃ o, G f = some o) (D := CaseD K (fun p => H p = none ∧ p ≠ f) case2) ?_ ⟨b1.1, b1.2.1, b1.2.2, _, hf⟩ ?_)
  · exact mk_case hB hF (mk_cols hB hF (by decide) (mkl_cons hB mon_coV (mkv_var rfl vA) mkl_nil)) (mk_dics hB hF (by decide) (mkl_cons hB mon_dicV (mkv_dic (fun _ _ r => r) (by decide) (by decide +kernel)) mkl_nil)) (mk_chs hB hF (by decide) (mkl_cons hB mon_tupV (mkv_tup (fun _ _ r => r) (by decide)) (mkl_cons hB mon_tupV (mkv_tup (fun _ _ r => r) (by decide)) mkl_nil))) (mk_dics hB hF (by decide) (mkl_cons hB mon_dicV (mkv_dic (fun _ _ r => r) (by decide) (by decide +kernel)) mkl_nil))
  intro v H2 s2 d2
  obtain ⟨b2, hf', a2⟩ := step (cl := casesL.take 1) (c := case2) b1 hf a1 s2 d2
  refine ⟨f, _, _, rfl, rfl, s2 _ _ hf, by rw [len1, hz]; decide, ?_⟩
  have len2 : (us1 ++ [v]).length = 2 := by rw [List.length_append, len1]; rfl
  generalize upd H2 f (.lst (us1 ++ [v])) = G2 at b2 hf' a2 ⊢
  generalize us1 ++ [v] = us2 at hf' a2 len2
  clear hf s2 d2 a1 b1 len1
  have hf := hf'
  clear hf'
  -- case 3
  refine ⟨_, rfl, .inl ⟨rfl, _, sqL_of hf⟩, ?_⟩
  refine pl_arg1 (MkV.run (B := fun G => Same H G ∧ ColA K G xa cA ∧ ColA K G xz cZ ∧ ∃ o, G f = some o) (D := CaseD K (fun p => H p = none ∧ p ≠ f) case3) ?_ ⟨b2.1, b2.2.1, b2.2.2, _, hf⟩ ?_)
  · exact mk_case hB hF (mk_cols hB hF (by decide) (mkl_cons hB mon_coV (mkv_var rfl vA) (mkl_cons hB mon_coV (mkv_var rfl vZ) mkl_nil))) (mk_dics hB hF (by decide) (mkl_cons hB mon_dicV (mkv_dic (fun _ _ r => r) (by decide) (by decide +kernel)) mkl_nil)) (mk_chs hB hF (by decide) (mkl_cons hB mon_tupV (mkv_tup (fun _ _ r => r) (by decide)) (mkl_cons hB mon_tupV (mkv_tup (fun _ _ r => r) (by decide)) mkl_nil))) (mk_dics hB hF (by decide) (mkl_cons hB mon_dicV (mkv_dic (fun _ _ r => r) (by decide) (by decide +kernel)) mkl_nil))
  intro v H3 s3 d3
  obtain ⟨b3, hf', a3⟩ := step (cl := casesL.take 2) (c := case3) b2 hf a2 s3 d3
  refine ⟨f, _, _, rfl, rfl, s3 _ _ hf, by rw [len2, hz]; decide, ?_⟩
  have len3 : (us2 ++ [v]).length = 3 := by rw [List.length_append, len2]; rfl
  generalize upd H3 f (.lst (us2 ++ [v])) = G3 at b3 hf' a3 ⊢
  generalize us2 ++ [v] = us3 at hf' a3 len3
  clear hf s3 d3 a2 b2 len2
  have hf := hf'
  clear hf'
  -- case 4
  refine ⟨_, rfl, .inl ⟨rfl, _, sqL_of hf⟩, ?_⟩
  refine pl_arg1 (MkV.run (B := fun G => Same H G ∧ ColA K G xa cA ∧ ColA K G xz cZ ∧ ∃ o, G f = some o) (D := CaseD K (fun p => H p = none ∧ p ≠ f) case4) ?_ ⟨b3.1, b3.2.1, b3.2.2, _, hf⟩ ?_)
  · exact mk_case hB hF (mk_cols hB hF (by decide) (mkl_cons hB mon_coV (mkv_var rfl vA) (mkl_cons hB mon_coV (mkv_var rfl vZ) mkl_nil))) (mk_dics hB hF (by decide) (mkl_cons hB mon_dicV (mkv_dic (fun _ _ r => r) (by decide) (by decide +kernel)) mkl_nil)) (mk_chs hB hF (by decide) (mkl_cons hB mon_tupV (mkv_tup (fun _ _ r => r) (by decide)) (mkl_cons hB mon_tupV (mkv_tup (fun _ _ r => r) (by decide)) mkl_nil))) (mk_dics hB hF (by decide) (mkl_cons hB mon_dicV (mkv_dic (fun _ _ r => r) (by decide) (by decide +kernel)) mkl_nil))
  intro v H4 s4 d4
  obtain ⟨b4, hf', a4⟩ := step (cl := casesL.take 3) (c := case4) b3 hf a3 s4 d4
  refine ⟨f, _, _, rfl, rfl, s4 _ _ hf, by rw [len3, hz]; decide, ?_⟩
  have len4 : (us3 ++ [v]).length = 4 := by rw [List.length_append, len3]; rfl
  generalize upd H4 f (.lst (us3 ++ [v])) = G4 at b4 hf' a4 ⊢
  generalize us3 ++ [v] = us4 at hf' a4 len4
  clear hf s4 d4 a3 b3 len3
  have hf := hf'
  clear hf'
  -- case 5
  refine ⟨_, rfl, .inl ⟨rfl, _, sqL_of hf⟩, ?_⟩
  refine pl_arg1 (MkV.run (B := fun G => Same H G ∧ ColA K G xa cA ∧ ColA K G xz cZ ∧ ∃ o, G f = some o) (D := CaseD K (fun p => H p = none ∧ p ≠ f) case5) ?_ ⟨b4.1, b4.2.1, b4.2.2, _, hf⟩ ?_)
  · exact mk_case hB hF (mk_cols hB hF (by decide) (mkl_cons hB mon_coV (mkv_var rfl vA) (mkl_cons hB mon_coV (mkv_var rfl vZ) mkl_nil))) (mk_dics hB hF (by decide) (mkl_cons hB mon_dicV (mkv_dic (fun _ _ r => r) (by decide) (by decide +kernel)) mkl_nil)) (mk_chs hB hF (by decide) (mkl_cons hB mon_tupV (mkv_tup (fun _ _ r => r) (by decide)) (mkl_cons hB mon_tupV (mkv_tup (fun _ _ r => r) (by decide)) (mkl_cons hB mon_tupV (mkv_tup (fun _ _ r => r) (by decide)) mkl_nil)))) (mk_dics hB hF (by decide) (mkl_cons hB mon_dicV (mkv_dic (fun _ _ r => r) (by decide) (by decide +kernel)) mkl_nil))
  intro v H5 s5 d5
  obtain ⟨b5, hf', a5⟩ := step (cl := casesL.take 4) (c := case5) b4 hf a4 s5 d5
  refine ⟨f, _, _, rfl, rfl, s5 _ _ hf, by rw [len4, hz]; decide, ?_⟩
  have len5 : (us4 ++ [v]).length = 5 := by rw [List.length_append, len4]; rfl
  generalize upd H5 f (.lst (us4 ++ [v])) = G5 at b5 hf' a5 ⊢
  generalize us4 ++ [v] = us5 at hf' a5 len5
  clear hf s5 d5 a4 b4 len4
  have hf := hf'
  clear hf'
  -- case 6
  refine ⟨_, rfl, .inl ⟨rfl, _, sqL_of hf⟩, ?_⟩
  refine pl_arg1 (MkV.run (B := fun G => Same H G ∧ ColA K G xa cA ∧ ColA K G xz cZ ∧ ∃ o, G f = some o) (D := CaseD K (fun p => H p = none ∧ p ≠ f) case6) ?_ ⟨b5.1, b5.2.1, b5.2.2, _, hf⟩ ?_)
  · exact mk_case hB hF (mk_cols hB hF (by decide) (mkl_cons hB mon_coV (mkv_var rfl vA) mkl_nil)) (mk_dics hB hF (by decide) (mkl_cons hB mon_dicV (mkv_dic (fun _ _ r => r) (by decide) (by decide +kernel)) (mkl_cons hB mon_dicV (mkv_dic (fun _ _ r => r) (by decide) (by decide +kernel)) mkl_nil))) (mk_chs hB hF (by decide) (mkl_cons hB mon_tupV (mkv_tup (fun _ _ r => r) (by decide)) mkl_nil)) mkv_c
  intro v H6 s6 d6
  obtain ⟨b6, hf', a6⟩ := step (cl := casesL.take 5) (c := case6) b5 hf a5 s6 d6
  refine ⟨f, _, _, rfl, rfl, s6 _ _ hf, by rw [len5, hz]; decide, ?_⟩
  have len6 : (us5 ++ [v]).length = 6 := by rw [List.length_append, len5]; rfl
  generalize upd H6 f (.lst (us5 ++ [v])) = G6 at b6 hf' a6 ⊢
  generalize us5 ++ [v] = us6 at hf' a6 len6
  clear hf s6 d6 a5 b5 len5
  have hf := hf'
  clear hf'
  -- case 7
  refine ⟨_, rfl, .inl ⟨rfl, _, sqL_of hf⟩, ?_⟩
  refine pl_arg1 (MkV.run (B := fun G => Same H G ∧ ColA K G xa cA ∧ ColA K G xz cZ ∧ ∃ o, G f = some o) (D := CaseD K (fun p => H p = none ∧ p ≠ f) case7) ?_ ⟨b6.1, b6.2.1, b6.2.2, _, hf⟩ ?_)
  · exact mk_case hB hF (mk_cols hB hF (by decide) (mkl_cons hB mon_coV (mkv_var rfl vA) mkl_nil)) (mk_dics hB hF (by decide) (mkl_cons hB mon_dicV (mkv_dic (fun _ _ r => r) (by decide) (by decide +kernel)) (mkl_cons hB mon_dicV (mkv_dic (fun _ _ r => r) (by decide) (by decide +kernel)) mkl_nil))) (mk_chs hB hF (by decide) (mkl_cons hB mon_tupV (mkv_tup (fun _ _ r => r) (by decide)) (mkl_cons hB mon_tupV (mkv_tup (fun _ _ r => r) (by decide)) mkl_nil))) (mk_dics hB hF (by decide) (mkl_cons hB mon_dicV (mkv_dic (fun _ _ r => r) (by decide) (by decide +kernel)) (mkl_cons hB mon_dicV (mkv_dic (fun _ _ r => r) (by decide) (by decide +kernel)) mkl_nil)))
  intro v H7 s7 d7
  obtain ⟨b7, hf', a7⟩ := step (cl := casesL.take 6) (c := case7) b6 hf a6 s7 d7
  refine ⟨f, _, _, rfl, rfl, s7 _ _ hf, by rw [len6, hz]; decide, ?_⟩
  have len7 : (us6 ++ [v]).length = 7 := by rw [List.length_append, len6]; rfl
  generalize upd H7 f (.lst (us6 ++ [v])) = G7 at b7 hf' a7 ⊢
  generalize us6 ++ [v] = us7 at hf' a7 len7
  clear hf s7 d7 a6 b6 len6
  have hf := hf'
  clear hf'
  -- case 8
  refine ⟨_, rfl, .inl ⟨rfl, _, sqL_of hf⟩, ?_⟩
  refine pl_arg1 (MkV.run (B := fun G => Same H G ∧ ColA K G xa cA ∧ ColA K G xz cZ ∧ ∃ o, G f = some o) (D := CaseD K (fun p => H p = none ∧ p ≠ f) case8) ?_ ⟨b7.1, b7.2.1, b7.2.2, _, hf⟩ ?_)
  · exact mk_case hB hF (mk_cols hB hF (by decide) (mkl_cons hB mon_coV (mkv_colD (by decide +kernel) (by decide +kernel) (by decide +kernel)) mkl_nil)) (mk_dics hB hF (by decide) (mkl_cons hB mon_dicV (mkv_dic (fun _ _ r => r) (by decide) (by decide +kernel)) mkl_nil)) (mk_chs hB hF (by decide) (mkl_cons hB mon_tupV (mkv_tup (fun _ _ r => r) (by decide)) mkl_nil)) mkv_c
  intro v H8 s8 d8
  obtain ⟨b8, hf', a8⟩ := step (cl := casesL.take 7) (c := case8) b7 hf a7 s8 d8
  refine ⟨f, _, _, rfl, rfl, s8 _ _ hf, by rw [len7, hz]; decide, ?_⟩
  have len8 : (us7 ++ [v]).length = 8 := by rw [List.length_append, len7]; rfl
  generalize upd H8 f (.lst (us7 ++ [v])) = G8 at b8 hf' a8 ⊢
  generalize us7 ++ [v] = us8 at hf' a8 len8
  clear hf s8 d8 a7 b7 len7
  have hf := hf'
  clear hf'
  -- case 9
  refine ⟨_, rfl, .inl ⟨rfl, _, sqL_of hf⟩, ?_⟩
  refine pl_arg1 (MkV.run (B := fun G => Same H G ∧ ColA K G xa cA ∧ ColA K G xz cZ ∧ ∃ o, G f = some o) (D := CaseD K (fun p => H p = none ∧ p ≠ f) case9) ?_ ⟨b8.1, b8.2.1, b8.2.2, _, hf⟩ ?_)
  · exact mk_case hB hF (mk_cols hB hF (by decide) (mkl_cons hB mon_coV (mkv_colD (by decide +kernel) (by decide +kernel) (by decide +kernel)) mkl_nil)) (mk_dics hB hF (by decide) (mkl_cons hB mon_dicV (mkv_dic (fun _ _ r => r) (by decide) (by decide +kernel)) mkl_nil)) (mk_chs hB hF (by decide) (mkl_cons hB mon_tupV (mkv_tup (fun _ _ r => r) (by decide)) (mkl_cons hB mon_tupV (mkv_tup (fun _ _ r => r) (by decide)) mkl_nil))) (mk_dics hB hF (by decide) (mkl_cons hB mon_dicV (mkv_dic (fun _ _ r => r) (by decide) (by decide +kernel)) mkl_nil))
  intro v H9 s9 d9
  obtain ⟨b9, hf', a9⟩ := step (cl := casesL.take 8) (c := case9) b8 hf a8 s9 d9
  refine ⟨f, _, _, rfl, rfl, s9 _ _ hf, by rw [len8, hz]; decide, ?_⟩
  have len9 : (us8 ++ [v]).length = 9 := by rw [List.length_append, len8]; rfl
  generalize upd H9 f (.lst (us8 ++ [v])) = G9 at b9 hf' a9 ⊢
  generalize us8 ++ [v] = us9 at hf' a9 len9
  clear hf s9 d9 a8 b8 len8
  have hf := hf'
  clear hf'
  -- case 10
  refine ⟨_, rfl, .inl ⟨rfl, _, sqL_of hf⟩, ?_⟩
  refine pl_arg1 (MkV.run (B := fun G => Same H G ∧ ColA K G xa cA ∧ ColA K G xz cZ ∧ ∃ o, G f = some o) (D := CaseD K (fun p => H p = none ∧ p ≠ f) case10) ?_ ⟨b9.1, b9.2.1, b9.2.2, _, hf⟩ ?_)
  · exact mk_case hB hF (mk_cols hB hF (by decide) (mkl_cons hB mon_coV (mkv_var rfl vA) mkl_nil)) (mk_dics hB hF (by decide) (mkl_cons hB mon_dicV (mkv_dic (fun _ _ r => r) (by decide) (by decide +kernel)) mkl_nil)) (mk_chs hB hF (by decide) (mkl_cons hB mon_tupV (mkv_tup (fun _ _ r => r) (by decide)) (mkl_cons hB mon_tupV (mkv_tup (fun _ _ r => r) (by decide)) mkl_nil))) mkv_c
  intro v H10 s10 d10
  obtain ⟨b10, hf', a10⟩ := step (cl := casesL.take 9) (c := case10) b9 hf a9 s10 d10
  refine ⟨f, _, _, rfl, rfl, s10 _ _ hf, by rw [len9, hz]; decide, ?_⟩
  have len10 : (us9 ++ [v]).length = 10 := by rw [List.length_append, len9]; rfl
  generalize upd H10 f (.lst (us9 ++ [v])) = G10 at b10 hf' a10 ⊢
  generalize us9 ++ [v] = us10 at hf' a10 len10
  clear hf s10 d10 a9 b9 len9
  have hf := hf'
  clear hf'
  -- case 11
  refine ⟨_, rfl, .inl ⟨rfl, _, sqL_of hf⟩, ?_⟩
  refine pl_arg1 (MkV.run (B := fun G => Same H G ∧ ColA K G xa cA ∧ ColA K G xz cZ ∧ ∃ o, G f = some o) (D := CaseD K (fun p => H p = none ∧ p ≠ f) case11) ?_ ⟨b10.1, b10.2.1, b10.2.2, _, hf⟩ ?_)
  · exact mk_case hB hF (mk_cols hB hF (by decide) (mkl_cons hB mon_coV (mkv_var rfl vA) mkl_nil)) (mk_dics hB hF (by decide) mkl_nil) (mk_chs hB hF (by decide) (mkl_cons hB mon_tupV (mkv_tup (fun _ _ r => r) (by decide)) (mkl_cons hB mon_tupV (mkv_tup (fun _ _ r => r) (by decide)) mkl_nil))) mkv_c
  intro v H11 s11 d11
  obtain ⟨b11, hf', a11⟩ := step (cl := casesL.take 10) (c := case11) b10 hf a10 s11 d11
  refine ⟨f, _, _, rfl, rfl, s11 _ _ hf, by rw [len10, hz]; decide, ?_⟩
  have len11 : (us10 ++ [v]).length = 11 := by rw [List.length_append, len10]; rfl
  generalize upd H11 f (.lst (us10 ++ [v])) = G11 at b11 hf' a11 ⊢
  generalize us10 ++ [v] = us11 at hf' a11 len11
  clear hf s11 d11 a10 b10 len10
  have hf := hf'
  clear hf'
  -- the last
  dsimp only
  refine pl_rop ?_
  refine ⟨_, rfl, ?_⟩
  refine pl_lstV ?_
  refine pl_arg1 (MkV.run (B := fun G => Same H G ∧ ColA K G xa cA ∧ ColA K G xz cZ ∧ ∃ o, G f = some o) (D := CaseD K (fun p => H p = none ∧ p ≠ f) case12) ?_ ⟨b11.1, b11.2.1, b11.2.2, _, hf⟩ ?_)
  · exact mk_case hB hF (mk_cols hB hF (by decide) (mkl_cons hB mon_coV (mkv_var rfl vA) mkl_nil)) (mk_dics hB hF (by decide) (mkl_cons hB mon_dicV (mkv_dic (fun _ _ r => r) (by decide) (by decide +kernel)) mkl_nil)) (mk_chs hB hF (by decide) (mkl_cons hB mon_tupV (mkv_tup (fun _ _ r => r) (by decide)) (mkl_cons hB mon_tupV (mkv_tup (fun _ _ r => r) (by decide)) (mkl_cons hB mon_tupV (mkv_tup (fun _ _ r => r) (by decide)) mkl_nil)))) mkv_c
  intro v HL sL dL
  refine ⟨by show 1 ≤ sizeLine; decide, fun l0 nl0 => ?_⟩
  have s0 := same_new (o := .lst [v]) nl0
  refine ⟨f, l0, _, _, rfl, rfl, s0 _ _ (sL _ _ hf), upd_same, by rw [len11, hz]; show 11 + 1 ≤ 16777216; decide, fun l nl => ?_⟩
  have s9 := s0.trans (same_new (o := .lst (us11 ++ [v])) nl)
  have sAll := (b11.1.trans sL).trans s9
  refine k l (us11 ++ [v]) _ sAll upd_same ?_ (((b11.1.trans sL).trans s0).free nl)
  have aL : AllV (us11 ++ [v]) (casesL.map (CaseD K fun p => H p = none ∧ p ≠ f)) (upd (upd HL l0 (.lst [v])) l (.lst (us11 ++ [v]))) := AllV.snoc (mon_caseV v _ _ s9 dL) (AllV.imp1 (fun D hD u q => by
    obtain ⟨c', _, rfl⟩ := List.mem_map.mp hD
    exact mon_caseV u _ _ (sL.trans s9) q) a11)
  refine AllV.imp (by rw [List.length_map, List.length_map]) (fun i D E u q1 q2 q => ?_) aL
  rw [List.getElem?_map, Option.map_eq_some_iff] at q1 q2
  obtain ⟨c1, z1, rfl⟩ := q1
  obtain ⟨c2, z2, rfl⟩ := q2
  obtain rfl := Option.some.inj (z1.symm.trans z2)
  exact q.apart fun p o _ h => h.1
/-! xs != ys of lists whose items are equal one by one, own == among them -/
section
open PySem.SeqAt
open PySem.AutoSeq1 (wpAny_loadPart')
open PySem.MeetsSeq PySem.MeetsSeq2 PySem.MeetsSeq3 PySem.SeqRoads2
section
variable {prog : Program} {w : World} {A : Around} {R : Result → Shared → Prop}
theorem nw_loop (l b : Addr) (N : Nat) (J : Nat → Shared → Prop) (turns : GQ.ListI prog w A (fun e s' => R (.error e) s') l b N J) (last : ∀ s, J N s → R (.ok (.ret (.bool false))) s) :
    ∀ (m i : Nat), N - i = m → i ≤ N → ∀ s, J i s → wpAny (model prog w) A.in1 (Builtin.«list.__eq__.loop» ⟨[.ref l, .ref b, rawInt i, rawInt 3], []⟩) (GQ.FinOf prog w A R) (fun e s' => R (.error e) s') s
  | 0, i, hm, hi, s, hJ => by
    obtain ⟨us, vs, n, n2, hu, hv, zu, zv, _⟩ := turns i s hJ
    have ei : i = N := by omega
    have done := last s (ei ▸ hJ)
    obtain ⟨hp, g, d, tk, os⟩ := s
    wp_walk using wpAny_loadPart' hu, wpAny_loadPart' hv
    rw [show us[((i : Nat) : Int).toNat]? = none by simp; omega, show vs[((i : Nat) : Int).toNat]? = none by simp; omega]
    wp_walk using wpAny_loadPart' hu, wpAny_loadPart' hv
    show R (.ok (.ret (.bool (us.size != vs.size)))) _
    rw [zu, zv]
    simpa using done
  | m + 1, i, hm, hi, s, hJ => by
    obtain ⟨us, vs, n, n2, hu, hv, zu, zv, turn⟩ := turns i s hJ
    have lu : i < us.size := by omega
    have lv : i < vs.size := by omega
    have one := turn lu lv
    obtain ⟨hp, g, d, tk, os⟩ := s
    wp_walk using wpAny_loadPart' hu, wpAny_loadPart' hv
    rw [show us[((i : Nat) : Int).toNat]? = some us[i] by simp [lu], show vs[((i : Nat) : Int).toNat]? = some vs[i] by simp [lv]]
    refine wpAny_bind (wpAny_mono one (fun r s2 q => ?_) fun _ _ x => x)
    obtain ⟨er, hJ2⟩ := q
    subst er
    have rest := nw_loop l b N J turns last m (i + 1) (by omega) (by omega) s2 hJ2
    obtain ⟨hp2, g2, d2, tk2, os2⟩ := s2
    wp_walk
    rw [show ((i : Int) + 1) = ((i + 1 : Nat) : Int) by omega]
    exact ⟨plainId_quiet plain_eq_loop _, codeAny_builtin entry_eq_loop (by
      rw [Around.under_plainId plain_eq_loop _]
      exact rest)⟩
theorem nw_list (l b : Addr) (N : Nat) (J : Nat → Shared → Prop) (turns : GQ.ListI prog w A (fun e s' => R (.error e) s') l b N J) (last : ∀ s, J N s → R (.ok (.ret (.bool false))) s) {s : Shared} (hJ : J 0 s) :
    wpAny (model prog w) A.in1 (Builtin.«list.__ne__» ⟨[.ref l, .ref b], []⟩) (GQ.FinOf prog w A R) (fun e s' => R (.error e) s') s := by
  obtain ⟨us, vs, n, n2, hu, hv, zu, zv, _⟩ := turns 0 s hJ
  have rest := nw_loop (A := A) (R := R) l b N J turns last N 0 rfl (Nat.zero_le _) s hJ
  obtain ⟨hp, g, d, tk, os⟩ := s
  have both := AutoSeq1.sub_list_list
  have same : ¬ (us.size != vs.size) = true := by simp [zu, zv]
  wp_walk using wpAny_loadPart' hu, wpAny_loadPart' hv
  exact ⟨plainId_quiet plain_eq_loop _, codeAny_builtin entry_eq_loop (by
    rw [Around.under_plainId plain_eq_loop _]
    exact rest)⟩
end
theorem nw_rc {prog : Program} {w : World} {A : Around} {E : Value → Shared → Prop} {s : Shared} {l b : Addr} {N : Nat} {Q : Value → Shared → Prop} (hu : A.units < cLine) (J : Nat → Shared → Prop) (turns : GQ.ListI prog w A E l b N J) (last : ∀ s, J N s → Q (.bool false) s) (hJ : J 0 s) :
    wpAny (model prog w) A (richCompare .NotEq (.ref l) (.ref b)) Q E s := by
  obtain ⟨us, vs, n, n2, h1, h2, _⟩ := turns 0 s hJ
  refine wpAny_richCompare_same_room (op := .NotEq) ⟨_, h1, rfl⟩ ⟨_, h2, rfl⟩ F.slot_list_ne (GQ.call_here F.slot_list_ne ⟨_, h1, rfl⟩ F.entry_list_ne (F.args_list_ne_2 _ _) ?_) hu
  exact nw_list (R := wants (fun v s' => v ≠ .notImplemented ∧ Q v s') E) l b N J turns (fun s' q => ⟨(fun x => nomatch x), last s' q⟩) hJ
end
def rNeG (D : Eqv) : R2 := fun x y H Q => DList D x y H ∧ ∀ H', Ext H H' → Q (.bl false) H'
theorem op_neG {X : Cx} {n : Nat} {D : Eqv} (hD : Mon D) (h : EqG X n D) (hr : Room (n + 1) X.A) : OpR X (compareOp .NotEq) (rNeG D) := by
  intro pins s σ H x y v u Q I rx ry q
  obtain ⟨⟨a, b, xs, ys, rfl, rfl, ha, hb, p⟩, k⟩ := q
  cases rx
  cases ry
  have sb : Sub X (n + 1) X.A := ⟨hr, rfl⟩
  show wpAny (model X.prog X.w) X.A (richCompare .NotEq (.ref a) (.ref b)) (EP X pins σ Q) X.xe s
  refine nw_rc (N := xs.length) hr.units0 (fun _ s' => LoopI X pins σ H s') (fun i s' q => ?_) (fun s' q => ?_) ⟨H, I, Ext.rfl'⟩
  · obtain ⟨H1, I1, e1⟩ := id q
    obtain ⟨z, its, k1, r, e⟩ := I1.hok a _ (e1 _ _ ha)
    obtain ⟨z2, its2, k2, r2, e2⟩ := I1.hok b _ (e1 _ _ hb)
    exact ⟨its.toArray, its2.toArray, k1, k2, e, e2, by rw [List.size_toArray, ← r.length], by rw [List.size_toArray, ← r2.length, ← p.1], fun h1 h2 => turnG hD h sb p r r2 i h1 h2 s' q⟩
  · obtain ⟨H1, I1, e1⟩ := q
    exact ⟨.bl false, H1, I1, rfl, k H1 e1⟩

-- needs: +NELIST
/-! != of lists that hold flat values and dicts -/
def DDict : Eqv := fun x y H => ∃ a b ks ls, x = .ref a ∧ y = .ref b ∧ H a = some (.dK ks) ∧ H b = some (.dK ls) ∧ ks.length = ls.length ∧ (∀ p ∈ ks, valV ls p.1 = some p.2 ∧ flatB p.2 = true)
theorem mon_dict : Mon DDict := fun x y H H' e d => by
  obtain ⟨a, b, ks, ls, hx, hy, h1, h2, p⟩ := d
  exact ⟨a, b, ks, ls, hx, hy, e _ _ h1, e _ _ h2, p⟩
theorem rcG_dict {X : Cx} : RcG X 1 DDict := by
  intro A pins s σ H x y u v sb I rx ry d
  obtain ⟨a, b, ks, ls, rfl, rfl, ea, eb, hlen, hp⟩ := d
  obtain rfl : u = Value.ref a := rx
  obtain rfl : v = Value.ref b := ry
  obtain ⟨_, ya, va, ra, da⟩ := (show ObjOk X.prog X.w H s.heap a (.dK ks) from I.hok a _ ea)
  obtain ⟨_, yb, vb, rb, db⟩ := (show ObjOk X.prog X.w H s.heap b (.dK ls) from I.hok b _ eb)
  have hl : va.length = vb.length := by rw [← ra.length, ← rb.length]; exact hlen
  exact PySem.W.keq_eq (knd := mixKind X.prog X.w) (r := true) ya yb da db sb.room.units0 (fun _ => hits_all rb ra hp) ⟨by simp [hl], H, I, Ext.rfl'⟩
abbrev DFD : Eqv := fun x y H => DFlat x y H ∨ DDict x y H
theorem op_neFD {X : Cx} (hr : Room 2 X.A) : OpR X (compareOp .NotEq) (rNeG DFD) :=
  op_neG (mon_flat.or mon_dict) ((eqG_flat.mono (Nat.zero_le _)).or (rcG_dict.eqG fun x y H d => by
    obtain ⟨a, b, _, _, h1, h2, _⟩ := d
    exact ⟨a, b, h1, h2⟩)) hr

/-! greatest values bounded: of the first columns and of the changes, so of all columns -/
def Ch.upTo (top : Int) : Ch → Prop
  | .add _ g _ => g ≤ top
  | .great _ g _ => g ≤ top
  | _ => True
def UpTo (top : Int) (cs : List Col) (chs : List Ch) : Prop := (∀ c ∈ cs, c.top ≤ top) ∧ ∀ ch ∈ chs, ch.upTo top
theorem UpTo.mono {a b : Int} {cs : List Col} {chs : List Ch} (h : a ≤ b) (u : UpTo a cs chs) : UpTo b cs chs := ⟨fun c hc => Int.le_trans (u.1 c hc) h, fun ch hc => by
  have := u.2 ch hc
  cases ch with
  | add _ g _ => exact Int.le_trans this h
  | great _ g _ => exact Int.le_trans this h
  | _ => exact True.intro⟩

/-! a history up to one of its editions -/
theorem cutV_to {xs : List V} {m : Nat} (h : m ≤ xs.length) : cutV xs none (some (m : Nat)) = xs.take m := by
  have e : HT.sIx xs.length xs.length (some ((m : Nat) : Int)) = m := by
    unfold HT.sIx
    simp
    split <;> omega
  unfold cutV
  rw [e]
  have e2 : HT.sIx xs.length 0 none = 0 := rfl
  rw [e2]
  rfl
theorem Chs.take {K : PySem.W.Frag} {H : Hp} : ∀ {as : List Addr} {cs : List Ch} (m : Nat), Chs K H as cs → Chs K H (as.take m) (cs.take m)
  | _, _, 0, _ => .nil
  | _, _, _ + 1, .nil => .nil
  | _, _, m + 1, .cons q t => .cons q (t.take m)
theorem HistOk.take {cs : List Col} {chs : List Ch} (o : HistOk cs chs) {m : Nat} (h : m ≤ chs.length) : HistOk cs (chs.take m) := by
  refine ⟨o.pl, o.g, fun i ch hi => ?_, ?_⟩
  · rw [List.getElem?_take] at hi
    split at hi
    · rename_i q
      have := o.f i ch hi
      rw [List.take_take, Nat.min_eq_left (by omega)]
      exact this
    · cases hi
  · rw [List.length_take]
    have := o.few
    omega
theorem UpTo.take {top : Int} {cs : List Col} {chs : List Ch} (u : UpTo top cs chs) (m : Nat) : UpTo top cs (chs.take m) := ⟨u.1, fun ch hc => u.2 ch (List.mem_of_mem_take hc)⟩

theorem AllV.at_ {H : Hp} : ∀ {vs : List V} {Ds : List VP} {i : Nat} {v : V}, AllV vs Ds H → vs[i]? = some v → ∃ D, Ds[i]? = some D ∧ D v H
  | [], _, _, _, _, h => by simp at h
  | _ :: _, [], _, _, h, _ => h.elim
  | _ :: _, D :: _, 0, _, h, e => by
    obtain rfl := Option.some.inj e
    exact ⟨D, rfl, h.1⟩
  | _ :: _, _ :: _, i + 1, _, h, e => AllV.at_ (i := i) h.2 e
def rowMB (cs : List Col) (r : List (Key × V)) : Bool := decide (r.length = cs.length) && cs.all fun c => match valV r (Sum.inr c.name) with
  | some v => isIn c.top v
  | none => false
def rowsB : List (List (Key × V)) → List (List (Key × V)) → Bool
  | [], [] => true
  | r :: rs, q :: qs => (decide (r.length = q.length) && r.all fun p => decide (valV q p.1 = some p.2) && flatB p.2) && rowsB rs qs
  | _, _ => false
def colsB (cs : List Col) : Bool := (cs.all fun c => isNm (.str c.name) && (isGr (.int c.top) && (isIn c.top c.dflt && decide (0 ≤ c.num)))) && (decide (1 ≤ cs.length) && (decide (cs.length ≤ 6) && decide ((cs.map (·.name)).Nodup)))
def endB (c : CaseT) : Bool := match goneV (numb c.cs) (numb c.cs).length (c.rs.map (rowOf (numb c.cs))) c.chs, c.due with
  | .inl v, .inl z => decide (v = .str z)
  | .inr rs', .inr rs => rowsB rs' rs
  | _, _ => false
def okC (c : CaseT) : Bool := colsB c.cs && (decide (c.rs.length ≤ 1000) && (c.rs.all (rowMB (numb c.cs)) && (c.chs.all Ch.fits && (decide (c.chs.length ≤ 40) && endB c))))
theorem all_ok : casesL.all okC = true := by decide +kernel
theorem rowsB_prs {H : Hp} : ∀ {ds es : List Addr} {rs qs : List (List (Key × V))}, rowsB rs qs = true → Dicts H ds rs → Dicts H es qs → Prs DFD (ds.map V.ref) (es.map V.ref) H
  | [], [], [], [], _, _, _ => Prs.nil
  | d :: ds, e :: es, r :: rs, q :: qs, h, h1, h2 => by
    obtain ⟨a, b⟩ := Bool.and_eq_true_iff.mp (show ((decide (r.length = q.length) && r.all fun p => decide (valV q p.1 = some p.2) && flatB p.2) && rowsB rs qs) = true from h)
    obtain ⟨a1, a2⟩ := Bool.and_eq_true_iff.mp a
    refine Prs.cons (.inr ⟨d, e, r, q, rfl, rfl, h1.2 0 d r rfl rfl, h2.2 0 e q rfl rfl, of_decide_eq_true a1, fun p hp => ?_⟩) (rowsB_prs b ⟨Nat.succ.inj h1.1, fun i d r x y => h1.2 (i + 1) d r x y⟩ ⟨Nat.succ.inj h2.1, fun i d r x y => h2.2 (i + 1) d r x y⟩)
    obtain ⟨c1, c2⟩ := Bool.and_eq_true_iff.mp (List.all_eq_true.mp a2 p hp)
    exact ⟨of_decide_eq_true c1, c2⟩
  | [], _ :: _, [], [], _, _, h => by cases h.1
  | _ :: _, _, [], _, _, h, _ => by cases h.1
  | [], _, _ :: _, _, _, h, _ => by cases h.1
  | _ :: _, _, _ :: _, [], h, _, _ => by cases h
  | [], _, [], _ :: _, h, _, _ => by cases h
  | _ :: _, [], _ :: _, _ :: _, _, _, h => by cases h.1
def sp_law (K : PySem.W.Frag) : Sp := fun vs H Q _ => ∃ (a : Addr) (ns : List Int), vs = [.ref a] ∧ SqL K H a (ns.map V.int) ∧ ns.length ≤ 63 ∧ (∀ z ∈ ns, Builtin.Int.intBits z ≤ 1048576) ∧ ∀ H', Q (.bl true) H'
abbrev NL : List Str := ["_law_script", "_law_pool_here", "_law_some", "_law_first", "_law_columns", "_law_rows", "_law_changes", "_law_due"]
theorem ok_law (T : Tx K mg) {fd : FuncData} (F : FunD K "law" "law" (defArgs s_law) (defBody s_law) (defScope s_law) (d_law.dvs K) (d_law.kws K) (He.ga K "law") fd) : FnOk P w K mg base CX0 16 (He.ga K "law") fd ["_law_script"] (sp_law K) := by
  have Cpool := (ok_pool (P := P) (w := w) (base := base) T).up (show 1 ≤ 15 by decide)
  have Cdraw := (ok_draw (P := P) (w := w) (base := base) T).up (show 1 ≤ 15 by decide)
  have Ccs := (ok_cases (P := P) (w := w) (base := base) T).up (show 6 ≤ 15 by decide)
  have Cgone := ok_gone (P := P) (w := w) (base := base) T
  refine F.ok (CX := CX0) (N := NL) sc_law (fun vs H Q E h => ?_) (fun cdv A outer s H vs Q E hr h => ?_)
  · obtain ⟨a, ns, rfl, _⟩ := h
    rfl
  suffices hh : ∃ t, PSs (cxOf CX0 P w K mg base NL "law" (defScope s_law) (He.ga K "law") cdv A outer s H E).nox (defBody s_law) t ∧ t { nx := fun _ H' => Q .non H', rt := Q } (start NL vs) H by
    obtain ⟨t, h1, h2⟩ := hh
    exact ⟨t, h1.nox, h2⟩
  obtain ⟨a, ns, rfl, hs, hlen, _, kk⟩ := h
  have nd := sc_law.nd
  have hr2 : Room 2 _ := hr.mono (by decide)
  have hz : sizeLine = 16777216 := by decide
  refine ⟨_, (pss_cons (ps_set (i := 1) nd rfl (Or.inl rfl) (pcall Cpool hr (pa_cons (pv 0) (pa_cons pe_int pa_nil))))
        (pss_cons (ps_par (i := 2) (j := 3) rfl nd rfl rfl (by decide) rfl rfl (pa_cons (pcall0 Ccs hr) (pa_cons (pcall Cdraw hr (pa_cons (pv 1) (pa_cons pe_int pa_nil))) pa_nil)) (by rfl))
        (pss_cons (ps_for PassesOwn.never rfl (pi_list (pe_op op_cat (pe_slice sl_list (pv 2) (po_some (pv 3)) po_none) (pe_slice sl_list (pv 2) po_none (po_some (pv 3))))) (pg_lst rfl (pgs_cons (pg_name (i := 4) nd rfl (Or.inl rfl)) (pgs_cons (pg_name (i := 5) nd rfl (Or.inl rfl)) (pgs_cons (pg_name (i := 6) nd rfl (Or.inl rfl)) (pgs_cons (pg_name (i := 7) nd rfl (Or.inl rfl)) pgs_nil))))) (pss_one (ps_if (pt_cmpR (OpR.or op_ne (op_neFD hr2)) (pcall Cgone hr (pa_cons (pv 4) (pa_cons (pv 5) (pa_cons (pv 6) pa_nil)))) (pv 7) (nomark _)) (pss_one (ps_ret pe_bl)) pss_nil)))
        (pss_one (ps_ret pe_bl))))), ?_⟩
  refine q_asgX ⟨_, rfl, a, ns, 0, rfl, hs, by decide, by decide, fun p H1 z0 z1 np s1 hp => ?_⟩
  refine pl_parV ?_
  refine ⟨rfl, fun l us H2 s2 hl hA nl => ?_⟩
  refine ⟨_, rfl, p, z0, z1, 12, rfl, s2 _ _ hp, by decide, by decide, fun r y0 y1 r0 r1 => ⟨_, _, rfl, ?_⟩⟩
  have hp2 := s2 _ _ hp
  have nlp : l ≠ p := fun z => by rw [z, hp] at nl; cases nl
  have hl3 : upd H2 p (.lst [.int y0, .int y1]) l = some (.lst us) := by rw [upd_ne nlp]; exact hl
  have hA3 : AllV us (casesL.map (CaseD K fun q => H1 q = none)) (upd H2 p (.lst [.int y0, .int y1])) := AllV.imp1 (fun D hD v q => by
    obtain ⟨c, _, rfl⟩ := List.mem_map.mp hD
    exact stay_caseV (fun z => by rw [hp] at z; cases z) v H2 _ _ hp2 q) hA
  generalize upd H2 p (.lst [.int y0, .int y1]) = H3 at hl3 hA3 ⊢
  clear hl hA hp2 nlp s2
  obtain ⟨j, rfl⟩ : ∃ j : Nat, r = (j : Int) := ⟨r.toNat, by omega⟩
  have hus : us.length = 12 := by
    rw [hA3.len, List.length_map]
    rfl
  dsimp only
  refine ⟨_, rfl, _, rfl, _, rfl, l, _, rfl, sqL_of hl3, fun l1 n1 => ?_⟩
  rw [cutV_from (by omega)]
  have s4 : Same H3 (upd H3 l1 (.lst (us.drop j))) := same_new n1
  have hl1 : upd H3 l1 (.lst (us.drop j)) l1 = some (.lst (us.drop j)) := upd_same
  generalize upd H3 l1 (.lst (us.drop j)) = H4 at s4 hl1 ⊢
  refine ⟨_, rfl, _, rfl, _, rfl, l, _, rfl, sqL_of (s4 _ _ hl3), fun l2 n2 => ?_⟩
  rw [cutV_to (by omega)]
  have s5 : Same H4 (upd H4 l2 (.lst (us.take j))) := same_new n2
  have hl2 : upd H4 l2 (.lst (us.take j)) l2 = some (.lst (us.take j)) := upd_same
  generalize upd H4 l2 (.lst (us.take j)) = H5 at s5 hl2 ⊢
  refine ⟨l1, l2, _, _, rfl, rfl, s5 _ _ hl1, hl2, by rw [List.length_drop, List.length_take, hz]; omega, fun l3 n3 => ?_⟩
  have s6 : Same H5 (upd H5 l3 (.lst (us.drop j ++ us.take j))) := same_new n3
  have hl3' : upd H5 l3 (.lst (us.drop j ++ us.take j)) l3 = some (.lst (us.drop j ++ us.take j)) := upd_same
  generalize upd H5 l3 (.lst (us.drop j ++ us.take j)) = H6 at s6 hl3' ⊢
  have s36 := (s4.trans s5).trans s6
  refine ⟨l3, rfl, ⟨_, sqL_of hl3'⟩, ?_⟩
  refine for_list (xs := us.drop j ++ us.take j) (fun i σ H' => Same H6 H' ∧ ∃ x4 x5 x6 x7 : Option V, σ = [some (.ref a), some (.ref p), some (.ref l), some (.int (j : Nat)), x4, x5, x6, x7]) ⟨Same.refl _, _, _, _, _, rfl⟩ (fun i σ H' _ q => sqL_of (q.1 _ _ hl3')) ?_ ?_
  case refine_2 =>
    rintro σ H' ⟨_, x4, x5, x6, x7, rfl⟩
    exact kk H'
  rintro i x σ H' hx ⟨s', x4, x5, x6, x7, rfl⟩
  have hmem : x ∈ us := by
    rcases List.mem_append.mp (List.mem_of_getElem? hx) with h | h
    · exact List.mem_of_mem_drop h
    · exact List.mem_of_mem_take h
  obtain ⟨m, hm⟩ := List.mem_iff_getElem?.mp hmem
  obtain ⟨D, hD, d⟩ := hA3.at_ hm
  rw [List.getElem?_map, Option.map_eq_some_iff] at hD
  obtain ⟨c, hc, rfl⟩ := hD
  have good := List.all_eq_true.mp all_ok c (List.mem_of_getElem? hc)
  have d := mon_caseV x _ _ (s36.trans s') d
  clear hx hm hc hmem
  obtain ⟨pc, ws, rfl, _, hpc, d⟩ := d
  match ws, d, hpc with
  | [v1, v2, v3, v4], ⟨d1, d2, d3, d4, _⟩, hpc =>
  obtain ⟨a1, w1, rfl, _, h1, q1⟩ := d1
  obtain ⟨a2, w2, rfl, _, h2, q2⟩ := d2
  obtain ⟨a3, w3, rfl, _, h3, q3⟩ := d3
  obtain ⟨as, rfl, hcs⟩ := allV_cols q1
  obtain ⟨ds, rfl, hds⟩ := allV_dicts q2
  obtain ⟨ts, rfl, hch⟩ := allV_chs q3
  obtain ⟨g1, g⟩ := Bool.and_eq_true_iff.mp good
  obtain ⟨g2, g⟩ := Bool.and_eq_true_iff.mp g
  obtain ⟨g3, g⟩ := Bool.and_eq_true_iff.mp g
  obtain ⟨g4, g⟩ := Bool.and_eq_true_iff.mp g
  obtain ⟨g5, g6⟩ := Bool.and_eq_true_iff.mp g
  obtain ⟨k1, k⟩ := Bool.and_eq_true_iff.mp g1
  obtain ⟨k2, k⟩ := Bool.and_eq_true_iff.mp k
  obtain ⟨k3, k4⟩ := Bool.and_eq_true_iff.mp k
  have hok : ∀ e ∈ c.cs, ColOk e := fun e he => by
    obtain ⟨b1, b⟩ := Bool.and_eq_true_iff.mp (List.all_eq_true.mp k1 e he)
    obtain ⟨b2, b⟩ := Bool.and_eq_true_iff.mp b
    obtain ⟨b3, b4⟩ := Bool.and_eq_true_iff.mp b
    exact ⟨b1, b2, b3, of_decide_eq_true b4⟩
  have ho : HistOk (numb c.cs) [] := hist_begin hok (of_decide_eq_true k2) (of_decide_eq_true k3) (of_decide_eq_true k4)
  have hrow : ∀ q ∈ c.rs, RowM (numb c.cs) q := fun q hq => by
    obtain ⟨b1, b2⟩ := Bool.and_eq_true_iff.mp (List.all_eq_true.mp g3 q hq)
    refine ⟨of_decide_eq_true b1, fun e he => ?_⟩
    have b := List.all_eq_true.mp b2 e he
    cases hv : valV q (Sum.inr e.name) with
    | none =>
      rw [hv] at b
      cases b
    | some v =>
      rw [hv] at b
      exact ⟨v, rfl, b⟩
  refine ⟨pc, _, rfl, sqL_of hpc, rfl, _, _, rfl, _, _, rfl, _, _, rfl, _, _, rfl, rfl, ?_⟩
  dsimp only
  refine ⟨_, rfl, _, rfl, _, rfl, a1, a2, a3, as, ds, ts, c.cs, c.rs, c.chs, rfl, h1, hcs, hok, ho, h2, hds, of_decide_eq_true g2, hrow, h3, hch, fun e he => List.all_eq_true.mp g4 e he, of_decide_eq_true g5, fun z H7 s7 e => ?_, fun l' ds' rs' H7 s7 hl' hds' e => ?_⟩
  · unfold endB at g6
    rw [e] at g6
    revert g6 d4
    cases c.due with
    | inl z2 =>
      intro d4 g6
      have d4 : v4 = .str z2 := d4
      have g6 : V.str z = .str z2 := of_decide_eq_true g6
      rw [d4, g6]
      exact ⟨_, rfl, .inl ⟨rfl, _, rfl, iteNS rfl (nxt ⟨s'.trans s7, _, _, _, _, rfl⟩)⟩⟩
    | inr rs =>
      intro d4 g6
      cases g6
  · unfold endB at g6
    rw [e] at g6
    revert g6 d4
    cases c.due with
    | inl z2 =>
      intro d4 g6
      cases g6
    | inr rs =>
      intro d4 g6
      obtain ⟨a4, w4, rfl, _, h4, q4⟩ := d4
      obtain ⟨es, rfl, hes⟩ := allV_dicts q4
      exact ⟨_, rfl, .inr ⟨⟨l', a4, _, _, rfl, rfl, hl', s7 _ _ h4, rowsB_prs g6 hds' (hes.keep s7)⟩, fun H8 s8 => ⟨_, rfl, iteF (nxt ⟨s'.trans (s7.trans s8), _, _, _, _, rfl⟩)⟩⟩⟩
end
theorem factsR {w : World} {K : PySem.W.Frag} {h : Heap} {mg : Str → Option Value} {f : Addr} (X : K.In h) (G : h.Ns mainGlobals mg) (hfa : mg ("law" : Str) = some (.ref f)) (c : He.SaysD fal fnl K ∧ exl K = true) :
    LawOk PySem.Challenge.rw_editionrows_k12_known_tables w mg CX0 16 63 "_law_script" f K := by
  have T : Tx K mg := ⟨c.1, c.2, h, X, G⟩
  obtain ⟨fd, F⟩ := fd_law T
  have e := hfa.symm.trans (mg_law T)
  cases e
  have b := FunD.bindsA (ps := ["_law_script"]) F fun _ _ _ _ _ _ us hl => match us, hl with | [_], _ => rfl
  exact ⟨fd, sp_law K, fun s v => b s [v] rfl, fun H a ns hl hb _ hS => ⟨a, ns, rfl, hS, hl, hb, fun _ => rfl⟩, fun base _ _ => ok_law T F⟩
end ER
open PySem PySem.W PySem.Calls PyProof.Rows
set_option maxRecDepth 100000 in
set_option maxHeartbeats 8000000 in
theorem PySem.Challenge.cw_editionrows_k12_known_tables_holds : PySem.Challenge.rw_editionrows_k12_known_tables.Holds := by
  w_on; o_law
  refine HandSHeadRun.head_any (r := OpenLaw.row PySem.Challenge.rw_editionrows_k12_known_tables) (q := view (OpenLaw.row PySem.Challenge.rw_editionrows_k12_known_tables).prog [66]) (H := ER.hkR) (ob := ER.obR) (M := 9000) (loose := ER.looseR) (d := HandSHeadRun.topDef (OpenLaw.row PySem.Challenge.rw_editionrows_k12_known_tables).prog 66) (kwd := []) ER.obR_eq
    (by kernel_rfl) (fun s => by kernel_rfl) ER.runR (by kernel_rfl) (by kernel_rfl) (by kernel_rfl) (by rfl) (by first | assumption | decide +kernel) (by decide +kernel) ⟨rfl, rfl, rfl, rfl, rfl, by decide +kernel⟩ ?hw ?hc
  case hw => w_witness2
  case hc =>
    refine Evl2.walk_bits (l := PySem.Challenge.rw_editionrows_k12_known_tables) (n := 63) (k := 16) (x := "_law_script") (CX := L2.CX0) rfl (by decide) (by kernel_rfl) ⟨rfl, by decide, by decide⟩ ?F (fun _ _ _ _ z => z)
    intro w mg fa h Y G hmg0
    obtain ⟨K, KX, c⟩ := Y
    have hmg : mg ("law" : PySem.Str) = some (.ref fa) := by
      have e : (HandSHeadRun.topDef (OpenLaw.row PySem.Challenge.rw_editionrows_k12_known_tables).prog 66).name = ("law" : PySem.Str) := by kernel_rfl
      rw [← e]
      exact hmg0
    exact ⟨K, KX, ER.factsR (w := w) KX G hmg c⟩

