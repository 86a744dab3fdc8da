/- Layer 9: what the law of ScopeOrder, at any size, wants. -/
import Derived.Test.YthggoohchjifnaaDoorScX
import Derived.Test.YthggoohchjifnaaDoorScY
